import PyProof.Rows.All
import Wide.All
import OpenK.AllK
import Wide.FinOn
import PyProof.EqAt
import PyProof.EqKinds
import PyProof.TupleCall
import KE.KExcInit
import HandS.ExcOwn
import HandS.Words
import HandS.WordsList
import HandS.TryMany
import HandS.WordsExc
import HandS.ForMost
import HandS.ForExc
import HandS.IsInst
import HandS.Zip
import HandS.Walk
import HandS.Conv
import HandS.Star
import HandS.TupAny
import KE.GoesNew
import KE.GoesMore
import KE.GoesEnum
import HandS.Deep
import HandS.SetFor
import HandS.TryOnly
import KE.DataMinMax
import HandS.Style
import HandS.Comp
import HandS.Lambda
import HandS.TupMul
import HandS.DictTup
import HandS.Iter
import HandS.Dict
import KE.KDictKeyed
import KE.KDictWalk
import HandS.Codes
import KE.KLam
import HandS.HeadEnd
import HandS.EndTab
import PySem.Challenge.RW_foldsall_k02_whole_places_on_which_opera
set_option Elab.async false
set_option linter.all false
set_option maxRecDepth 100000
set_option maxHeartbeats 8000000
/-! Error classes over a base class of the program over Exception, one field or none: made, raised, named by a clause. -/
namespace FX
open PySem PySem.W PySem.Calls PyProof.Rows PySem.HandSPX
/-! ### what the written part says of the classes -/
abbrev tl : List Value := [.type "Exception", .type "BaseException", .type "object"]
/-- the base class, at B -/
structure BaseTxt (K : Frag) (mg : Str → Option Value) (b : Str) (B : Addr) : Prop where
  gB : mg b = some (.ref B)
  at_ : ∃ q N bs sn sub ab col dd k0 k1 k2 k3 k5, K.lookup B = some (excClassObj b q B N bs tl true sn sub ab col dd k0 k1 k2 k3 k5 "Exception.__new__")
/-- a class called x at C, over the one at B -/
structure ErrTxt (K : Frag) (mg : Str → Option Value) (B : Addr) (x : Str) (C : Addr) : Prop where
  gC : mg x = some (.ref C)
  at_ : ∃ q N bs sn sub ab col dd k0 k1 k2 k3 k5, K.lookup C = some (excClassObj x q C N bs (.ref B :: tl) true sn sub ab col dd k0 k1 k2 k3 k5 "Exception.__new__")
  kC : keepIn K (.ref C) = true
theorem cls_of {K : Frag} {x q : Str} {C N : Addr} {bs bm : List Value} {hd : Bool} {sn : List Str} {sub : List Value} {ab : Bool} {col : Option Bool} {dd : Option Addr} {k0 k1 k2 k3 k5 : Option Value} {ni : String}
    (h : K.lookup C = some (excClassObj x q C N bs bm hd sn sub ab col dd k0 k1 k2 k3 k5 ni)) :
    clsIn K C = some { name := x, bases := bs, mro := .ref C :: bm, ns := N, qualname := q, hasDict := hd, slotNames := sn, subclasses := sub, abstract := ab, collection := col, hasDel := false } := by
  unfold clsIn
  rw [h]
theorem mro_of {K : Frag} {x q : Str} {C N : Addr} {bs bm : List Value} {hd : Bool} {sn : List Str} {sub : List Value} {ab : Bool} {col : Option Bool} {dd : Option Addr} {k0 k1 k2 k3 k5 : Option Value} {ni : String}
    (h : K.lookup C = some (excClassObj x q C N bs bm hd sn sub ab col dd k0 k1 k2 k3 k5 ni)) (v : Value) : subIn K (.ref C) v = some ((Value.ref C :: bm).contains v) := by
  show mroIn K C v = _
  unfold mroIn
  rw [cls_of h]
  rfl
theorem ty_of {K : Frag} {x q : Str} {C N : Addr} {bs bm : List Value} {hd : Bool} {sn : List Str} {sub : List Value} {ab : Bool} {col : Option Bool} {dd : Option Addr} {k0 k1 k2 k3 k5 : Option Value} {ni : String}
    (h : K.lookup C = some (excClassObj x q C N bs bm hd sn sub ab col dd k0 k1 k2 k3 k5 ni)) : typeIn K (.ref C) = some (.type "type") := by
  show (K.lookup C).map (·.cls) = _
  rw [h]
  rfl
/-- whether «except D» names an error of the class C -/
theorem exm_of {K : Frag} {cls : Value} {y q : Str} {D N : Addr} {bs bm : List Value} {hd : Bool} {sn : List Str} {sub : List Value} {ab : Bool} {col : Option Bool} {dd : Option Addr} {k0 k1 k2 k3 k5 : Option Value} {ni : String} {r : Bool}
    (h : K.lookup D = some (excClassObj y q D N bs bm hd sn sub ab col dd k0 k1 k2 k3 k5 ni)) (hb : bm.contains (.type "BaseException") = true) (hs : subIn K cls (.ref D) = some r) : exmOne K cls (.ref D) = some r := by
  have e1 : subIn K (.ref D) (.type "BaseException") = some true := by
    rw [mro_of h, List.contains_cons, hb, Bool.or_true]
  unfold exmOne
  rw [e1, if_pos (by decide)]
  have e2 : ((clsIn K D).isSome && typeIn K (.ref D) == some (.type "type")) = true := by
    rw [cls_of h, ty_of h]
    rfl
  show (if ((clsIn K D).isSome && typeIn K (.ref D) == some (.type "type")) = true then subIn K cls (.ref D) else none) = _
  rw [if_pos e2]
  exact hs
variable {K : Frag} {mg : Str → Option Value} {b x y : Str} {B C D : Addr}
theorem ErrTxt.sub (T : ErrTxt K mg B x C) : subIn K (.ref C) (.type "BaseException") = some true := by
  obtain ⟨q, N, bs, sn, sub, ab, col, dd, k0, k1, k2, k3, k5, h⟩ := T.at_
  rw [mro_of h]
  rfl
theorem ErrTxt.ty (T : ErrTxt K mg B x C) : typeIn K (.ref C) = some (.type "type") := by
  obtain ⟨q, N, bs, sn, sub, ab, col, dd, k0, k1, k2, k3, k5, h⟩ := T.at_
  exact ty_of h
theorem ErrTxt.dict (T : ErrTxt K mg B x C) : hasDictIn K C = true := by
  obtain ⟨q, N, bs, sn, sub, ab, col, dd, k0, k1, k2, k3, k5, h⟩ := T.at_
  unfold hasDictIn
  rw [cls_of h]
  rfl
theorem ErrTxt.over (T : ErrTxt K mg B x C) : excOver K C tl = true := by
  obtain ⟨q, N, bs, sn, sub, ab, col, dd, k0, k1, k2, k3, k5, h⟩ := T.at_
  unfold excOver
  rw [cls_of h]
  show (C == C && excTail tl (.ref B :: tl)) = true
  rw [beq_self_eq_true]
  show excTail tl tl = true
  decide +kernel
theorem ErrTxt.ne (T : ErrTxt K mg B x C) (U : ErrTxt K mg B y D) (h : x ≠ y) : C ≠ D := by
  obtain ⟨q, N, bs, sn, sub, ab, col, dd, k0, k1, k2, k3, k5, h1⟩ := T.at_
  obtain ⟨q', N', bs', sn', sub', ab', col', dd', k0', k1', k2', k3', k5', h2⟩ := U.at_
  intro e
  subst e
  rw [h1] at h2
  injection h2 with h2
  injection h2 with _ _ h2 _
  injection h2 with h2
  injection h2 with h2
  exact h h2
theorem ErrTxt.neB (T : ErrTxt K mg B x C) (U : BaseTxt K mg b D) (h : x ≠ b) : C ≠ D := by
  obtain ⟨q, N, bs, sn, sub, ab, col, dd, k0, k1, k2, k3, k5, h1⟩ := T.at_
  obtain ⟨q', N', bs', sn', sub', ab', col', dd', k0', k1', k2', k3', k5', h2⟩ := U.at_
  intro e
  subst e
  rw [h1] at h2
  injection h2 with h2
  injection h2 with _ _ h2 _
  injection h2 with h2
  injection h2 with h2
  exact h h2
/-- its own clause names it -/
theorem ErrTxt.own (T : ErrTxt K mg B x C) : exmOne K (.ref C) (.ref C) = some true := by
  obtain ⟨q, N, bs, sn, sub, ab, col, dd, k0, k1, k2, k3, k5, h⟩ := T.at_
  refine exm_of h rfl ?_
  rw [mro_of h, List.contains_cons, beq_self_eq_true, Bool.true_or]
/-- another's doesn't -/
theorem ErrTxt.other (T : ErrTxt K mg B x C) (S : BaseTxt K mg b B) (U : ErrTxt K mg B y D) (h : x ≠ y) (hb : y ≠ b) : exmOne K (.ref C) (.ref D) = some false := by
  have n1 : C ≠ D := T.ne U h
  have n2 : D ≠ B := U.neB S hb
  obtain ⟨q, N, bs, sn, sub, ab, col, dd, k0, k1, k2, k3, k5, h1⟩ := T.at_
  obtain ⟨q', N', bs', sn', sub', ab', col', dd', k0', k1', k2', k3', k5', h2⟩ := U.at_
  refine exm_of h2 rfl ?_
  rw [mro_of h1]
  have e1 : (Value.ref D == Value.ref C) = false := by simpa using fun z : D = C => n1 z.symm
  have e2 : (Value.ref D == Value.ref B) = false := by simpa using n2
  rw [List.contains_cons, List.contains_cons, e1, e2]
  rfl
/-- the base's does -/
theorem ErrTxt.base (T : ErrTxt K mg B x C) (S : BaseTxt K mg b B) : exmOne K (.ref C) (.ref B) = some true := by
  obtain ⟨q, N, bs, sn, sub, ab, col, dd, k0, k1, k2, k3, k5, h1⟩ := T.at_
  obtain ⟨q', N', bs', sn', sub', ab', col', dd', k0', k1', k2', k3', k5', h2⟩ := S.at_
  refine exm_of h2 rfl ?_
  rw [mro_of h1, List.contains_cons, List.contains_cons, beq_self_eq_true, Bool.true_or, Bool.or_true]
end FX
/-! The one-field __init__ of an error, and the making of the error. -/
namespace FX
open PySem PySem.W PySem.Calls PyProof.Rows PySem.HandSPX
def inA (f : Str) (p1 p2 : Pos) : Arguments := { posonlyargs := [], args := [{ arg := "self", annotation := none, pos := p1 }, { arg := f, annotation := none, pos := p2 }], vararg := none, kwonlyargs := [], kw_defaults := [], kwarg := none, defaults := [] }
def inB (f : Str) (q1 q2 q3 q4 : Pos) : List Stmt := [.Assign [.Attribute (.Name "self" q1) f q2] (.Name f q3) q4]
def inS (f : Str) : Scope := { kind := .function, names := [(PySem.Str.ofString "self", .local), (f, .local)], isGenerator := false, isCoroutine := false, more := [] }
/-- what the written part says of the __init__ (at i) of the class at C: it stores its one argument under f -/
structure InitTxt (K : Frag) (qn f : Str) (C i : Addr) : Prop where
  sa : findIn K (.ref C) "__setattr__" = some (some (.builtin "object.__setattr__"))
  ga : findIn K (.ref C) "__getattribute__" = some (some (.builtin "BaseException.__getattribute__"))
  gg : findIn K (.ref C) "__getattr__" = some none
  noF : findIn K (.ref C) f = some none
  iC : findIn K (.ref C) "__init__" = some (some (.ref i))
  tI : typeIn K (.ref i) = some (.type "function")
  fn : ∃ (oc : Value) (od : Option Addr) (doc pm : Value) (an : Option Addr) (cdv ct : Value) (osl : Array (Option Value)) (p1 p2 q1 q2 q3 q4 : Pos),
    K.lookup i = some ⟨oc, od, .func (fnOf "__init__" qn (inA f p1 p2) (inB f q1 q2 q3 q4) (inS f) .none .none doc pm an cdv ct), osl⟩ ∧ codeIn K cdv qn = true
  ff : f = "at" ∨ f = "word"
theorem InitTxt.taker {K : Frag} {qn f : Str} {C i : Addr} (T : InitTxt K qn f C i) : takerIn K C f = some none := by
  unfold takerIn
  rw [T.noF]
  rfl
/-- an attribute stored into an exception that has none yet -/
theorem store_first {prog : Program} {w : World} {A : Around} {R : Result → Shared → Prop} {hp : Heap} {g : Array GenState} {d : Drawn} {t : Nat} {os : OsState} {K : Frag} {f : Str} {tk : Tok} {v : Value} {x C : Addr} {fv : Array Value}
    (X : K.In hp) (hx : hp.get? x = some { cls := .ref C, data := .fields fv }) (ho : excOver K C tl = true) (hh : hasDictIn K C = true) (ht : takerIn K C f = some none)
    (hq : ∀ h' tk' dx, (∀ b o, b ≠ x → hp.get? b = some o → h'.get? b = some o) → hp.objs.size ≤ dx → dx ≠ x → h'.get? x = some { cls := .ref C, dict := some dx, data := .fields fv } →
      h'.Ns1 dx (fun y => if y = f then some v else none) → R (.ok (.ret .none)) ⟨h', g, d, tk', os⟩) :
    codeAny (model prog w) A (.call (.builtin "object.__setattr__") ⟨[.ref x, .str f tk, v], []⟩) R ⟨hp, g, d, t, os⟩ := by
  have ne : x ≠ hp.objs.size := Nat.ne_of_lt (Heap.lt_size hx)
  refine osa_openX (od := none) (ox := { cls := .ref C, data := .fields fv }) F.store_Exception X ⟨hx, rfl, rfl, trivial⟩ ho ht fun b => ?_
  obtain ⟨cd, hc, hd⟩ := any_some hh
  have Lc : Looks (model prog w) hp (classData C) cd := looks_clsIn X hc
  obtain ⟨nm, bs, mro, ns, qn, hd', sn, sb, ab, col, del⟩ := cd
  dsimp only at hd
  subst hd
  show wpAny _ _ (Builtin.ObjectAttr.storeInOwnDict (.ref x) (.ref C) (.str f tk) f v b) _ _ _
  unfold Builtin.ObjectAttr.storeInOwnDict Builtin.ObjectAttr.ownDictForStores
  repeat (first | (with_reducible refine store_in_new ?_ ?_) | (with_reducible refine wpAny_loadPart_at hx ?_) | (with_reducible refine Lc.at ?_) | wp_step)
  · refine ⟨_, #[], _, (Heap.get?_update_ne _ _ _ _ (Ne.symm ne)).trans (Heap.get?_push_at rfl rfl), rfl, fun e he => ?_, fun _ => rfl⟩
    simp at he
  · intro h' tk' n1 sb'
    have hx1 : (hp.push { cls := .type "dict", data := .dict #[] }).get? x = some { cls := .ref C, data := .fields fv } := Heap.get?_push_of_some _ hx
    refine hq h' tk' hp.objs.size (fun c o hc ho' => ?_) (Nat.le_refl _) (Ne.symm ne) ?_ n1
    · rw [sb'.2 c (Nat.ne_of_lt (Heap.lt_size ho')), Heap.get?_update_ne _ _ _ _ hc]
      exact Heap.get?_push_of_some _ ho'
    · rw [sb'.2 x ne]
      exact Heap.get?_update_self _ hx1 rfl
end FX
namespace FX
open PySem PySem.W PySem.Calls PyProof.Rows PySem.HandSPX
/-- a local name is read -/
theorem local_read {M : Model} {s : Shared} {nm : Str} {sc : Scope} {L a : Addr} {cd : Value} {m : Str → Option Value} {y : Str} {pos : Pos} {v : Value} {Q : Value → Shared → Prop} {A : Around} {E : Value → Shared → Prop}
    (hn : s.heap.Ns L m) (hv : m y = some v) (h : Q v s) (hk : sc.kind = .function := by rfl) (hl : (envOfC nm sc L a cd).kindOf y = some .local := by rfl) (hd : (y == ("__debug__" : Str)) = false := by decide) :
    wpAny M A (eval (.Name y pos) (envOfC nm sc L a cd)) Q E s :=
  wpAny_Name (wpAny_loadName_local hk hl hn hv h) hd
/-- the error at a behind its __init__: its dict at dx holds f -/
structure Inited (h h' : Heap) (a C dx t1 : Addr) (f : Str) (v : Value) : Prop where
  stay : ∀ c o, c ≠ a → h.get? c = some o → h'.get? c = some o
  it : h'.get? a = some { cls := .ref C, dict := some dx, data := .fields #[.ref t1, .none, .none, .none, .bool false, .none] }
  up : h.objs.size ≤ dx
  ne : dx ≠ a
  has : h'.Ns1 dx (fun y => if y = f then some v else none)
section
variable {prog : Program} {w : World} {A : Around} {E : Value → Shared → Prop} {R : Result → Shared → Prop} {s : Shared} {K : Frag} {mg : Str → Option Value} {b x qn f : Str} {B C i : Addr}
theorem init_run (T : ErrTxt K mg B x C) (U : InitTxt K qn f C i) {a t0 : Addr} {v : Value} (X : K.In s.heap) (hlim : s.heap.NoLimit) (ha : s.heap.get? a = some (excO C t0)) (hroom : A.depth < recursionLimit)
    (hq : ∀ h' tk dx, Inited s.heap h' a C dx t0 f v → R (.ok (.ret .none)) { s with heap := h', toks := tk }) : codeAny (model prog w) A (.call (.ref i) ⟨[.ref a, v], []⟩) R s := by
  have hdict := T.dict
  have hover := T.over
  have htk := U.taker
  obtain ⟨oc, od, doc, pm, an, cdv, ct, osl, p1, p2, q1, q2, q3, q4, hfn, hcd⟩ := U.fn
  have hsa := U.sa
  rcases U.ff with e | e
  all_goals
    subst e
    refine Att.call_fn (binds := [("self", .ref a), (_, v)]) X hlim hfn hcd hroom (BindsTo.of_eq (by first | rfl | with_unfolding_all rfl)) (by first | rfl | decide | with_unfolding_all rfl) (fun s1 IC => ?_) rfl rfl rfl
    obtain ⟨h1, tk1, rfl⟩ := IC.toInCall.same
    have kp : ∀ c o, s.heap.get? c = some o → h1.get? c = some o := IC.toInCall.keep
    have ns := IC.toInCall.ns
    have X1 : K.In h1 := X.keeps kp
    have a1 := kp _ _ ha
    show wpAny _ _ (execs _ _) _ _ _
    refine wpAny_execs_cons (plainObj_wpAny_Assign_Attribute ?_)
    refine local_read (v := v) ns (by first | rfl | with_unfolding_all rfl | kernel_rfl) ?_
    refine local_read (v := .ref a) ns (by first | rfl | with_unfolding_all rfl | kernel_rfl) ?_
    refine set_plain X1 (ox := excO C t0) (od := none) ⟨a1, rfl, rfl, trivial⟩ hsa ?_
    refine store_first X1 a1 hover hdict htk (fun h3 tk3 dx k3 dn dne a3 n3 => ?_)
    show wpAny _ _ (execs _ _) _ _ _
    have lt : s.heap.objs.size < h1.objs.size := ns.lt
    exact wpAny_execs_nil (hq h3 tk3 dx ⟨fun c o hc e => k3 c o hc (kp c o e), a3, Nat.le_of_lt (Nat.lt_of_lt_of_le lt dn), dne, n3⟩)
/-- the error made -/
structure MadeErr (h h' : Heap) (e C d : Addr) (f : Str) (v : Value) : Prop where
  stay : ∀ c o, h.get? c = some o → h'.get? c = some o
  new : h.objs.size ≤ e
  it : ∃ oe vs, h'.get? e = some oe ∧ oe.cls = .ref C ∧ oe.dict = some d ∧ oe.data = .fields vs ∧ vs[1]? = some .none
  up : h.objs.size ≤ d
  ne : d ≠ e
  has : h'.Ns1 d (fun y => if y = f then some v else none)
theorem made_run (T : ErrTxt K mg B x C) (U : InitTxt K qn f C i) {v : Value} (X : K.In s.heap) (hlim : s.heap.NoLimit) (hroom : A.depth + 1 < recursionLimit)
    (hq : ∀ h' tk e d, MadeErr s.heap h' e C d f v → R (.ok (.ret (.ref e))) { s with heap := h', toks := tk }) : codeAny (model prog w) A (.call (.ref C) ⟨[v], []⟩) R s := by
  obtain ⟨q, N, bs, sn, sub, ab, col, dd, k0, k1, k2, k3, k5, hC⟩ := T.at_
  obtain ⟨hp, g, dr, tk, os⟩ := s
  have kp : ∀ c o, hp.get? c = some o → ((hp.push (kdv_tup [v])).push (excO C hp.objs.size)).get? c = some o := fun c o e => Heap.get?_push_of_some _ (Heap.get?_push_of_some _ e)
  have it : ((hp.push (kdv_tup [v])).push (excO C hp.objs.size)).get? (hp.objs.size + 1) = some (excO C hp.objs.size) := by heap_get
  refine call_own F.excBase_Exception (bm := .ref B :: tl) (fun Y => excTail_contains (bmB := tl) Y _ (by show excTail tl tl = true; decide +kernel)) (X _ _ hC) (looks_findIn X U.iC) (fun self => bind_fn X self U.tI)
    (by show 1 ≤ sizeLine; rw [sizeLine_eq]; omega) ?_
  refine init_run (s := ⟨(hp.push (kdv_tup [v])).push (excO C hp.objs.size), g, dr, tk, os⟩) T U (X.keeps kp) (hlim.keeps kp) it ?_ fun h' tk' dx ⟨st, hx, dn, dne, hns⟩ => ?_
  · show A.depth + 1 < recursionLimit
    exact hroom
  · have old : ∀ c o, hp.get? c = some o → h'.get? c = some o := fun c o e => st c o (Nat.ne_of_lt (Nat.lt_succ_of_lt (Heap.lt_size e))) (kp c o e)
    have z : hp.objs.size + 1 + 1 ≤ dx := by
      have q := dn
      rw [Heap.size_push, Heap.size_push] at q
      exact q
    refine ⟨rfl, hq h' tk' (hp.objs.size + 1) dx ⟨old, Nat.le_succ _, ⟨_, _, hx, rfl, rfl, rfl, rfl⟩, ?_, dne, hns⟩⟩
    show hp.objs.size ≤ dx
    omega
end
end FX
/-! The error made by a call with the field's name: x(f=v). -/
namespace FX
open PySem PySem.W PySem.Calls PyProof.Rows PySem.HandSPX
section
variable {prog : Program} {w : World} {A : Around} {E : Value → Shared → Prop} {R : Result → Shared → Prop} {s : Shared} {K : Frag} {mg : Str → Option Value} {b x qn f : Str} {B C i : Addr}
theorem init_kw (T : ErrTxt K mg B x C) (U : InitTxt K qn f C i) {a t0 : Addr} {v : Value} (X : K.In s.heap) (hlim : s.heap.NoLimit) (ha : s.heap.get? a = some (excO C t0)) (hroom : A.depth < recursionLimit)
    (hq : ∀ h' tk dx, Inited s.heap h' a C dx t0 f v → R (.ok (.ret .none)) { s with heap := h', toks := tk }) : codeAny (model prog w) A (.call (.ref i) ⟨[.ref a], [(f, v)]⟩) R s := by
  have hdict := T.dict
  have hover := T.over
  have htk := U.taker
  obtain ⟨oc, od, doc, pm, an, cdv, ct, osl, p1, p2, q1, q2, q3, q4, hfn, hcd⟩ := U.fn
  have hsa := U.sa
  rcases U.ff with e | e
  all_goals
    subst e
    refine Att.call_fn (binds := [("self", .ref a), (_, v)]) X hlim hfn hcd hroom (BindsTo.of_eq (by first | rfl | with_unfolding_all rfl)) (by first | rfl | decide | with_unfolding_all rfl) (fun s1 IC => ?_) rfl rfl rfl
    obtain ⟨h1, tk1, rfl⟩ := IC.toInCall.same
    have kp : ∀ c o, s.heap.get? c = some o → h1.get? c = some o := IC.toInCall.keep
    have ns := IC.toInCall.ns
    have X1 : K.In h1 := X.keeps kp
    have a1 := kp _ _ ha
    show wpAny _ _ (execs _ _) _ _ _
    refine wpAny_execs_cons (plainObj_wpAny_Assign_Attribute ?_)
    refine local_read (v := v) ns (by first | rfl | with_unfolding_all rfl | kernel_rfl) ?_
    refine local_read (v := .ref a) ns (by first | rfl | with_unfolding_all rfl | kernel_rfl) ?_
    refine set_plain X1 (ox := excO C t0) (od := none) ⟨a1, rfl, rfl, trivial⟩ hsa ?_
    refine store_first X1 a1 hover hdict htk (fun h3 tk3 dx k3 dn dne a3 n3 => ?_)
    show wpAny _ _ (execs _ _) _ _ _
    have lt : s.heap.objs.size < h1.objs.size := ns.lt
    exact wpAny_execs_nil (hq h3 tk3 dx ⟨fun c o hc e => k3 c o hc (kp c o e), a3, Nat.le_of_lt (Nat.lt_of_lt_of_le lt dn), dne, n3⟩)
end
section
variable {M : Model} {prog : Program} {w : World} {A : Around} {E : Value → Shared → Prop} {R : Result → Shared → Prop} {h : Heap} {g : Array GenState} {d : Drawn} {t : Nat} {os : OsState}
variable {nm q : Str} {C N : Addr} {bs bm : List Value} {hdct : Bool} {sn : List Str} {sub : List Value} {ab : Bool} {col : Option Bool} {dd : Option Addr} {k0 k1 k2 k3 k5 : Option Value}
/-- the base's own tail, told -/
structure TailIs (bm : List Value) : Prop where
  ex : bm.contains (.type "Exception") = true
  atr : bm.contains (.type "AttributeError") = false
  nme : bm.contains (.type "NameError") = false
theorem check_call_kw {kw : List (Str × Value)} {Q : Unit → Shared → Prop} (hC : h.get? C = some (excClassObj nm q C N bs bm hdct sn sub ab col dd k0 k1 k2 k3 k5 "Exception.__new__")) (hq : Q () ⟨h, g, d, t, os⟩) :
    wpAny M A (checkBuiltinCall "type.__call__" ⟨[.ref C], kw⟩) Q E ⟨h, g, d, t, os⟩ := by
  have f3 := tc_sub
  have hT : (⟨h, g, d, t, os⟩ : Shared).TypeIs (.ref C) "type" := ⟨_, hC, rfl⟩
  simp only [checkBuiltinCall, tc_kind, tc_split]
  repeat (any_goals (first | assumption | (with_reducible refine wpAny_loadPart_at hC ?_) | (with_reducible refine wpAny_onRaise ?_) | (with_reducible refine wpAny_map ?_) | wp_step))
theorem check_new_kw (T : TailIs bm) {kw : List (Str × Value)} {Q : Unit → Shared → Prop} (hC : h.get? C = some (excClassObj nm q C N bs bm hdct sn sub ab col dd k0 k1 k2 k3 k5 "Exception.__new__")) (hq : Q () ⟨h, g, d, t, os⟩) :
    wpAny M A (checkBuiltinCall "Exception.__new__" ⟨[.ref C], kw⟩) Q E ⟨h, g, d, t, os⟩ := by
  have FB := F.excBase_Exception
  have hc : (Value.ref C :: bm).contains (.type "Exception") = true := by rw [List.contains_cons, T.ex, Bool.or_true]
  have hstar := FB.noStar
  simp only [checkBuiltinCall, FB.newKind, FB.newSplit, FB.newRow]
  repeat (first | (refine wpAny_loadPart_at hC ?_) | (refine wpAny_isSubtype_exc hC ?_; rw [hc]) | (refine wpAny_staticBase_exc hC ?_) | (refine wpAny_madeBy_exc hC ?_) | (simp only [bne_self_eq_false, Bool.false_eq_true, if_false]) | wp_step)
  exact hq
theorem new_kw (T : TailIs bm) {kw : List (Str × Value)} (hC : h.get? C = some (excClassObj nm q C N bs bm hdct sn sub ab col dd k0 k1 k2 k3 k5 "Exception.__new__"))
    (hq : R (.ok (.ret (.ref (h.objs.size + 1)))) ⟨(h.push { cls := .type "tuple", data := .seq #[] }).push (excO C h.objs.size), g, d, t, os⟩) :
    codeAny (model prog w) A (.builtin "Exception.__new__" ⟨[.ref C], kw⟩) R ⟨h, g, d, t, os⟩ := by
  have FB := F.excBase_Exception
  have hends := FB.ends
  have c1 : (Value.ref C :: bm).contains (.type "Exception") = true := by rw [List.contains_cons, T.ex, Bool.or_true]
  have c2 : (Value.ref C :: bm).contains (.type "AttributeError") = false := by
    rw [List.contains_cons, T.atr]
    rfl
  have c3 : (Value.ref C :: bm).contains (.type "NameError") = false := by
    rw [List.contains_cons, T.nme]
    rfl
  refine codeAny_builtinAt FB.entry ?_
  unfold Builtin.«BaseException.__new__»
  refine PySem.wpAt_bind ?_
  show PySem.wpAt _ _ _ (stack >>= _) _ _ _
  refine PySem.wpAt_bind (PySem.wpAt_stack fun p below => PySem.wpAt_of_wpAny ?_)
  wp_walk
  refine PySem.wpAt_of_wpAny ?_
  rw [FB.owner]
  repeat (first | (with_reducible refine wpAny_madeHere_exc FB.canon hC ?_) | (with_reducible refine wpAny_loadPart_at hC ?_) | (with_reducible refine wpAny_isSubtype_exc hC ?_; first | rw [c1] | rw [c2] | rw [c3]) | wp_step)
  show R _ _
  rw [Heap.size_push]
  exact hq
theorem type_call_kw (T : TailIs bm) {kw : List (Str × Value)} {i : Addr} {Q : Fin → Shared → Prop} (hC : h.get? C = some (excClassObj nm q C N bs bm hdct sn sub ab col dd k0 k1 k2 k3 k5 "Exception.__new__"))
    (hi : Looks (model prog w) h (typeLookup (.ref C) "__init__") (some (.ref i))) (hb : ∀ self, Looks (model prog w) h (bindSpecial (.ref i) self) (.ref i, [self]))
    (hq : codeAny (model prog w) A (.call (.ref i) ⟨[.ref (h.objs.size + 1)], kw⟩)
      (fun r s' => match r with | .ok (.ret v) => v = .none ∧ Q (.done (.ret (.ref (h.objs.size + 1)))) s' | .ok _ => False | .error e => E e s')
      ⟨(h.push (kdv_tup [])).push (excO C h.objs.size), g, d, t, os⟩) :
    wpAny (model prog w) A (Builtin.«type.__call__» ⟨[.ref C], kw⟩) Q E ⟨h, g, d, t, os⟩ := by
  have FB := F.excBase_Exception
  repeat (first | (with_reducible refine wpAny_loadPart_at hC ?_) | (with_reducible refine wpAny_madeBy_exc hC ?_) | wp_step)
  refine codeAny_call_builtin_code (Code.quiet_builtin _ FB.quiet) (check_new_kw T hC ?_)
  refine new_kw T hC ?_
  show wpAny _ _ _ _ _ _
  have kp : ∀ c o, h.get? c = some o → ((h.push (kdv_tup [])).push (excO C h.objs.size)).get? c = some o := fun c o e => Heap.get?_push_of_some _ (Heap.get?_push_of_some _ e)
  have hC1 := kp _ _ hC
  have it : ((h.push (kdv_tup [])).push (excO C h.objs.size)).get? (h.objs.size + 1) = some (excO C h.objs.size) := by heap_get
  have cc : (Value.ref C :: bm).contains (.ref C) = true := by simp
  have i1 := hi.keeps kp
  have b1 := (hb (.ref (h.objs.size + 1))).keeps kp
  unfold isInstance
  repeat (first | (with_reducible refine wpAny_loadPart_at it ?_) | (with_reducible refine wpAny_isSubtype_exc hC1 ?_; rw [cc]) | wp_step)
  show wpAny _ _ (typeLookup (.ref C) _) _ _ _
  refine i1.at (wpAny_holding (wpAny_bind (b1.at (wpAny_bind (wpAny_call (codeAny_mono hq fun r s' z => ?_))))))
  rcases r with e | (v | _ | _ | _) <;> first | exact z | exact z.elim | skip
  obtain ⟨rfl, z⟩ := z
  first
    | exact wpAny_pure (wpAny_pure z)
    | (wp_walk; exact z)
theorem call_kw (T : TailIs bm) {kw : List (Str × Value)} {i : Addr} (hC : h.get? C = some (excClassObj nm q C N bs bm hdct sn sub ab col dd k0 k1 k2 k3 k5 "Exception.__new__"))
    (hi : Looks (model prog w) h (typeLookup (.ref C) "__init__") (some (.ref i))) (hb : ∀ self, Looks (model prog w) h (bindSpecial (.ref i) self) (.ref i, [self]))
    (hq : codeAny (model prog w) (A.under (.builtin "type.__call__" ⟨[.ref C], kw⟩)) (.call (.ref i) ⟨[.ref (h.objs.size + 1)], kw⟩) (InitBack (h.objs.size + 1) R)
      ⟨(h.push (kdv_tup [])).push (excO C h.objs.size), g, d, t, os⟩) :
    codeAny (model prog w) A (.call (.ref C) ⟨[], kw⟩) R ⟨h, g, d, t, os⟩ := by
  have f1 := tc_lookup
  have f2 := tc_bind (.ref C)
  have hT : (⟨h, g, d, t, os⟩ : Shared).TypeIs (.ref C) "type" := ⟨_, hC, rfl⟩
  refine codeAny_of_tree ?_
  show wpAny _ _ (callAny (.ref C) _) _ _ _
  repeat (any_goals (first | assumption | (with_reducible refine wpAny_loadPart_at hC ?_) | wp_step))
  refine ⟨rfl, ?_⟩
  refine codeAny_call_builtin_at (Code.quiet_builtin _ (by decide +kernel)) entry_typeCall (check_call_kw hC (type_call_kw T hC hi hb ?_))
  refine codeAny_mono hq fun r s' z => ?_
  rcases r with e | (v | _ | _ | _) <;> exact z
end
section
variable {prog : Program} {w : World} {A : Around} {E : Value → Shared → Prop} {R : Result → Shared → Prop} {s : Shared} {K : Frag} {mg : Str → Option Value} {b x qn f : Str} {B C i : Addr}
theorem made_kw (T : ErrTxt K mg B x C) (U : InitTxt K qn f C i) {v : Value} (X : K.In s.heap) (hlim : s.heap.NoLimit) (hroom : A.depth + 1 < recursionLimit)
    (hq : ∀ h' tk e d, MadeErr s.heap h' e C d f v → R (.ok (.ret (.ref e))) { s with heap := h', toks := tk }) : codeAny (model prog w) A (.call (.ref C) ⟨[], [(f, v)]⟩) R s := by
  obtain ⟨q, N, bs, sn, sub, ab, col, dd, k0, k1, k2, k3, k5, hC⟩ := T.at_
  obtain ⟨hp, g, dr, tk, os⟩ := s
  have kp : ∀ c o, hp.get? c = some o → ((hp.push (kdv_tup [])).push (excO C hp.objs.size)).get? c = some o := fun c o e => Heap.get?_push_of_some _ (Heap.get?_push_of_some _ e)
  have it : ((hp.push (kdv_tup [])).push (excO C hp.objs.size)).get? (hp.objs.size + 1) = some (excO C hp.objs.size) := by heap_get
  refine call_kw ⟨rfl, rfl, rfl⟩ (X _ _ hC) (looks_findIn X U.iC) (fun self => bind_fn X self U.tI) ?_
  refine init_kw (s := ⟨(hp.push (kdv_tup [])).push (excO C hp.objs.size), g, dr, tk, os⟩) T U (X.keeps kp) (hlim.keeps kp) it ?_ fun h' tk' dx ⟨st, hx, dn, dne, hns⟩ => ?_
  · show A.depth + 1 < recursionLimit
    exact hroom
  · have old : ∀ c o, hp.get? c = some o → h'.get? c = some o := fun c o e => st c o (Nat.ne_of_lt (Nat.lt_succ_of_lt (Heap.lt_size e))) (kp c o e)
    have z : hp.objs.size + 1 + 1 ≤ dx := by
      have q := dn
      rw [Heap.size_push, Heap.size_push] at q
      exact q
    refine ⟨rfl, hq h' tk' (hp.objs.size + 1) dx ⟨old, Nat.le_succ _, ⟨_, _, hx, rfl, rfl, rfl, rfl⟩, ?_, dne, hns⟩⟩
    show hp.objs.size ≤ dx
    omega
end
end FX
/-! The layer's rules for such errors. -/
namespace FX
open PySem PySem.Spec PyProof.Rows L2
/-- what a field's dict answers -/
theorem one_field {v : V} {u : Value} (r : RelV v u) (f g : Str) : RelO (List.lookup g [(f, v)]) (if g = f then some u else none) := by
  by_cases e : g = f
  · subst e
    have q : List.lookup g [(g, v)] = some v := by simp [List.lookup]
    rw [q, if_pos rfl]
    exact r
  · have q : List.lookup g [(f, v)] = none := by
      have z : (g == f) = false := by simpa using e
      simp [List.lookup, z]
    rw [q, if_neg e]
    exact True.intro
section
variable {X : Cx} {x b qn f : Str} {B C i : Addr}
/-- behind the making: the error is no object of ours, its dict is -/
theorem make_end {pins : List (Addr × Obj)} {σ : L2.St} {H1 : Hp} {s1 : Shared} {h' : Heap} {tk' : Nat} {e d : Addr} {v : V} {u : Value} (I1 : Inv X pins σ H1 s1) (rv : RelV v u) (M : MadeErr s1.heap h' e C d f u) :
    ∃ G : Heap, Inv X pins σ (upd H1 d (.xd [(f, v)])) { s1 with heap := G, toks := tk' } ∧ (∀ c o, G.get? c = some o → h'.get? c = some o) ∧ G.get? e = none ∧ (upd H1 d (.xd [(f, v)])) e = none ∧ H1 d = none := by
  obtain ⟨G, g1, g2⟩ := restrict h' fun c => decide (c ≠ e)
  have gk : ∀ c, c ≠ e → G.get? c = h'.get? c := fun c hc => g1 c (decide_eq_true hc)
  have ge : G.get? e = none := g2 e (by simp)
  have ob : ObjOk X.prog X.w (upd H1 d (.xd [(f, v)])) G d (.xd [(f, v)]) := ⟨_, M.has.at (fun o q => (gk d M.ne).trans q), fun g => one_field rv f g⟩
  refine ⟨G, I1.laid (fun c o q => ?_) M.up ob, fun c o q => ?_, ge, ?_, I1.hok.fresh M.up⟩
  · have hce : c ≠ e := Nat.ne_of_lt (Nat.lt_of_lt_of_le (Heap.lt_size q) M.new)
    rw [gk c hce]
    exact M.stay c o q
  · by_cases hce : c = e
    · subst hce
      rw [ge] at q
      cases q
    · rw [← gk c hce]
      exact q
  · rw [upd_ne (Ne.symm M.ne)]
    exact I1.hok.fresh M.new
/-- x(e), e's value kept under f -/
def tMk (C : Addr) (f : Str) (ta : TA) : L2.St → Hp → XK → Prop := fun σ H Q => ta σ H fun vs H1 => ∃ v, vs = [v] ∧ ∀ d, H1 d = none → Q (.ref C) (some d) (upd H1 d (.xd [(f, v)]))
theorem pmk_err {a : Expr} {ta : TA} {p pos : Pos} {k : Nat} (T : ErrTxt X.K X.mg B x C) (U : InitTxt X.K qn f C i) (hr : Room k X.A) (ha : PA X [a] ta) (hg : Gl X x := by rfl) (hdb : (x == ("__debug__" : Str)) = false := by decide)
    (he : starEach (a :: []) X.env = (false, eval a X.env) :: starEach [] X.env := by rfl) (hpl : (backTo pos (starEach [] X.env)).any (·.1) = false := by rfl) :
    PMk X (.Call (.Name x p) [a] [] pos) (tMk C f ta) := fun pins s σ H Q I h => by
  refine wpAny_Call_Name_kw (ld_glob I hg T.gC ?_ hdb)
  refine PySem.W.callWith_K (h₀ := X.base) I.ok.mod.kin T.kC (thn (ha.run pos pins s σ H _ I h) fun us s1 hh => ?_) he hpl
  obtain ⟨vs, H1, I1, r1, v, ev, q1⟩ := hh
  subst ev
  cases r1 with
  | @cons _ u _ us' rv rn =>
    cases rn
    refine ⟨I1.kIn, ?_⟩
    show wpAny _ _ (call (.ref C) [u]) _ _ _
    refine wpAny_call (made_run T U I1.kIn I1.nolimit (by have := hr.dp; omega) fun h' tk' e d M => ?_)
    obtain ⟨G, J, kG, ge, ne, nd⟩ := make_end (tk' := tk') I1 rv M
    obtain ⟨oe, fv, hoe, hc, hd, hdat, h1⟩ := M.it
    exact ⟨e, oe, fv, _, _, .ref C, some d, rfl, J, kG, ge, hoe, ⟨hc, hd⟩, hdat, h1, ne, rfl, I1.bare, raises_own T.sub T.ty, q1 d nd⟩
def tRaise (C : Addr) (f : Str) (W : WX) (ta : TA) : TS := fun _ σ H => tMk C f ta σ H fun cls d H' => W cls d σ H'
/-- raise x(e) -/
theorem ps_err {a : Expr} {ta : TA} {W : WX} {p pos pos2 : Pos} {k : Nat} (hc : X.calm = true) (T : ErrTxt X.K X.mg B x C) (U : InitTxt X.K qn f C i) (hr : Room k X.A) (tk : Takes X W) (ha : PA X [a] ta) (hg : Gl X x := by rfl) (hdb : (x == ("__debug__" : Str)) = false := by decide)
    (he : starEach (a :: []) X.env = (false, eval a X.env) :: starEach [] X.env := by rfl) (hpl : (backTo pos (starEach [] X.env)).any (·.1) = false := by rfl) :
    PS X (.Raise (some (.Call (.Name x p) [a] [] pos)) none pos2) (tRaise C f W ta) := ps_raise hc tk (pmk_err T U hr ha hg hdb he hpl)
/-- x() where no class over it has an __init__ of the program -/
theorem pmk_bare {bmB : List Value} {Bn newId initId : String} {p pos : Pos} (F : ExcBaseFacts Bn newId initId bmB) (q : PySem.W.excIn X.K C bmB newId = true) (gC : X.mg x = some (.ref C)) (kC : PySem.W.keepIn X.K (.ref C) = true) (r : Raises X (.ref C)) (hg : Gl X x := by rfl)
    (hdb : (x == ("__debug__" : Str)) = false := by decide) : PMk X (.Call (.Name x p) [] [] pos) (fun _ H Q => Q (.ref C) none H) := fun pins s σ H Q I h => by
  refine wpAny_Call_Name_kw (ld_glob I hg gC ?_ hdb)
  refine PySem.W.callWith_K0 (K := X.K) (Inv.kIn (I.tok _)) kC ?_
  show wpAny _ _ (call (.ref C) []) _ _ _
  obtain ⟨bm, N, nm, qn, bs, hdct, sn, sub, ab, col, dd, k0, k1, k2, k3, k5, mN, hC, hN, hni, T⟩ := exc_obj I.kIn q
  refine wpAny_call_exc_subT F T hC hN hni (fun h' e hm => ?_) (by show 0 ≤ sizeLine; exact Nat.zero_le _)
  exact mk_of (I.tok _) hm r h (I.hok.gone hm.new)
/-- x(f=e).f: the error is dropped -/
theorem pe_kwfield {e : Expr} {kp p2 p3 pos : Pos} {te : TE} {k : Nat} (T : ErrTxt X.K X.mg B x C) (U : InitTxt X.K qn f C i) (hr : Room k X.A) (he : PE X e te) (hg : Gl X x := by rfl) (hdb : (x == ("__debug__" : Str)) = false := by decide)
    (hb : attributeBase (.Call (.Name x p2) [] [{ arg := some f, value := e, pos := kp }] p3) f X.env (eval (.Call (.Name x p2) [] [{ arg := some f, value := e, pos := kp }] p3) X.env) = eval (.Call (.Name x p2) [] [{ arg := some f, value := e, pos := kp }] p3) X.env := by rfl) :
    PE X (.Attribute (.Call (.Name x p2) [] [{ arg := some f, value := e, pos := kp }] p3) f pos) te := by
  refine ⟨fun pins s σ H Q I h => attr_of hb ?_⟩
  refine wpAny_Call_Name_kw (ld_glob I hg T.gC ?_ hdb)
  refine PySem.W.callWith_KW0 (K := X.K) (h₀ := X.base) I.ok.mod.kin T.kC rfl ?_ rfl
  let Q1 : List V → Hp → Prop := fun vs H1 => match vs with
    | v :: _ => Q v H1
    | [] => False
  refine thn ((pk_cons (nm := some f) (kpos := kp) he pk_nil).run p3 pins _ σ H Q1 (I.tok _) h) fun us s1 hh => ?_
  obtain ⟨vs, H1, I1, r1, q1⟩ := hh
  cases r1 with
  | nil => exact q1.elim
  | @cons v u _ us' rv rn =>
    refine ⟨I1.kIn, ?_⟩
    show wpAny _ _ (call (.ref C) [] [(f, u)]) _ _ _
    refine wpAny_call (made_kw T U I1.kIn I1.nolimit (by have := hr.dp; omega) fun h' tk' e d M => ?_)
    obtain ⟨oe, fv, hoe, hc, hd, hdat, h1⟩ := M.it
    obtain ⟨od, ho, hl⟩ := lookIn_ns M.has
    have J : PySem.W.InstAt h' e oe C (some od) := ⟨hoe, hc, by unfold PySem.W.notCls; rw [hdat] <;> rfl, by rw [hd]; exact ho⟩
    refine HandSPX.exc_get (s := { s1 with heap := h', toks := tk' }) (I1.kIn.keeps M.stay) J U.ga U.gg T.sub (v := u) (PySem.W.findObj_own T.dict U.noF rfl (by rw [hl, if_pos rfl])) (handed_of rv) ?_
    exact ⟨v, H1, (I1.kept M.stay), rv, q1⟩
/-- what e.f reads off an error at a that a suite holds -/
def tFld (C : Addr) (f : Str) (a : Addr) (cls : Value) (d : Option Addr) (te : TE) : TE := fun σ H Q => te σ H fun z H1 => z = .ref a ∧ cls = .ref C ∧ ∃ (dd : Addr) (v : V), d = some dd ∧ H1 dd = some (.xd [(f, v)]) ∧ Q v H1
theorem pe_errfield {a : Addr} {oe : Obj} {cls : Value} {d : Option Addr} {pn : List (Addr × Obj)} {e : Expr} {te : TE} {pos : Pos} (T : ErrTxt X.K X.mg B x C) (U : InitTxt X.K qn f C i) (hz : Zc cls d oe) (hf : ∃ vs, oe.data = .fields vs) (he : PE (X.suite a ((a, oe) :: pn)) e te)
    (hb : attributeBase e f X.env (eval e X.env) = eval e X.env := by rfl) : PE (X.suite a ((a, oe) :: pn)) (.Attribute e f pos) (tFld C f a cls d te) := by
  refine ⟨fun pins s σ H Q I h => attr_of hb (thn (he.run pins s σ H _ I h) fun u s1 hh => ?_)⟩
  obtain ⟨z, H1, I1, rz, ez, ec, dd, v, ed, ea, q⟩ := hh
  subst ez ec ed
  obtain rfl : u = Value.ref a := rz
  obtain ⟨at_a, _⟩ := I1.pin (a, oe) (List.mem_append_left _ List.mem_cons_self)
  obtain ⟨vs, hd⟩ := hf
  obtain ⟨mA, hns, hrel⟩ : ObjOk X.prog X.w H1 s1.heap dd (.xd [(f, v)]) := I1.hok dd _ ea
  obtain ⟨od, ho, hl⟩ := lookIn_ns hns
  obtain ⟨w', hw, rw'⟩ := RelO.some_of (v := v) (o := mA f) (by
    have q := hrel f
    simpa [List.lookup] using q)
  have J : PySem.W.InstAt s1.heap a oe C (some od) := ⟨at_a, hz.1, by unfold PySem.W.notCls; rw [hd] <;> rfl, by rw [hz.2]; exact ho⟩
  exact HandSPX.exc_get I1.kIn J U.ga U.gg T.sub (PySem.W.findObj_own T.dict U.noF rfl (by rw [hl, hw])) (handed_of rw') ⟨v, H1, I1.tok _, rw', q⟩
end
end FX
/-! try: .. with several clauses, each with a name for the error or without one. -/
namespace FX
open PySem PySem.Spec PyProof.Rows L2
/-- a suite: the error's address, class, dict; then as a statement -/
abbrev Su := Addr → Value → Option Addr → TS
/-- behind a suite the slot i of the error's name is empty -/
def gone (i : Nat) (D : Ends) : Ends := { nx := fun σ H => D.nx (σ.set i none) H, rt := D.rt, bk := fun σ H => D.bk (σ.set i none) H, ct := fun σ H => D.ct (σ.set i none) H }
/-- what the clauses wish of the body's error; a clause: the class, the name's slot, the suite -/
def wCl (K : PySem.W.Frag) (Wout : WX) (D : Ends) : List (Value × Option Nat × Su) → WX
  | [] => Wout
  | (c, none, t) :: r => fun cls d σ H => ∃ y, PySem.W.exmOne K cls c = some y ∧ (y = true → ∀ a, H a = none → t a cls d D σ H) ∧ (y = false → wCl K Wout D r cls d σ H)
  | (c, some i, t) :: r => fun cls d σ H => ∃ y, PySem.W.exmOne K cls c = some y ∧ (y = true → ∀ a, H a = none → t a cls d (gone i D) (σ.set i (some (.ref a))) H) ∧ (y = false → wCl K Wout D r cls d σ H)
/-- the clauses' suites as terms of rules -/
inductive Cl (X : Cx) : List ExceptHandler → List (Value × Option Nat × Su) → Prop
  | nil : Cl X [] []
  | bare {x : Str} {c : Value} {t : Su} {b₀ : Stmt} {more : List Stmt} {np pos : Pos} {hds : List ExceptHandler} {l : List (Value × Option Nat × Su)} (hc : Names X x c)
      (hs : ∀ (a : Addr) (oe : Obj) (cls : Value) (d : Option Addr) (pn : List (Addr × Obj)), Zc cls d oe → (∃ vs, oe.data = .fields vs) → PSs (X.suite a ((a, oe) :: pn)) (b₀ :: more) (t a cls d)) (r : Cl X hds l) :
      Cl X (.ExceptHandler (some (.Name x np)) none (b₀ :: more) pos :: hds) ((c, none, t) :: l)
  | named {x n : Str} {i : Nat} {c : Value} {t : Su} {b₀ : Stmt} {more : List Stmt} {np pos : Pos} {hds : List ExceptHandler} {l : List (Value × Option Nat × Su)} (hi : X.N[i]? = some n) (hln : X.env.kindOf n = some .local) (hc : Names X x c)
      (hs : ∀ (a : Addr) (oe : Obj) (cls : Value) (d : Option Addr) (pn : List (Addr × Obj)), Zc cls d oe → (∃ vs, oe.data = .fields vs) → PSs (X.suite a ((a, oe) :: pn)) (b₀ :: more) (t a cls d)) (r : Cl X hds l) :
      Cl X (.ExceptHandler (some (.Name x np)) (some n) (b₀ :: more) pos :: hds) ((c, some i, t) :: l)
section
variable {X : Cx} {pins pins' : List (Addr × Obj)} {σ : L2.St} {H : Hp} {D : Ends} {Wout : WX} {a : Addr} {B : Heap} {sI s' : Shared} {cls : Value} {d : Option Addr}
/-- what is known when the clauses are asked -/
structure Asked (X : Cx) (pins : List (Addr × Obj)) (σ : L2.St) (H : Hp) (a : Addr) (B : Heap) (sI s' : Shared) (cls : Value) (d : Option Addr) (h3 : Heap) : Prop where
  J : Inv X pins σ H sI
  nb : ∀ b o, sI.heap.get? b = some o → b ∉ frs X.stack → B.get? b = some o
  up : sI.heap.UpToSlots h3
  fl : HandSPX.FlyingZ B (X.env :: X.outer) a (Zc cls d) h3
  na : H a = none
  os : s'.os = sI.os
  ag : AllBare s'.gens
theorem Asked.far (Z : Asked X pins σ H a B sI s' cls d h3) {h : Heap} {o : Obj} {vs : Array Value} (ff : h.FunFrames B (X.env :: X.outer)) (e : h.get? a = some o) (dd : o.data = .fields vs) : a ∉ frs (X.env :: X.outer) := fun hm => by
  obtain ⟨_, o', e', hnf⟩ := ff.mem hm
  rw [e] at e'
  cases e'
  exact hnf _ dd
theorem Asked.notL (Z : Asked X pins σ H a B sI s' cls d h3) (hf : X.env.frame = some X.env.locals) : a ≠ X.env.locals ∧ a ∉ X.fs := by
  obtain ⟨oe, vs, he, hz, hd⟩ := Z.fl.there
  have nfr := Z.far Z.fl.2.2.1 he hd
  refine ⟨fun z => nfr (List.mem_filterMap.mpr ⟨X.env, List.mem_cons_self, by rw [hf, z]⟩), fun hm => ?_⟩
  obtain ⟨e, q1, q2⟩ := List.mem_filterMap.mp hm
  exact nfr (List.mem_filterMap.mpr ⟨e, List.mem_cons_of_mem _ q1, q2⟩)
/-- the clauses, one behind another -/
theorem clauses (ok : X.Ok) (hs : X.stack = X.env :: X.outer) (hf : X.env.frame = some X.env.locals) (hN : X.N.Nodup) (tk : Takes X Wout) {h3 : Heap} (Z : Asked X pins σ H a B sI s' cls d h3) :
    ∀ {hds : List ExceptHandler} {l : List (Value × Option Nat × Su)}, Cl X hds l → wCl X.K Wout D l cls d σ H → wpAny (model X.prog X.w) X.A (handleBy (.ref a) X.env hds) (SP X pins D) X.xe { s' with heap := h3 } := by
  obtain ⟨nL, nF⟩ := Z.notL hf
  obtain ⟨oe3, vs3, he3, hz3, hd3⟩ := Z.fl.there
  have S3 := (Z.J.landed Z.nb Z.fl.1 (s' := { s' with heap := h3 }) Z.up Z.os Z.ag).suite he3 hd3 Z.na nL nF
  have kin : X.K.In h3 := (Z.J.landed Z.nb Z.fl.1 (s' := { s' with heap := h3 }) Z.up Z.os Z.ag).kIn
  have ask : ∀ {x : Str} {np : Pos} {c : Value} {Q : Value → Shared → Prop} {E : Value → Shared → Prop}, Names X x c → Q c { s' with heap := h3 } → wpAny (model X.prog X.w) (X.A.mark (some (.ref a))) (eval (.Name x np) X.env) Q E { s' with heap := h3 } := fun {x np c Q E} hc q => by
    obtain ⟨hg, hdbg, hm | ⟨hm, hv, hnn⟩⟩ := hc
    · exact ld_glob (X := X.suite a ((a, oe3) :: (X.pn ++ pins))) S3 hg hm q hdbg
    · exact ld_blt (X := X.suite a ((a, oe3) :: (X.pn ++ pins))) S3 hg hm hv q hnn hdbg
  have fits : ∀ {c : Value} {y : Bool}, PySem.W.exmOne X.K cls c = some y → PySem.W.Looks (model X.prog X.w) h3 (excMatches (.ref a) c) y := fun e =>
    PySem.W.exm_one (M := model X.prog X.w) kin (fun A Q E s k q => wpAny_typeOf_ref (k _ _ he3) (by rw [hz3.1]; exact q)) e
  intro hds l hk
  induction hk with
  | nil =>
    intro w
    refine wpAny_handleBy_nil ?_
    obtain ⟨k1, k2, k3, oe, vs, T, oT, ts', he, hz, hd, h1, hr⟩ := id Z.fl
    have fin : wpAny (model X.prog X.w) X.A (setFlight (.ref a) X.env.frame) (fun _ s4 => wpAny (model X.prog X.w) X.A (throw (.ref a) : Sem Flow) (SP X pins D) X.xe s4) X.xe { s' with heap := h3 } := by
      rw [hf]
      refine HandSPX.setFlight_upZ Z.fl fun h4 hh4 up4 => wpAny_throw (tk _ _ ?_)
      exact ⟨a, B, sI, pins, σ, H, cls, d, rfl, Z.J, Z.nb, Z.up.trans up4, .inr (.inr (by rw [hs]; exact hh4)), Z.na, Z.os, Z.ag, w⟩
    unfold PySem.passOn
    refine wpAny_bind (wpAny_field he hd h1 ?_)
    rw [if_neg (show ¬ ((Value.ref T == Value.none) = true) from by simp)]
    first
      | exact wpAny_bind (wpAny_pure (wpAny_bind fin))
      | exact wpAny_bind fin
  | @bare x c t b₀ more np pos hds2 l2 hc hsu r ih =>
    intro ⟨y, e, yes, no⟩
    refine wpAny_handleBy_cons (codeAny_handlers_test (ask hc ((fits e).here ?_))) (by intro q; cases q)
    cases y with
    | false => exact ih (no rfl)
    | true =>
      refine codeAny_handlers_suite (HandSPX.lands_againZ Z.fl fun h4 fl4 up4 => ?_)
      have J4 : Inv X pins σ H { s' with heap := h4 } := Z.J.landed Z.nb fl4.1 (Z.up.trans up4) Z.os Z.ag
      obtain ⟨oe4, vs4, he4, hz4, hd4⟩ := fl4.there
      refine wpAny_mono ((hsu a oe4 cls d (X.pn ++ pins) hz4 ⟨_, hd4⟩).run [] _ _ H _ (J4.suite he4 hd4 Z.na nL nF) (yes rfl a Z.na)) (fun f s6 hsp => ?_) (fun _ _ z => False.elim z)
      cases f with
      | ret u =>
        obtain ⟨v6, σ6, H6, S6, r6, q6⟩ := hsp
        exact ⟨_, _, _, S6.unsuite ok, r6, q6⟩
      | next | brk | cont =>
        obtain ⟨σ6, H6, S6, q6⟩ := hsp
        exact ⟨_, _, S6.unsuite ok, q6⟩
  | @named x n i c t b₀ more np pos hds2 l2 hi hln hc hsu r ih =>
    intro ⟨y, e, yes, no⟩
    refine wpAny_handleBy_cons (codeAny_handlers_test (ask hc ((fits e).here ?_))) (by intro q; cases q)
    cases y with
    | false => exact ih (no rfl)
    | true =>
      refine codeAny_handlers_suite_as (HandSPX.lands_againZ Z.fl fun h4 fl4 up4 => ?_)
      have J4 : Inv X pins σ H { s' with heap := h4 } := Z.J.landed Z.nb fl4.1 (Z.up.trans up4) Z.os Z.ag
      obtain ⟨oe4, vs4, he4, hz4, hd4⟩ := fl4.there
      refine store_ok (X := X.suite a ((a, oe4) :: (X.pn ++ pins))) (v := .ref a) (J4.suite he4 hd4 Z.na nL nF) hN hi (.inl hln) rfl (fun s5 S5 => ?_) (.inr hln)
      refine wpAny_mono ((hsu a oe4 cls d (X.pn ++ pins) hz4 ⟨_, hd4⟩).run [] s5 _ H _ S5 (yes rfl a Z.na)) (fun f s6 hsp => ?_) (fun _ _ z => False.elim z)
      cases f with
      | ret u =>
        obtain ⟨v6, σ6, H6, S6, r6, q6⟩ := hsp
        exact gone_ok (S6.unsuite ok) hN hi hln fun s7 J7 => ⟨_, _, _, J7, r6, q6⟩
      | next | brk | cont =>
        obtain ⟨σ6, H6, S6, q6⟩ := hsp
        exact gone_ok (S6.unsuite ok) hN hi hln fun s7 J7 => ⟨_, _, J7, q6⟩
end
/-- try: body, the clauses -/
theorem ps_tryCl {X : Cx} {body : List Stmt} {h₀ : ExceptHandler} {hds : List ExceptHandler} {l : List (Value × Option Nat × Su)} {pos : Pos} {tb : WX → TS} {Wout : WX} (hs : X.stack = X.env :: X.outer) (hf : X.env.frame = some X.env.locals) (hN : X.N.Nodup) (tk : Takes X Wout)
    (hb : ∀ (W : WX) (pn : List (Addr × Obj)) (xe : Value → Shared → Prop), Takes (X.tr pn xe) W → PassesOwn (model X.prog X.w) X.A X.env xe → PSs (X.tr pn xe) body (tb W)) (hh : Cl X (h₀ :: hds) l) :
    PS X (.Try body (h₀ :: hds) [] [] pos) (fun D σ H => tb (wCl X.K Wout D l) D σ H) := by
  refine ⟨fun pins s σ H D I h => ?_⟩
  have ok := I.ok
  have hfr : X.A.frames = some (X.env :: X.outer) := by rw [ok.frames, hs]
  refine wpAny_Try_except (wpAny_mono ((hb (wCl X.K Wout D l) (X.pn ++ pins) (fun e s1 => wpAny (model X.prog X.w) X.A (noteFrame e X.env) (fun _ s2 => wpAny (model X.prog X.w) X.A (setFlight e none) (fun _ s3 =>
    wpAny (model X.prog X.w) X.A (handleBy e X.env (h₀ :: hds)) (SP X pins D) X.xe s3) X.xe s2) X.xe s1) (fun u s' xx => ?_) PassesOwn.looking).run [] s σ H D (I.toTry _) h) (fun f s1 hsp => ?_) fun e s1 he => he)
  · obtain ⟨a, B, sI, pins', σ', H', cls, d, rfl, J', nb, up, sky, na, os, ag, w⟩ := xx
    have sky' : Sky B (X.env :: X.outer) a (Zc cls d) X.env.locals s'.heap := by rw [← hs]; exact sky
    exact Sky.land Zc.steady hfr hf sky' fun h3 fl3 up3 => clauses ok hs hf hN tk ⟨J'.ofTry ok, nb, up.trans up3, fl3, na, os, ag⟩ hh w
  · cases f with
    | next =>
      obtain ⟨σ', H', J', q⟩ := hsp
      exact wpAny_execs_nil ⟨σ', H', J'.ofTry ok, q⟩
    | ret u =>
      obtain ⟨v, σ', H', J', r, q⟩ := hsp
      exact ⟨v, σ', H', J'.ofTry ok, r, q⟩
    | brk | cont =>
      obtain ⟨σ', H', J', q⟩ := hsp
      exact ⟨σ', H', J'.ofTry ok, q⟩
end FX
namespace FX
open PySem PySem.Spec PyProof.Rows L2
theorem go_t {y : Bool} {A D : Prop} (h : y = true) (k : A) : if y = true then A else D := by
  rw [if_pos h]
  exact k
theorem go_f {y : Bool} {A D : Prop} (h : y = false) (k : D) : if y = true then A else D := by
  rw [if_neg (by rw [h]; decide)]
  exact k
/-- clauses told by numbers, each with a name for the error at the slot i -/
def byNo (C : Nat → Addr) (i : Nat) (su : Nat → Su) (js : List Nat) : List (Value × Option Nat × Su) := js.map fun j => (.ref (C j), some i, su j)
variable {K : PySem.W.Frag} {Wout : WX} {D : Ends} {C : Nat → Addr} {i n : Nat} {su : Nat → Su} {d : Option Addr} {σ : L2.St} {H : Hp} {l : List (Value × Option Nat × Su)}
theorem wCl_past (hno : ∀ j, j < 25 → j ≠ n → PySem.W.exmOne K (.ref (C n)) (.ref (C j)) = some false) (w : wCl K Wout D l (.ref (C n)) d σ H) :
    ∀ {js : List Nat}, (∀ j ∈ js, j < 25 ∧ j ≠ n) → wCl K Wout D (byNo C i su js ++ l) (.ref (C n)) d σ H
  | [], _ => w
  | j :: js, h => ⟨false, hno j (h j (List.mem_cons_self ..)).1 (h j (List.mem_cons_self ..)).2, fun z => (nomatch z), fun _ => wCl_past hno w fun y hy => h y (List.mem_cons_of_mem _ hy)⟩
theorem wCl_hit (hno : ∀ j, j < 25 → j ≠ n → PySem.W.exmOne K (.ref (C n)) (.ref (C j)) = some false) (hyes : PySem.W.exmOne K (.ref (C n)) (.ref (C n)) = some true)
    (w : ∀ a, H a = none → su n a (.ref (C n)) d (gone i D) (σ.set i (some (.ref a))) H) :
    ∀ {js : List Nat}, (∀ j ∈ js, j < 25) → n ∈ js → wCl K Wout D (byNo C i su js ++ l) (.ref (C n)) d σ H
  | [], _, h => by cases h
  | j :: js, h, hn => by
    by_cases e : j = n
    · subst e
      exact ⟨true, hyes, fun _ => w, fun z => (nomatch z)⟩
    · refine ⟨false, hno j (h j (List.mem_cons_self ..)) e, fun z => (nomatch z), fun _ => ?_⟩
      refine wCl_hit hno hyes w (fun y hy => h y (List.mem_cons_of_mem _ hy)) ?_
      rcases List.mem_cons.mp hn with q | q
      · exact absurd q.symm e
      · exact q
end FX
/-! The predicates over any value, told by data. -/
namespace K02
open PySem L2 FX
def top (i : Nat) : Stmt := PySem.Challenge.pw_foldsall_k02_whole_places_on_which_opera.main.body.getD i (.Pass ⟨0, 0, 0, 0⟩)
/-- a def of the module -/
structure At (K : PySem.W.Frag) (mg : Str → Option Value) (x : Str) (st : Stmt) (f : Addr) (fd : FuncData) (ps : List Str) : Prop where
  F : Fun K x x st f fd
  g : mg x = some (.ref f)
  b : Binds K fd ps []
/-- the built-ins' names are free -/
structure Bi (mg : Str → Option Value) : Prop where
  int : mg "int" = none
  bool : mg "bool" = none
  list : mg "list" = none
  tuple : mg "tuple" = none
  isinstance : mg "isinstance" = none
  len : mg "len" = none
  range : mg "range" = none
  zip : mg "zip" = none
  all : mg "all" = none
  enumerate : mg "enumerate" = none
  abs : mg "abs" = none
  max : mg "max" = none
  min : mg "min" = none
  set : mg "set" = none
  repr : mg "repr" = none
/-! ### data -/
abbrev D := PyData
def tyN : D → String
  | .none => "NoneType" | .bool _ => "bool" | .int _ => "int" | .str _ => "str" | .list _ => "list" | .tuple _ => "tuple" | .dict _ => "dict"
theorem ty_data {K : PySem.W.Frag} {H : Hp} {v : V} {d : D} (h : Dp K H v d) : TyX K H v (.type (tyN d)) := by
  cases h with
  | non => exact .base .non
  | bl b => exact .base (.bl b)
  | int i => exact .base (.int i)
  | str x => exact .base (.str x)
  | lst q _ =>
    rcases q with (q | ⟨o, q⟩) | ⟨o, its, n, q, c, _⟩
    · exact .base (.lst q)
    · exact .base (.frz q)
    · exact .kList q c
  | tup q _ =>
    rcases q with (q | ⟨o, q⟩) | ⟨o, its, n, q, c, _⟩
    · exact .base (.tup q)
    · exact .fTuple q
    · exact .kTuple q c
def isI : D → Bool | .int _ => true | _ => false
def isSq : D → Bool | .list _ => true | .tuple _ => true | _ => false
def items : D → List D | .list xs => xs | .tuple xs => xs | _ => []
def intV : D → Int | .int i => i | _ => 0
/-- one value, a bool comes back -/
def spB (K : PySem.W.Frag) (f : D → Bool) : Sp := fun vs H Q _ => ∃ v d, vs = [v] ∧ Dp K H v d ∧ ∀ H', Same H H' → Q (.bl (f d)) H'
section
variable {P : Program} {w : World} {K : PySem.W.Frag} {mg : Str → Option Value} {base : Heap}
abbrev sInteger : Stmt := top 1
theorem kInt {K : PySem.W.Frag} : ∀ d : D, PySem.W.kitOne K (.type (tyN d)) (.type "int") = some (match d with | .int _ => true | .bool _ => true | _ => false) := fun d => by
  cases d <;> (refine kit_ty ?_; dsimp only [tyN]; decide +kernel)
theorem kBool {K : PySem.W.Frag} : ∀ d : D, PySem.W.kitOne K (.type (tyN d)) (.type "bool") = some (match d with | .bool _ => true | _ => false) := fun d => by
  cases d <;> (refine kit_ty ?_; dsimp only [tyN]; decide +kernel)
theorem kList {K : PySem.W.Frag} : ∀ d : D, PySem.W.kitOne K (.type (tyN d)) (.type "list") = some (match d with | .list _ => true | _ => false) := fun d => by
  cases d <;> (refine kit_ty ?_; dsimp only [tyN]; decide +kernel)
theorem kTuple {K : PySem.W.Frag} : ∀ d : D, PySem.W.kitOne K (.type (tyN d)) (.type "tuple") = some (match d with | .tuple _ => true | _ => false) := fun d => by
  cases d <;> (refine kit_ty ?_; dsimp only [tyN]; decide +kernel)
theorem scInteger : FnScope ["value"] ["value"] (defScope sInteger) := ⟨rfl, rfl, rfl, by decide +kernel, rfl, by decide +kernel, by decide +kernel⟩
theorem ok_integer {f : Addr} {fd : FuncData} (F : Fun K "is_integer" "is_integer" sInteger f fd) (Z : Bi mg) : FnOk P w K mg base CX0 1 f fd ["value"] (spB K isI) := by
  refine F.ok scInteger (fun vs H Q E h => ?_) (fun cdv A outer s H vs Q E hr h => ?_)
  · obtain ⟨v, d, rfl, _⟩ := h
    rfl
  · obtain ⟨v, d, rfl, hd, k⟩ := h
    have k' : Q (.bl (isI d)) H := k H (Same.refl H)
    refine ⟨_, pss_one (ps_ret (pe_and (pe_callB call_isi (by rfl) Z.isinstance (by decide +kernel) (pa_cons (pv 0) (pa_cons (pe_bltn (v := .ty "int") (by rfl) Z.int (by decide +kernel) rfl) pa_nil)))
      (pe_one (pe_not (pe_callB call_isi (by rfl) Z.isinstance (by decide +kernel) (pa_cons (pv 0) (pa_cons (pe_bltn (v := .ty "bool") (by rfl) Z.bool (by decide +kernel) rfl) pa_nil))))))), ?_⟩
    refine ⟨_, rfl, v, _, _, _, _, rfl, .ty "int", ty_data hd, kInt d, _, rfl, ?_⟩
    cases d with
    | int i => refine iteT ⟨_, rfl, v, _, _, _, _, rfl, .ty "bool", ty_data hd, kBool (.int i), _, rfl, k'⟩
    | bool b => refine iteT ⟨_, rfl, v, _, _, _, _, rfl, .ty "bool", ty_data hd, kBool (.bool b), _, rfl, k'⟩
    | none | str _ | list _ | tuple _ | dict _ => exact iteF k'
end
end K02
namespace K02
open PySem L2 FX
theorem seqT {K : PySem.W.Frag} {H H' : Hp} {a : Addr} {xs : List V} (e : Same H H') (h : SqT K H a xs) : SqT K H' a xs := by
  rcases h with (h | ⟨o, h⟩) | h
  · exact .inl (.inl (e _ _ h))
  · exact .inl (.inr ⟨o, e _ _ h⟩)
  · exact .inr h
mutual
theorem dp_same {K : PySem.W.Frag} {H H' : Hp} (s : Same H H') : ∀ {v : V} {d : D}, Dp K H v d → Dp K H' v d
  | _, _, .non => .non
  | _, _, .bl b => .bl b
  | _, _, .int i => .int i
  | _, _, .str x => .str x
  | _, _, .lst q r => .lst (s.seq q) (dpAll_same s r)
  | _, _, .tup q r => .tup (seqT s q) (dpAll_same s r)
theorem dpAll_same {K : PySem.W.Frag} {H H' : Hp} (s : Same H H') : ∀ {vs : List V} {ds : List D}, DpAll K H vs ds → DpAll K H' vs ds
  | _, _, .nil => .nil
  | _, _, .cons h r => .cons (dp_same s h) (dpAll_same s r)
end
theorem dpAll_len {K : PySem.W.Frag} {H : Hp} : ∀ {vs : List V} {ds : List D}, DpAll K H vs ds → vs.length = ds.length
  | _, _, .nil => rfl
  | _, _, .cons _ r => congrArg Nat.succ (dpAll_len r)
theorem dpAll_at {K : PySem.W.Frag} {H : Hp} : ∀ {vs : List V} {ds : List D} {i : Nat} {d : D}, DpAll K H vs ds → ds[i]? = some d → ∃ v, vs[i]? = some v ∧ Dp K H v d
  | _, _, _, _, .nil, e => by simp at e
  | _, _, 0, _, .cons h _, e => by
    simp at e
    subst e
    exact ⟨_, rfl, h⟩
  | _, _, i + 1, _, .cons _ r, e => by
    obtain ⟨v, h1, h2⟩ := dpAll_at (i := i) r (by simpa using e)
    exact ⟨v, by simpa using h1, h2⟩
/-- a list or a tuple, told by its things -/
theorem dp_seq {K : PySem.W.Frag} {H : Hp} {v : V} {d : D} (h : Dp K H v d) (hs : isSq d = true) : ∃ a xs, v = .ref a ∧ (SqL K H a xs ∨ SqT K H a xs) ∧ DpAll K H xs (items d) := by
  cases h with
  | non => cases hs
  | bl b => cases hs
  | int i => cases hs
  | str x => cases hs
  | lst q r => exact ⟨_, _, rfl, .inl q, r⟩
  | tup q r => exact ⟨_, _, rfl, .inr q, r⟩
theorem dp_int {K : PySem.W.Frag} {H : Hp} {v : V} {d : D} (h : Dp K H v d) (hs : isI d = true) : ∃ i, v = .int i ∧ d = .int i := by
  cases h with
  | int i => exact ⟨i, rfl, rfl⟩
  | non => cases hs
  | bl b => cases hs
  | str x => cases hs
  | lst q r => cases hs
  | tup q r => cases hs
section
variable {P : Program} {w : World} {K : PySem.W.Frag} {mg : Str → Option Value} {base : Heap}
abbrev sNumber : Stmt := top 2
abbrev sBelow : Stmt := top 3
abbrev sBetween : Stmt := top 4
abbrev sSequence : Stmt := top 5
abbrev sRowOf : Stmt := top 6
abbrev sPower : Stmt := top 7
def isN (d : D) : Bool := isI d && decide (0 ≤ intV d)
def isB (m : Int) (d : D) : Bool := isN d && decide (intV d < m)
def isBt (a b : Int) (d : D) : Bool := isI d && (decide (a ≤ intV d) && decide (intV d ≤ b))
def isRow (m : Int) (d : D) : Bool := isSq d && decide (((items d).length : Int) = m)
def spB1 (K : PySem.W.Frag) (f : Int → D → Bool) : Sp := fun vs H Q _ => ∃ m v d, vs = [.int m, v] ∧ Dp K H v d ∧ ∀ H', Same H H' → Q (.bl (f m d)) H'
def spB2 (K : PySem.W.Frag) (f : Int → Int → D → Bool) : Sp := fun vs H Q _ => ∃ m n v d, vs = [.int m, .int n, v] ∧ Dp K H v d ∧ ∀ H', Same H H' → Q (.bl (f m n d)) H'
theorem and_t {a b : Bool} (h : a = true) : (a && b) = b := by rw [h]; rfl
theorem and_f {a b : Bool} (h : a = false) : (a && b) = false := by rw [h]; rfl
theorem scNumber : FnScope ["value"] ["value"] (defScope sNumber) := ⟨rfl, rfl, rfl, by decide +kernel, rfl, by decide +kernel, by decide +kernel⟩
theorem ok_number {f fI : Addr} {fd fdI : FuncData} (F : Fun K "is_number" "is_number" sNumber f fd) (Z : Bi mg) (FI : At K mg "is_integer" sInteger fI fdI ["value"]) : FnOk P w K mg base CX0 2 f fd ["value"] (spB K isN) := by
  have GI : FnOk P w K mg base CX0 1 fI fdI ["value"] (spB K isI) := ok_integer FI.F Z
  refine F.ok scNumber (fun vs H Q E h => ?_) (fun cdv A outer s H vs Q E hr h => ?_)
  · obtain ⟨v, d, rfl, _⟩ := h
    rfl
  · obtain ⟨v, d, rfl, hd, k⟩ := h
    refine ⟨_, pss_one (ps_ret (pe_and (pe_call GI hr rfl FI.g FI.F.kp FI.b .nil pass0 (by exact (pa_cons (pv 0) pa_nil))) (pe_one (pe_cmpR op_ge (pv 0) pe_int (nomark _))))), ?_⟩
    refine ⟨_, rfl, v, d, rfl, hd, fun H1 s1 => ⟨_, rfl, ?_⟩⟩
    have kk := k H1 s1
    by_cases hi : isI d = true
    · refine go_t hi ?_
      obtain ⟨i, rfl, rfl⟩ := dp_int hd hi
      exact ⟨_, rfl, _, _, rfl, rfl, kk⟩
    · have hi' : isI d = false := by simpa using hi
      refine go_f hi' ?_
      rw [show isN d = false from and_f hi'] at kk
      exact kk
theorem scBelow : FnScope ["many", "value"] ["many", "value"] (defScope sBelow) := ⟨rfl, rfl, rfl, by decide +kernel, rfl, by decide +kernel, by decide +kernel⟩
theorem ok_below {f fN : Addr} {fd fdN : FuncData} (F : Fun K "is_below" "is_below" sBelow f fd) (FN : At K mg "is_number" sNumber fN fdN ["value"]) (GN : FnOk P w K mg base CX0 2 fN fdN ["value"] (spB K isN)) :
    FnOk P w K mg base CX0 3 f fd ["many", "value"] (spB1 K isB) := by
  refine F.ok scBelow (fun vs H Q E h => ?_) (fun cdv A outer s H vs Q E hr h => ?_)
  · obtain ⟨m, v, d, rfl, _⟩ := h
    rfl
  · obtain ⟨m, v, d, rfl, hd, k⟩ := h
    refine ⟨_, pss_one (ps_ret (pe_and (pe_call GN hr rfl FN.g FN.F.kp FN.b .nil pass0 (by exact (pa_cons (pv 1) pa_nil))) (pe_one (pe_cmpR op_lt (pv 1) (pv 0) (nomark _))))), ?_⟩
    refine ⟨_, rfl, v, d, rfl, hd, fun H1 s1 => ⟨_, rfl, ?_⟩⟩
    have kk := k H1 s1
    by_cases hi : isN d = true
    · refine go_t hi ?_
      obtain ⟨i, rfl, rfl⟩ := dp_int hd (by
        unfold isN at hi
        simp only [Bool.and_eq_true] at hi
        exact hi.1)
      rw [show isB m (.int i) = decide (i < m) from and_t hi] at kk
      exact ⟨_, rfl, _, rfl, _, _, rfl, rfl, kk⟩
    · have hi' : isN d = false := by simpa using hi
      refine go_f hi' ?_
      rw [show isB m d = false from and_f hi'] at kk
      exact kk
theorem scBetween : FnScope ["least", "most", "value"] ["least", "most", "value"] (defScope sBetween) := ⟨rfl, rfl, rfl, by decide +kernel, rfl, by decide +kernel, by decide +kernel⟩
theorem ok_between {f fI : Addr} {fd fdI : FuncData} (F : Fun K "is_between" "is_between" sBetween f fd) (FI : At K mg "is_integer" sInteger fI fdI ["value"]) (GI : FnOk P w K mg base CX0 1 fI fdI ["value"] (spB K isI)) :
    FnOk P w K mg base CX0 2 f fd ["least", "most", "value"] (spB2 K isBt) := by
  refine F.ok scBetween (fun vs H Q E h => ?_) (fun cdv A outer s H vs Q E hr h => ?_)
  · obtain ⟨m, n, v, d, rfl, _⟩ := h
    rfl
  · obtain ⟨m, n, v, d, rfl, hd, k⟩ := h
    refine ⟨_, pss_one (ps_ret (pe_and (pe_call GI hr rfl FI.g FI.F.kp FI.b .nil pass0 (by exact (pa_cons (pv 2) pa_nil))) (pe_one (pe_chain op_le op_le (pv 0) (pv 2) (pv 1))))), ?_⟩
    refine ⟨_, rfl, v, d, rfl, hd, fun H1 s1 => ⟨_, rfl, ?_⟩⟩
    have kk := k H1 s1
    by_cases hi : isI d = true
    · refine go_t hi ?_
      obtain ⟨i, rfl, rfl⟩ := dp_int hd hi
      refine ⟨_, rfl, _, rfl, _, _, rfl, rfl, _, rfl, ?_⟩
      rw [show isBt m n (.int i) = (decide (m ≤ i) && decide (i ≤ n)) from rfl] at kk
      by_cases h1 : m ≤ i
      · refine go_t (decide_eq_true h1) ?_
        rw [and_t (decide_eq_true h1)] at kk
        exact ⟨_, rfl, _, _, rfl, rfl, kk⟩
      · refine go_f (decide_eq_false h1) ?_
        rw [and_f (decide_eq_false h1)] at kk
        exact kk
    · have hi' : isI d = false := by simpa using hi
      refine go_f hi' ?_
      rw [show isBt m n d = false from and_f hi'] at kk
      exact kk
theorem scSequence : FnScope ["value"] ["value"] (defScope sSequence) := ⟨rfl, rfl, rfl, by decide +kernel, rfl, by decide +kernel, by decide +kernel⟩
theorem kSq {K : PySem.W.Frag} (d : D) : PySem.W.kitAny K (.type (tyN d)) [.type "list", .type "tuple"] = some (isSq d) := by
  unfold PySem.W.kitAny PySem.W.kitAny PySem.W.kitAny
  rw [kList d, kTuple d]
  cases d <;> rfl
theorem ok_sequence {f : Addr} {fd : FuncData} (F : Fun K "is_sequence" "is_sequence" sSequence f fd) (Z : Bi mg) : FnOk P w K mg base CX0 1 f fd ["value"] (spB K isSq) := by
  refine F.ok scSequence (fun vs H Q E h => ?_) (fun cdv A outer s H vs Q E hr h => ?_)
  · obtain ⟨v, d, rfl, _⟩ := h
    rfl
  · obtain ⟨v, d, rfl, hd, k⟩ := h
    refine ⟨_, pss_one (ps_ret (pe_callB call_isiT (by rfl) Z.isinstance (by decide +kernel) (pa_cons (pv 0) (pa_cons (pe_tup (pa_cons (pe_bltn (v := .ty "list") (by rfl) Z.list (by decide +kernel) rfl) (pa_cons (pe_bltn (v := .ty "tuple") (by rfl) Z.tuple (by decide +kernel) rfl) pa_nil))) pa_nil)))), ?_⟩
    refine ⟨_, rfl, (by show 2 ≤ sizeLine; decide), fun t ht => ?_⟩
    have s1 : Same H (upd H t (.tup [.ty "list", .ty "tuple"])) := fun c o e => by
      rw [upd_ne (ne_of_none e ht)]
      exact e
    exact ⟨v, t, _, _, _, _, rfl, upd_same, .cons (.ty "list") (.cons (.ty "tuple") .nil), ty_data (dp_same s1 hd), kSq d, k _ s1⟩
theorem scRowOf : FnScope ["many", "value"] ["many", "value"] (defScope sRowOf) := ⟨rfl, rfl, rfl, by decide +kernel, rfl, by decide +kernel, by decide +kernel⟩
theorem ok_rowOf {f fS : Addr} {fd fdS : FuncData} (F : Fun K "is_row_of" "is_row_of" sRowOf f fd) (Z : Bi mg) (FS : At K mg "is_sequence" sSequence fS fdS ["value"]) (GS : FnOk P w K mg base CX0 1 fS fdS ["value"] (spB K isSq)) :
    FnOk P w K mg base CX0 2 f fd ["many", "value"] (spB1 K isRow) := by
  refine F.ok scRowOf (fun vs H Q E h => ?_) (fun cdv A outer s H vs Q E hr h => ?_)
  · obtain ⟨m, v, d, rfl, _⟩ := h
    rfl
  · obtain ⟨m, v, d, rfl, hd, k⟩ := h
    refine ⟨_, pss_one (ps_ret (pe_and (pe_call GS hr rfl FS.g FS.F.kp FS.b .nil pass0 (by exact (pa_cons (pv 1) pa_nil))) (pe_one (pe_cmpR op_eq (pe_callB call_len_seq (by rfl) Z.len PySem.boot_len (pa_cons (pv 1) pa_nil)) (pv 0) (nomark _))))), ?_⟩
    refine ⟨_, rfl, v, d, rfl, hd, fun H1 s1 => ⟨_, rfl, ?_⟩⟩
    have kk := k H1 s1
    by_cases hi : isSq d = true
    · refine go_t hi ?_
      obtain ⟨a, xs, rfl, q, r⟩ := dp_seq (dp_same s1 hd) hi
      rw [show isRow m d = decide (((items d).length : Int) = m) from and_t hi, ← dpAll_len r] at kk
      refine ⟨_, rfl, a, xs, rfl, q, _, rfl, rfl, ?_⟩
      rw [show decide (V.int xs.length = V.int m) = decide ((xs.length : Int) = m) from by
        by_cases e : (xs.length : Int) = m
        · rw [decide_eq_true e, decide_eq_true (congrArg V.int e)]
        · rw [decide_eq_false e, decide_eq_false fun z => e (V.int.inj z)]]
      exact kk
    · have hi' : isSq d = false := by simpa using hi
      refine go_f hi' ?_
      rw [show isRow m d = false from and_f hi'] at kk
      exact kk
def pow' (b : Int) : Nat → Int
  | 0 => 1
  | n + 1 => pow' b n * b
def spPower : Sp := fun vs H Q _ => ∃ (b : Int) (n : Nat), vs = [.int b, .int n] ∧ 0 ≤ b ∧ b < 100 ∧ n < 100 ∧ Q (.int (pow' b n)) H
theorem scPower : FnScope ["base", "times", "product_now", "_"] ["base", "times"] (defScope sPower) := ⟨rfl, rfl, rfl, by decide +kernel, rfl, by decide +kernel, by decide +kernel⟩
theorem ok_power {f : Addr} {fd : FuncData} (F : Fun K "power" "power" sPower f fd) (Z : Bi mg) : FnOk P w K mg base CX0 1 f fd ["base", "times"] spPower := by
  refine F.ok scPower (fun vs H Q E h => ?_) (fun cdv A outer s H vs Q E hr h => ?_)
  · obtain ⟨m, v, rfl, _⟩ := h
    rfl
  · obtain ⟨b, n, rfl, b0, b1, hn, k⟩ := h
    refine ⟨_, pss_cons (ps_set (i := 2) scPower.nd rfl (Or.inl rfl) pe_int)
      (pss_cons (ps_for PassesOwn.never rfl (pi_range1 rfl Z.range (pa_cons (pv 1) pa_nil)) (pg_name (i := 3) scPower.nd rfl (Or.inl rfl))
        (pss_one (ps_aug (i := 2) scPower.nd rfl (Or.inl rfl) (pv 0) iop_mul)))
      (pss_one (ps_ret (pv 2)))), ?_⟩
    refine ⟨_, rfl, n, rfl, by omega, by omega, ?_⟩
    have e0 : ((n : Int)).toNat = n := by omega
    rw [e0]
    refine for_range (n := n) (fun i σ H' => ∃ u : Option V, σ = [some (.int b), some (.int n), some (.int (pow' b i)), u] ∧ H' = H) ⟨none, rfl, rfl⟩ ?_ ?_
    · rintro i σ H' hi ⟨u, rfl, rfl⟩
      exact ⟨_, rfl, _, rfl, _, _, rfl, rfl, .inr ⟨by omega, by omega⟩, _, rfl, rfl⟩
    · rintro σ H' ⟨u, rfl, rfl⟩
      exact ⟨_, rfl, k⟩
end
end K02
/-! Walks over lists and tuples alike: zip of any two. -/
namespace SQ
open PySem PySem.Spec PyProof.Rows L2
/-- a list or a tuple -/
inductive Kd | L | T
def SqK (K : PySem.W.Frag) (H : Hp) : Kd → Addr → List V → Prop
  | .L => SqL K H
  | .T => SqT K H
def AtK (h : Heap) : Kd → Addr → Array Value → Prop
  | .L => h.IsList
  | .T => h.IsTuple
def ItK (h : Heap) : Kd → Addr → Addr → Nat → Prop
  | .L => h.IsListIter
  | .T => h.IsTupleIter
def itO : Kd → Addr → Obj
  | .L, a => { cls := .type "list_iterator", data := .fields #[.ref a, .int 0 0] }
  | .T, a => { cls := .type "tuple_iterator", data := .fields #[.ref a, .int 0 0] }
theorem draws {prog : Program} {w : World} {A : Around} (hh : A.handled = none) (it a : Addr) (hne : a ≠ it) (its : Array Value) : ∀ k : Kd, Draws prog w A it [it, a] its.size (fun i v => its[i]? = some v) (fun i h => ItK h k it a i ∧ AtK h k a its)
  | .L => Draws.list hh it a hne its
  | .T => Draws.tuple hh it a hne its
theorem begins (a : Addr) (its : Array Value) : ∀ k : Kd, Begins (.ref a) (itO k a) fun h => AtK h k a its
  | .L => begins_list a its
  | .T => begins_tuple a its
theorem it_obj {h : Heap} {it a : Addr} {i : Nat} : ∀ {k : Kd}, ItK h k it a i → ∃ o, h.get? it = some o ∧ ∀ v, o.data ≠ .cell v
  | .L, x => by
    obtain ⟨o, e, _, d⟩ := x
    exact ⟨o, e, fun v q => by rw [d] at q; cases q⟩
  | .T, x => by
    obtain ⟨o, e, _, d⟩ := x
    exact ⟨o, e, fun v q => by rw [d] at q; cases q⟩
theorem it_keep {h h' : Heap} {it a : Addr} {i : Nat} (kp : ∀ o, h.get? it = some o → h'.get? it = some o) : ∀ {k : Kd}, ItK h k it a i → ItK h' k it a i
  | .L, x => x.at kp
  | .T, x => x.at kp
theorem it_new {h : Heap} {it a : Addr} : ∀ {k : Kd}, h.get? it = some (itO k a) → ItK h k it a 0
  | .L, e => ⟨_, e, rfl, rfl⟩
  | .T, e => ⟨_, e, rfl, rfl⟩
section
variable {X : Cx} {pins : List (Addr × Obj)} {σ : L2.St} {H : Hp} {s : Shared}
theorem there (I : Inv X pins σ H s) {a : Addr} {xs : List V} : ∀ {k : Kd}, SqK X.K H k a xs → ∃ its : List Value, Vals xs its ∧ AtK s.heap k a its.toArray ∧ a < s.heap.objs.size
  | .L, q => by
    obtain ⟨its, r, p, _⟩ := I.list q
    exact ⟨its, r, p.isList, p.lt⟩
  | .T, q => by
    obtain ⟨its, r, p, _⟩ := I.tuple q
    obtain ⟨o, e, _⟩ := id p
    exact ⟨its, r, p, Heap.lt_size e⟩
theorem one (I : Inv X pins σ H s) {a : Addr} {xs ys : List V} : ∀ {k : Kd}, SqK X.K H k a xs → SqK X.K H k a ys → xs = ys
  | .L, q, q' => I.list_inj q q'
  | .T, q, q' => I.tuple_inj q q'
end
/-- the two as they stand at each turn, the items in new pairs -/
def Itz2 (K : PySem.W.Frag) (k k' : Kd) (a b : Addr) : It :=
  ⟨fun i H => ∃ (xs ys : List V) (x y : V), SqK K H k a xs ∧ SqK K H k' b ys ∧ xs[i]? = some x ∧ ys[i]? = some y,
    fun i H v H' => ∃ T x y, v = .ref T ∧ H T = none ∧ H' = upd H T (.tup [x, y]) ∧ (∀ xs, SqK K H k a xs → xs[i]? = some x) ∧ ∀ ys, SqK K H k' b ys → ys[i]? = some y,
    fun i H => ∃ xs ys : List V, SqK K H k a xs ∧ SqK K H k' b ys ∧ i = min xs.length ys.length⟩
theorem walk_zip2 {K : PySem.W.Frag} {k k' : Kd} {a b : Addr} {xs ys : List V} {n : Nat} (hn : n = min xs.length ys.length) : Walk (Itz2 K k k' a b) n (fun H => SqK K H k a xs ∧ SqK K H k' b ys) (YPair (fun i => xs[i]?) (fun i => ys[i]?)) := by
  subst hn
  refine ⟨fun i _ hi q => ?_, fun _ q => ⟨xs, ys, q.1, q.2, rfl⟩, fun i H v H' _ q y => ?_⟩
  · have h1 : i < xs.length := by omega
    have h2 : i < ys.length := by omega
    exact ⟨xs, ys, xs[i], ys[i], q.1, q.2, by simp [h1], by simp [h2]⟩
  · obtain ⟨T, x, z, h1, h2, h3, h4, h5⟩ := y
    exact ⟨T, x, z, h1, h2, h3, h4 xs q.1, h5 ys q.2⟩
theorem turn_zip2 {P : Program} {w : World} {K : PySem.W.Frag} {elts : List Expr} {kk : Nat} {tpos : Pos} {k k' : Kd} {a b z TI TO i1 i2 : Addr} (S : ZipSep2 z TI TO i1 i2 [i1, a] [i2, b]) (ne1 : a ≠ i1) (ne2 : b ≠ i2) :
    Turn P w K (.Tuple elts kk tpos) (Itz2 K k k' a b) [z, TI, TO, i1, i2] z (fun i h => IsZip h z TI TO .none ∧ IsTupOf2 h TI (.ref i1) (.ref i2) ∧ (∃ x y, IsTupOf2 h TO x y) ∧ ItK h k i1 a i ∧ ItK h k' i2 b i) where
  mem := by simp
  obj := fun i h st c hc => by
    obtain ⟨hz, hTI, ⟨x, y, hTO⟩, h1, h2⟩ := st
    have e' : c = z ∨ c = TI ∨ c = TO ∨ c = i1 ∨ c = i2 := by simpa using hc
    rcases e' with q | q | q | q | q
    · subst q
      exact ⟨_, hz, fun v q => nomatch q⟩
    · subst q
      exact ⟨_, hTI, fun v q => nomatch q⟩
    · subst q
      exact ⟨_, hTO, fun v q => nomatch q⟩
    · subst q
      exact it_obj h1
    · subst q
      exact it_obj h2
  keep := fun i h h' st kp => by
    obtain ⟨hz, hTI, ⟨x, y, hTO⟩, h1, h2⟩ := st
    exact ⟨kp z (by simp) _ hz, kp TI (by simp) _ hTI, ⟨x, y, kp TO (by simp) _ hTO⟩, it_keep (kp i1 (by simp)) h1, it_keep (kp i2 (by simp)) h2⟩
  item := by
    intro X hP hw hK hc i pins s σ H E I hf st hg
    subst hP hw hK
    obtain ⟨hz, hTI, hTO, h1, h2⟩ := st
    obtain ⟨xs, ys, x, y, qx, qy, hx, hy⟩ := hg
    obtain ⟨its, rv, p, _⟩ := there I qx
    obtain ⟨its2, rv2, p2, _⟩ := there I qy
    obtain ⟨u, hu, ru⟩ := rv.get hx
    obtain ⟨u2, hu2, ru2⟩ := rv2.get hy
    have hh : X.A.in1.handled = none := I.ok.hd hc
    have G := GoesN.zip2 (prog := X.prog) (w := X.w) (A := X.A) (elts := elts) (x1 := kk) (pos := tpos) S (draws hh i1 a ne1 its.toArray k) (draws hh i2 b ne2 its2.toArray k')
    have sm : ∀ c ∈ [z, TI, TO, i1, i2], c < s.heap.objs.size := fun c hc' => by
      have e' : c = z ∨ c = TI ∨ c = TO ∨ c = i1 ∨ c = i2 := by simpa using hc'
      rcases e' with q | q | q | q | q
      · subst q
        exact Heap.lt_size hz
      · subst q
        exact Heap.lt_size hTI
      · subst q
        obtain ⟨_, _, e⟩ := hTO
        exact Heap.lt_size e
      · subst q
        obtain ⟨_, e, _⟩ := it_obj h1
        exact Heap.lt_size e
      · subst q
        obtain ⟨_, e, _⟩ := it_obj h2
        exact Heap.lt_size e
    have l1 : i < its.length := (List.getElem?_eq_some_iff.mp hu).1
    have l2 : i < its2.length := (List.getElem?_eq_some_iff.mp hu2).1
    refine G.goes i s (fun u s2 => ∃ x H', Inv X pins σ H' s2 ∧ RelV x u ∧ (Itz2 X.K k k' a b).yld i H x H' ∧ (IsZip s2.heap z TI TO .none ∧ IsTupOf2 s2.heap TI (.ref i1) (.ref i2) ∧ (∃ x y, IsTupOf2 s2.heap TO x y) ∧ ItK s2.heap k i1 a (i + 1) ∧ ItK s2.heap k' i2 b (i + 1)) ∧ ∀ b ∈ [z, TI, TO, i1, i2], H' b = none) E
      (by simp; omega) ⟨hz, hTI, hTO, ⟨h1, p⟩, h2, p2⟩ fun v h' tk hY st' keep _ => ?_
    obtain ⟨T, x', y', rfl, hT, ex, ey, hnew⟩ := hY
    have ex' : its[i]? = some x' := by simpa using ex
    have ey' : its2[i]? = some y' := by simpa using ey
    rw [hu] at ex'
    rw [hu2] at ey'
    cases ex'
    cases ey'
    have new : ObjOk X.prog X.w (upd H T (.tup [x, y])) h' T (.tup [x, y]) := ⟨by show 2 ≤ sizeLine; decide, [u, u2], .cons ru (.cons ru2 .nil), hnew⟩
    have I1 : Inv X pins σ (upd H T (.tup [x, y])) { s with heap := h', toks := tk } := I.turnedNew (t' := tk) (ch := [z, TO, i1, i2]) keep (fun c hc' => hf c (by simp at hc' ⊢; rcases hc' with q | q | q | q <;> simp [q])) hT new
    obtain ⟨g1, g2, g3, g4, g5⟩ := st'
    refine ⟨.ref T, _, I1, rfl, ⟨T, x, y, rfl, I.hok.fresh hT, rfl, fun l hl => by rw [one I hl qx]; exact hx, fun l hl => by rw [one I hl qy]; exact hy⟩, ⟨g1, g2, g3, g4.1, g5.1⟩, fun c hc' => ?_⟩
    rw [upd_ne (Nat.ne_of_lt (Nat.lt_of_lt_of_le (sm c hc') hT))]
    exact (hf c hc').1
  done := by
    intro X hP hw hK hc i pins s σ H E I hf st hg
    subst hP hw hK
    obtain ⟨hz, hTI, hTO, h1, h2⟩ := st
    obtain ⟨xs, ys, qx, qy, hn⟩ := hg
    obtain ⟨its, rv, p, _⟩ := there I qx
    obtain ⟨its2, rv2, p2, _⟩ := there I qy
    have hh : X.A.in1.handled = none := I.ok.hd hc
    have G := GoesN.zip2 (prog := X.prog) (w := X.w) (A := X.A) (elts := elts) (x1 := kk) (pos := tpos) S (draws hh i1 a ne1 its.toArray k) (draws hh i2 b ne2 its2.toArray k')
    have en : i = min its.toArray.size its2.toArray.size := by
      rw [hn, rv.length, rv2.length]
      simp
    subst en
    exact G.stops s (fun s1 => Inv X pins σ H s1) E ⟨hz, hTI, hTO, ⟨h1, p⟩, h2, p2⟩ fun h' tk keep _ =>
      I.turnedL (t' := tk) (ch := [z, TO, i1, i2]) keep (fun c hc' => hf c (by simp at hc' ⊢; rcases hc' with q | q | q | q <;> simp [q]))
  self := fun A i s Q E st h => wpAny_pyIter_zip st.1 h
def iZip2 (K : PySem.W.Frag) (ta : TA) : TI := fun σ H R => ta σ H fun vs H1 => ∃ a b xs ys k k', vs = [.ref a, .ref b] ∧ SqK K H1 k a xs ∧ SqK K H1 k' b ys ∧ R (Itz2 K k k' a b) H1
theorem pi_zip2 {X : Cx} {e e2 : Expr} {ta : TA} {p pos tpos : Pos} {elts : List Expr} {kk : Nat} (hg : Gl X "zip") (hm : X.mg "zip" = none) (ha : PA X [e, e2] ta)
    (hs : starEach [e, e2] X.env = (false, eval e X.env) :: starEach [e2] X.env := by rfl) (hpl : (backTo pos (starEach [e2] X.env)).any (·.1) = false := by rfl) :
    PI X (.Tuple elts kk tpos) (.Call (.Name "zip" p) [e, e2] [] pos) (iZip2 X.K ta) := by
  refine ⟨fun pins s σ H R I h => Call_ (ld_blt I hg hm PyProof.Rows.boot_zip (PyProof.Rows.callWith_type1 (thn (ha.run pos pins s σ H _ I h) fun us s1 ⟨vs, H1, I1, r1, q1⟩ => ?_) hs hpl))⟩
  obtain ⟨a, b, xs, ys, k, k', ex, qx, qy, q⟩ := q1
  subst ex
  cases r1 with
  | cons r rr =>
    cases rr with
    | cons r' rr =>
      cases rr
      cases r
      cases r'
      obtain ⟨its, rv, p1, la⟩ := there I1 qx
      obtain ⟨its2, rv2, p2, lb⟩ := there I1 qy
      refine zip_begins2 (begins a its.toArray k) (begins b its2.toArray k') p1 p2 fun h' hz hTI hTO h1 h2 hsz hk => wpAny_pyIter_zip hz ?_
      have I2 : Inv X pins σ H1 { s1 with heap := h' } := I1.kept (t' := s1.toks) hk
      have S : ZipSep2 (s1.heap.objs.size + 4) (s1.heap.objs.size + 2) (s1.heap.objs.size + 3) s1.heap.objs.size (s1.heap.objs.size + 1) [s1.heap.objs.size, a] [s1.heap.objs.size + 1, b] :=
        zip_sep2 (N := s1.heap.objs.size) (fp1 := [a]) (fp2 := [b]) (fun c hc => by rw [List.mem_singleton.mp hc]; exact la) (fun c hc => by rw [List.mem_singleton.mp hc]; exact lb)
      refine ⟨s1.heap.objs.size + 4, [s1.heap.objs.size + 4, s1.heap.objs.size + 2, s1.heap.objs.size + 3, s1.heap.objs.size, s1.heap.objs.size + 1], _, _, H1, rfl, I2, turn_zip2 S (Nat.ne_of_lt la) (Nat.ne_of_lt (Nat.lt_succ_of_lt lb)), ⟨hz, hTI, ⟨_, _, hTO⟩, it_new h1, it_new h2⟩, fun c hcm => ?_, q⟩
      have hle : s1.heap.objs.size ≤ c := by
        have e' : c = s1.heap.objs.size + 4 ∨ c = s1.heap.objs.size + 2 ∨ c = s1.heap.objs.size + 3 ∨ c = s1.heap.objs.size ∨ c = s1.heap.objs.size + 1 := by simpa using hcm
        rcases e' with q | q | q | q | q
        · rw [q]; exact Nat.le_add_right _ _
        · rw [q]; exact Nat.le_add_right _ _
        · rw [q]; exact Nat.le_add_right _ _
        · rw [q]; exact Nat.le_refl _
        · rw [q]; exact Nat.le_add_right _ _
      exact I1.fpOk hle (I1.hok.fresh hle)
end SQ
/-! enumerate of a list or a tuple; a for over either. -/
namespace SQ
open PySem PySem.Spec PyProof.Rows L2
theorem meets_enum1 {v : Value} {o : Obj} {G : Heap → Prop} (B : Begins v o G) :
    Meets (Builtin.«enumerate.__new__» ⟨[.type "enumerate", v], []⟩) (fun _ R s => G s.heap ∧
      R (.ok (.ret (.ref (s.heap.push o).objs.size))) { s with heap := (s.heap.push o).push { cls := .type "enumerate", data := .fields #[.none, .bool false, .ref s.heap.objs.size, rawInt 0, .none, .none] } }) :=
  .of_wp fun prog w A R s h => by
    obtain ⟨hp, g, d, tk, os⟩ := s
    obtain ⟨h1, h⟩ := h
    have hsub := sub_enumerate
    have q1 : ∀ {A' : Around} {E : Value → Shared → Prop} {Q : Value → Shared → Prop}, Q (.ref hp.objs.size) ⟨hp.push o, g, d, tk, os⟩ → wpAny (model prog w) A' (pyIter v) Q E ⟨hp, g, d, tk, os⟩ := fun q => B.iter prog w _ _ ⟨hp, g, d, tk, os⟩ _ h1 q
    wp_walk using q1
    refine wpAny_stack_any fun st => wpAny_pure ?_
    split
    · rename_i c _ _ _ _ _
      cases (c == Value.type "enumerate")
      all_goals
        wp_walk using q1
        exact ⟨_, rfl, h⟩
    · wp_walk using q1
      exact ⟨_, rfl, h⟩
theorem enum1 {prog : Program} {w : World} {A : Around} {E : Value → Shared → Prop} {s : Shared} {v : Value} {o : Obj} {G : Heap → Prop} {Q : Value → Shared → Prop} (B : Begins v o G) (h1 : G s.heap)
    (h : ∀ h', IsEnum h' (s.heap.objs.size + 1) s.heap.objs.size 0 .none → h'.get? s.heap.objs.size = some o → h'.objs.size = s.heap.objs.size + 2 → (∀ b o, s.heap.get? b = some o → h'.get? b = some o) → Q (.ref (s.heap.objs.size + 1)) { s with heap := h' }) :
    wpAny (model prog w) A (call (.type "enumerate") [v]) Q E s := by
  refine callType_new F.called_enumerate (by decide) (F.typeCall_enumerate_1 _) (F.newCall_enumerate_1 _) (fun obj => F.args_object_init_2 obj _) F.entry_enumerate_new (meets_enum1 B) ⟨h1, ?_⟩
  have hz : (s.heap.push o).objs.size = s.heap.objs.size + 1 := Heap.size_push ..
  show _ ∧ _
  rw [hz]
  have he : IsEnum ((s.heap.push o).push { cls := .type "enumerate", data := .fields #[.none, .bool false, .ref s.heap.objs.size, rawInt 0, .none, .none] }) (s.heap.objs.size + 1) s.heap.objs.size 0 .none := by
    have q := Heap.get?_push_size (s.heap.push o) (o := { cls := .type "enumerate", data := .fields #[.none, .bool false, .ref s.heap.objs.size, rawInt 0, .none, .none] }) rfl
    rw [hz] at q
    exact q
  refine ⟨⟨_, he, rfl⟩, h _ he (Heap.get?_push_of_some _ (Heap.get?_push_size _ B.free)) (by rw [Heap.size_push, hz]) fun b o' q => Heap.get?_push_of_some _ (Heap.get?_push_of_some _ q)⟩
/-- the number and the thing at each turn, in a new pair -/
def Ite2 (K : PySem.W.Frag) (k : Kd) (a : Addr) : It :=
  ⟨fun i H => ∃ (xs : List V) (x : V), SqK K H k a xs ∧ xs[i]? = some x,
    fun i H v H' => ∃ T x, v = .ref T ∧ H T = none ∧ H' = upd H T (.tup [.int (i : Nat), x]) ∧ ∀ xs, SqK K H k a xs → xs[i]? = some x,
    fun i H => ∃ xs : List V, SqK K H k a xs ∧ i = xs.length⟩
theorem walk_enum2 {K : PySem.W.Frag} {k : Kd} {a : Addr} {xs : List V} {n : Nat} (hn : n = xs.length) : Walk (Ite2 K k a) n (fun H => SqK K H k a xs) (YPair (fun i => some (.int (i : Nat))) (fun i => xs[i]?)) := by
  subst hn
  refine ⟨fun i _ hi q => ⟨xs, xs[i], q, by simp [hi]⟩, fun _ q => ⟨xs, q, rfl⟩, fun i H v H' _ q y => ?_⟩
  obtain ⟨T, x, h1, h2, h3, h4⟩ := y
  exact ⟨T, _, x, h1, h2, h3, rfl, h4 xs q⟩
theorem turn_enum2 {P : Program} {w : World} {K : PySem.W.Frag} {elts : List Expr} {kk : Nat} {tpos : Pos} {k : Kd} {a e it : Addr} (ne : a ≠ it) (ne1 : e ≠ it) (ne2 : e ≠ a) :
    Turn P w K (.Tuple elts kk tpos) (Ite2 K k a) [e, it] e (fun i h => (∃ old, IsEnum h e it i old) ∧ ItK h k it a i) where
  mem := by simp
  obj := fun i h st c hc => by
    obtain ⟨⟨old, he⟩, h1⟩ := st
    have e' : c = e ∨ c = it := by simpa using hc
    rcases e' with q | q
    · subst q
      exact ⟨_, he, fun v q => nomatch q⟩
    · subst q
      exact it_obj h1
  keep := fun i h h' st kp => by
    obtain ⟨⟨old, he⟩, h1⟩ := st
    exact ⟨⟨old, kp e (by simp) _ he⟩, it_keep (kp it (by simp)) h1⟩
  item := by
    intro X hP hw hK hc i pins s σ H E I hf st hg
    subst hP hw hK
    obtain ⟨⟨old, he⟩, h1⟩ := st
    obtain ⟨xs, x, qx, hx⟩ := hg
    obtain ⟨its, rv, p, _⟩ := there I qx
    obtain ⟨u, hu, ru⟩ := rv.get hx
    have hh : X.A.in1.handled = none := I.ok.hd hc
    have G := GoesN.enumFrom (prog := X.prog) (w := X.w) (A := X.A) (elts := elts) (x1 := kk) (pos := tpos) 0 (draws hh it a ne its.toArray k) e ne1 (by simp [ne1, ne2]) (by simp)
    have sm : ∀ c ∈ [e, it], c < s.heap.objs.size := fun c hc' => by
      have e' : c = e ∨ c = it := by simpa using hc'
      rcases e' with q | q
      · subst q
        exact Heap.lt_size he
      · subst q
        obtain ⟨_, e, _⟩ := it_obj h1
        exact Heap.lt_size e
    have l1 : i < its.length := (List.getElem?_eq_some_iff.mp hu).1
    refine G.goes i s (fun u s2 => ∃ x H', Inv X pins σ H' s2 ∧ RelV x u ∧ (Ite2 X.K k a).yld i H x H' ∧ ((∃ old, IsEnum s2.heap e it ((i + 1 : Nat) : Int) old) ∧ ItK s2.heap k it a (i + 1)) ∧ ∀ b ∈ [e, it], H' b = none) E
      (by simpa using l1) ⟨⟨old, by rw [Int.zero_add]; exact he⟩, h1, p⟩ fun v h' tk hY st' keep _ => ?_
    obtain ⟨T, t, x', rfl, hT, ex, hnew⟩ := hY
    have ex' : its[i]? = some x' := by simpa using ex
    rw [hu] at ex'
    cases ex'
    have new : ObjOk X.prog X.w (upd H T (.tup [.int (i : Nat), x])) h' T (.tup [.int (i : Nat), x]) := ⟨by show 2 ≤ sizeLine; decide, [.int (0 + (i : Int)) t, u], .cons (show L2.RelV (.int (i : Nat)) (.int (0 + (i : Int)) t) from ⟨t, by rw [Int.zero_add]⟩) (.cons ru .nil), hnew⟩
    have I1 : Inv X pins σ (upd H T (.tup [.int (i : Nat), x])) { s with heap := h', toks := tk } := I.turnedNew (t' := tk) (ch := [e, it]) keep (fun c hc' => hf c hc') hT new
    obtain ⟨⟨old', g1⟩, g2⟩ := st'
    rw [Int.zero_add] at g1
    refine ⟨.ref T, _, I1, rfl, ⟨T, x, rfl, I.hok.fresh hT, rfl, fun l hl => by rw [one I hl qx]; exact hx⟩, ⟨⟨old', g1⟩, g2.1⟩, fun c hc' => ?_⟩
    rw [upd_ne (Nat.ne_of_lt (Nat.lt_of_lt_of_le (sm c hc') hT))]
    exact (hf c hc').1
  done := by
    intro X hP hw hK hc i pins s σ H E I hf st hg
    subst hP hw hK
    obtain ⟨⟨old, he⟩, h1⟩ := st
    obtain ⟨xs, qx, hn⟩ := hg
    obtain ⟨its, rv, p, _⟩ := there I qx
    have hh : X.A.in1.handled = none := I.ok.hd hc
    have G := GoesN.enumFrom (prog := X.prog) (w := X.w) (A := X.A) (elts := elts) (x1 := kk) (pos := tpos) 0 (draws hh it a ne its.toArray k) e ne1 (by simp [ne1, ne2]) (by simp)
    have en : i = its.toArray.size := by
      rw [hn, rv.length]
      simp
    subst en
    exact G.stops s (fun s1 => Inv X pins σ H s1) E ⟨⟨old, by rw [Int.zero_add]; exact he⟩, h1, p⟩ fun h' tk keep _ =>
      I.turnedL (t' := tk) (ch := [e, it]) keep (fun c hc' => hf c hc')
  self := fun A i s Q E st h => by
    obtain ⟨⟨old, he⟩, _⟩ := st
    exact wpAny_pyIter_enum he h
def iEnum2 (K : PySem.W.Frag) (ta : TA) : TI := fun σ H R => ta σ H fun vs H1 => ∃ a xs k, vs = [.ref a] ∧ SqK K H1 k a xs ∧ R (Ite2 K k a) H1
theorem pi_enum2 {X : Cx} {e : Expr} {ta : TA} {p pos tpos : Pos} {elts : List Expr} {kk : Nat} (hg : Gl X "enumerate") (hm : X.mg "enumerate" = none) (ha : PA X [e] ta) (hs : starEach [e] X.env = [(false, eval e X.env)] := by rfl) :
    PI X (.Tuple elts kk tpos) (.Call (.Name "enumerate" p) [e] [] pos) (iEnum2 X.K ta) := by
  refine ⟨fun pins s σ H R I h => Call_ (ld_blt I hg hm PyProof.Rows.boot_enumerate (PyProof.Rows.callWith_type1 (thn (ha.run pos pins s σ H _ I h) fun us s1 ⟨vs, H1, I1, r1, q1⟩ => ?_) hs rfl))⟩
  obtain ⟨a, xs, k, ex, qx, q⟩ := q1
  subst ex
  cases r1 with
  | cons r rr =>
    cases rr
    cases r
    obtain ⟨its, rv, p1, la⟩ := there I1 qx
    refine enum1 (begins a its.toArray k) p1 fun h' he h1 hsz hk => wpAny_pyIter_enum he ?_
    have I2 : Inv X pins σ H1 { s1 with heap := h' } := I1.kept (t' := s1.toks) hk
    refine ⟨s1.heap.objs.size + 1, [s1.heap.objs.size + 1, s1.heap.objs.size], _, _, H1, rfl, I2, turn_enum2 (e := s1.heap.objs.size + 1) (it := s1.heap.objs.size) (Nat.ne_of_lt la) (Nat.succ_ne_self _) (Nat.ne_of_gt (Nat.lt_succ_of_lt la)), ⟨⟨_, he⟩, it_new h1⟩, fun c hcm => ?_, q⟩
    have hle : s1.heap.objs.size ≤ c := by
      have e' : c = s1.heap.objs.size + 1 ∨ c = s1.heap.objs.size := by simpa using hcm
      rcases e' with q | q
      · rw [q]; exact Nat.le_add_right _ _
      · rw [q]; exact Nat.le_refl _
    exact I1.fpOk hle (I1.hok.fresh hle)
end SQ
/-! one of two readings; a walk over either kind; count; tuples without a dict. -/
namespace SQ
open PySem PySem.Spec PyProof.Rows L2
def tOr (t u : TE) : TE := fun σ H Q => t σ H Q ∨ u σ H Q
def iOr (t u : TI) : TI := fun σ H R => t σ H R ∨ u σ H R
section
variable {X : Cx}
theorem pe_or2 {e : Expr} {t u : TE} (h1 : PE X e t) (h2 : PE X e u) : PE X e (tOr t u) :=
  ⟨fun pins s σ H Q I h => h.elim (h1.run pins s σ H Q I) (h2.run pins s σ H Q I)⟩
theorem pi_or2 {tg e : Expr} {t u : TI} (h1 : PI X tg e t) (h2 : PI X tg e u) : PI X tg e (iOr t u) :=
  ⟨fun pins s σ H Q I h => h.elim (h1.run pins s σ H Q I) (h2.run pins s σ H Q I)⟩
def It2 (K : PySem.W.Frag) : Kd → Addr → It
  | .L => Itl K
  | .T => Itt K
def iSq (K : PySem.W.Frag) (tl : TE) : TI := iOr (iList K tl) (iTup K tl)
theorem pi_sq {tg l : Expr} {tl : TE} (h : PE X l tl) : PI X tg l (iSq X.K tl) := pi_or2 (pi_list h) (pi_tup h)
theorem walk_sq {K : PySem.W.Frag} {a : Addr} {xs : List V} {n : Nat} : ∀ {k : Kd}, n = xs.length → Walk (It2 K k a) n (fun H => SqK K H k a xs) (YAt xs)
  | .L, e => e ▸ walk_list
  | .T, e => e ▸ walk_tup
/-- the value is there at once -/
theorem iSq_var {K : PySem.W.Frag} {i : Nat} {σ : L2.St} {H : Hp} {R : It → Hp → Prop} {a : Addr} {xs : List V} : ∀ {k : Kd}, σ[i]? = some (some (.ref a)) → SqK K H k a xs → R (It2 K k a) H → iSq K (tVar i) σ H R
  | .L, e, q, r => .inl ⟨_, e, a, rfl, ⟨xs, q⟩, r⟩
  | .T, e, q, r => .inr ⟨_, e, a, rfl, ⟨xs, q⟩, r⟩
/-- a tuple without a dict of its own -/
def Nd (K : PySem.W.Frag) (H : Hp) (x : V) : Prop := ∃ a, x = .ref a ∧ ((∃ o u, H a = some (.frz o (.tup u)) ∧ o.dict = none) ∨ ∃ o, K.lookup a = some o ∧ o.cls = .type "tuple" ∧ o.dict = none)
theorem Nd.same {K : PySem.W.Frag} {H H' : Hp} {x : V} (s : Same H H') (h : Nd K H x) : Nd K H' x := by
  obtain ⟨a, e, h⟩ := h
  refine ⟨a, e, ?_⟩
  rcases h with ⟨o, u, h, d⟩ | h
  · exact .inl ⟨o, u, s _ _ h, d⟩
  · exact .inr h
theorem nd_is {pins : List (Addr × Obj)} {σ : L2.St} {H : Hp} {s : Shared} {x : V} {v : Value} (I : Inv X pins σ H s) (r : L2.RelV x v) (h : Nd X.K H x) : s.TypeIs v "tuple" ∧ ∀ a, v = .ref a → ∃ ob, s.heap.get? a = some ob ∧ ob.dict = none := by
  obtain ⟨a, rfl, h⟩ := h
  rcases h with ⟨o, u, h, d⟩ | ⟨o, h, c, d⟩
  · obtain rfl : v = .ref a := r
    obtain ⟨e, _, its, _, o', e', hc, _⟩ := I.hok a _ h
    rw [e] at e'
    cases e'
    refine ⟨⟨o, e, hc⟩, fun b hb => ?_⟩
    cases hb
    exact ⟨o, e, d⟩
  · exact tyV_is I r (T := "tuple") (x := .ref a) (.inr (.inl ⟨rfl, o, h, c, d⟩))
def tBMT (K : PySem.W.Frag) (r : V → List V → Hp → VK → Prop) (to : TE) (t : TA) : TE := fun σ H Q => to σ H fun x H1 => Nd K H1 x ∧ t σ H1 fun xs H2 => r x xs H2 Q
variable {o e : Expr} {es : List Expr} {to : TE} {t : TA} {name : Str} {apos cpos : Pos} {id : String} {r : V → List V → Hp → VK → Prop}
theorem pe_bmT (slot : Slot "tuple" name id) (hty : typeOf (.builtin id) = pure (.type "method_descriptor")) (hm : MtR X id r) (ho : PE X o to) (ha : PA X (e :: es) t)
    (hbase : attributeBase o name X.env (eval o X.env) = eval o X.env := by rfl)
    (hfew : ((backTo cpos (starEach (e :: es) X.env)).all (fun x => !x.1) && (backToKw cpos (keywordEach [] X.env)).all (fun x => x.1.isSome)
      && decide ((e :: es).length + ([] : List Keyword).length + (if ([] : List Keyword).isEmpty then 0 else 1) < 30)) = true := by rfl)
    (hline : (apos.endLine == cpos.line) = true := by rfl) (hs : starEach (e :: es) X.env = (false, eval e X.env) :: starEach es X.env := by rfl) (hplain : (backTo cpos (starEach es X.env)).any (·.1) = false := by rfl) :
    PE X (.Call (.Attribute o name apos) (e :: es) [] cpos) (tBMT X.K r to t) := by
  refine ⟨fun pins s σ H Q I h => ?_⟩
  refine wpAny_Call_method_late hbase hfew hline rfl (thn (ho.run pins s σ H _ I h) fun v s1 ⟨x, H1, I1, r1, ty, q1⟩ => ?_)
  obtain ⟨h1, h2⟩ := nd_is I1 r1 ty
  refine ⟨"tuple", id, PySem.F.plainAttrs_tuple, slot, hty, h1, h2, ?_⟩
  have hA := ha.run cpos pins s1 σ H1 _ I1 q1
  rw [hs] at hA ⊢
  refine Calls.callWith_builtin (by show (false || (backTo cpos (starEach es X.env)).any (·.1)) = false; rw [hplain] <;> rfl) (Calls.evalArgs_plain ?_)
  exact thn hA fun us s2 ⟨vs, H2, I2, r2, q2⟩ => hm pins s2 σ H2 x vs v us Q I2 r1 r2 q2
/-- xs.count(y), data of any depth -/
def rCntD (K : PySem.W.Frag) (mk : List PyData → PyData) : V → List V → Hp → VK → Prop := fun x xs H Q => ∃ (y : V) (d : PyData) (ds : List PyData), xs = [y] ∧ Dp K H x (mk ds) ∧ Dp K H y d ∧
  PyData.canLayAll0 ds = true ∧ SeqAt.shaped d = true ∧ Q (.int ((ds.countP fun z => PyData.eqv z d : Nat) : Int)) H
theorem shaped_room {A : Around} {ds : List PyData} {d : PyData} (sd : SeqAt.shaped d = true) (hu : A.units + 65 < cLine) : A.units + 1 + min (PyData.depthAll ds) d.depth < cLine := room_in_shaped sd hu
theorem mt_lcountD (hu : X.A.units + 65 < cLine) : MtR X "list.count" (rCntD X.K .list) := by
  intro pins s σ H x xs v us Q I rx rxs h
  obtain ⟨y, d, ds, rfl, hl, hy, sl, sd, q⟩ := h
  cases rxs with
  | cons ry rt =>
    rename_i uy ut
    cases rt
    obtain ⟨bs, r1⟩ := Dp.reads I d y uy hy ry
    have hroom : X.A.units + 1 + min (PyData.depthAll ds) d.depth < cLine := shaped_room sd hu
    cases hl with
    | lst hs ha =>
      rename_i a xs
      obtain rfl : v = .ref a := rx
      obtain ⟨its, rv, ⟨⟨cls, dd, data, sls⟩, n, ho, hc, hdn, hdt⟩, hlen⟩ := I.list hs
      simp only at hc hdt
      subst hc hdt
      obtain ⟨as, h4⟩ := Dp.readsAll I ds _ its ha rv
      have hmap : its.map (SeqAt.readOf s.heap) = ds := SeqAt.readsAll_map ds its as sl h4
      refine call_meets PySem.F.slot_list_count ⟨_, ho, rfl⟩ PySem.F.entry_list_count (PySem.F.args_list_count_2 _ _)
        (SeqAt.list_countAt a its.toArray n dd sls uy (fun u => PyData.eqv (SeqAt.readOf s.heap u) d)) ⟨ho, SeqAt.items_eqAt (vs := its.toArray) (show ReadsAll s.heap its.toArray.toList ds as from h4) r1 sl (SeqAt.canLay_of_shaped sd) hroom, ?_⟩
      have ec : its.toArray.toList.countP (fun u => PyData.eqv (SeqAt.readOf s.heap u) d) = ds.countP fun z => PyData.eqv z d := by
        rw [← hmap, List.countP_map]
        rfl
      rw [ec]
      exact ⟨.int _, H, I.tok _, ⟨s.toks, rfl⟩, q⟩
theorem mt_tcountD (hu : X.A.units + 65 < cLine) : MtR X "tuple.count" (rCntD X.K .tuple) := by
  intro pins s σ H x xs v us Q I rx rxs h
  obtain ⟨y, d, ds, rfl, hl, hy, sl, sd, q⟩ := h
  cases rxs with
  | cons ry rt =>
    rename_i uy ut
    cases rt
    obtain ⟨bs, r1⟩ := Dp.reads I d y uy hy ry
    have hroom : X.A.units + 1 + min (PyData.depthAll ds) d.depth < cLine := shaped_room sd hu
    cases hl with
    | tup hs ha =>
      rename_i a xs
      obtain rfl : v = .ref a := rx
      obtain ⟨its, rv, ⟨⟨cls, dd, data, sls⟩, ho, hc, n, hdt⟩, hlen⟩ := I.tuple hs
      simp only at hc hdt
      subst hc hdt
      obtain ⟨as, h4⟩ := Dp.readsAll I ds _ its ha rv
      have hmap : its.map (SeqAt.readOf s.heap) = ds := SeqAt.readsAll_map ds its as sl h4
      refine call_meets PySem.F.slot_tuple_count ⟨_, ho, rfl⟩ PySem.F.entry_tuple_count (PySem.F.args_tuple_count_2 _ _)
        (SeqAt.tuple_countAt a its.toArray n dd sls uy (fun u => PyData.eqv (SeqAt.readOf s.heap u) d)) ⟨ho, SeqAt.items_eqAt (vs := its.toArray) (show ReadsAll s.heap its.toArray.toList ds as from h4) r1 sl (SeqAt.canLay_of_shaped sd) hroom, ?_⟩
      have ec : its.toArray.toList.countP (fun u => PyData.eqv (SeqAt.readOf s.heap u) d) = ds.countP fun z => PyData.eqv z d := by
        rw [← hmap, List.countP_map]
        rfl
      rw [ec]
      exact ⟨.int _, H, I.tok _, ⟨s.toks, rfl⟩, q⟩
/-- tuple(x) of a list: a new tuple without a dict -/
def kTupF (K : PySem.W.Frag) (x : V) (H : Hp) (Q : VK) : Prop := ∃ p xs, x = .ref p ∧ SqL K H p xs ∧ ∀ q o, H q = none → o.dict = none → Q (.ref q) (upd H q (.frz o (.tup xs)))
theorem rl_tupleF (pins : List (Addr × Obj)) (s : Shared) (σ : L2.St) (H : Hp) (x : V) (v : Value) (Q : VK) (I : Inv X pins σ H s) (r : L2.RelV x v) (h : kTupF X.K x H Q) :
    wpAny (model X.prog X.w) X.A (call (.type "tuple") [v]) (EP X pins σ Q) X.xe s := by
  obtain ⟨p, xs, rfl, hs, q⟩ := h
  obtain rfl : v = .ref p := r
  obtain ⟨its, rv, pl, hz⟩ := I.list hs
  refine call_tuple_list pl.isList (fun h' hk => ?_) (by rw [List.size_toArray, ← rv.length]; exact hz)
  have I1 : Inv X pins σ H { s with heap := h' } := I.kept (t' := s.toks) hk
  have I2 : Inv X pins σ (upd H h'.objs.size (.frz { cls := .type "tuple", data := .seq its.toArray } (.tup xs))) { s with heap := h'.push { cls := .type "tuple", data := .seq its.toArray } } :=
    I1.laid (t' := s.toks) (fun b o e => Heap.get?_push_of_some _ e) (Nat.le_refl _) (show ObjOk X.prog X.w _ _ _ (.frz _ (.tup xs)) from ⟨Heap.get?_push_size _ rfl, hz, its, rv, IsTup.new _ _⟩)
  exact ⟨.ref h'.objs.size, _, I2, rfl, q _ _ (I1.hok.fresh (Nat.le_refl _)) rfl⟩
theorem pe_tupleF {a : Expr} {ta : TE} {p pos : Pos} (hg : Gl X "tuple") (hm : X.mg "tuple" = none) (ha : PE X a ta) (na : starEach [a] X.env = (false, eval a X.env) :: starEach [] X.env := by rfl) :
    PE X (.Call (.Name "tuple" p) [a] [] pos) (tThen ta (kTupF X.K)) := by
  refine ⟨fun pins s σ H Q I h => ?_⟩
  exact Call_ (ld_blt I hg hm boot_tuple (PyProof.Rows.callWith_type1 (one_arg ha I h (fun v s2 x H2 I2 r q => rl_tupleF pins s2 σ H2 x v Q I2 r q) na) na))
end
end SQ
/-! A written tuple: it has no dict. -/
namespace SQ
open PySem PySem.Spec PyProof.Rows L2
def tTupZ (t : TA) : TE := fun σ H Q => t σ H fun xs H1 => xs.length ≤ sizeLine ∧ ∀ q o, H1 q = none → o.dict = none → Q (.ref q) (upd H1 q (.frz o (.tup xs)))
theorem pe_tupZ {X : Cx} {es : List Expr} {t : TA} {k : Nat} {pos : Pos} (ha : PA X es t) : PE X (.Tuple es k pos) (tTupZ t) := by
  refine ⟨fun pins s σ H Q I h => Tuple_ (thn (ha.run _ pins s σ H _ I h) ?_)⟩
  rintro us s1 ⟨vs, H1, I1, r, hz, q⟩
  have hl : us.toArray.size ≤ sizeLine := by rw [List.size_toArray, ← r.length]; exact hz
  refine wpAny_newObj_type ?_ hl
  have I2 : Inv X pins σ (upd H1 s1.heap.objs.size (.frz { cls := .type "tuple", data := .seq us.toArray } (.tup vs))) { s1 with heap := s1.heap.push { cls := .type "tuple", data := .seq us.toArray } } :=
    I1.laid (t' := s1.toks) (fun _ _ e => Heap.get?_push_of_some _ e) (Nat.le_refl _) (show ObjOk X.prog X.w _ _ _ (.frz _ (.tup vs)) from ⟨Heap.get?_push_size _ rfl, hz, us, r, IsTup.new _ _⟩)
  exact ⟨.ref s1.heap.objs.size, _, I2, rfl, q _ _ (I1.hok.fresh (Nat.le_refl _)) rfl⟩
end SQ
namespace K02
open PySem L2 FX SQ
/-- the loop of a walk, whatever a turn does -/
theorem walk_it {J : It} {n : Nat} {G : Hp → Prop} {Y : Nat → Hp → V → Hp → Prop} (w : Walk J n G Y) {H0 : Hp} {B : V → Hp → (Hp → Prop) → Prop} {Qd : Hp → Prop} (Pv : Nat → Hp → Prop) (h0 : Pv 0 H0) (hG : ∀ i H, i ≤ n → Pv i H → G H)
    (hs : ∀ i x H H', i < n → Pv i H → Y i H x H' → B x H' (Pv (i + 1))) (hd : ∀ H, Pv n H → Qd H) :
    ∃ W : Nat → Nat → Hp → Prop, (∃ m, W 0 m H0) ∧ ∀ i m H, W i m H → (J.stop i H ∧ Qd H) ∨ (J.go i H ∧ ∃ Nx : Hp → Prop, (∀ H', Nx H' → ∃ m', m' < m ∧ W (i + 1) m' H') ∧ ∀ x H', J.yld i H x H' → B x H' Nx) := by
  refine ⟨fun i m H => m = n - i ∧ i ≤ n ∧ Pv i H, ⟨n, by simp, Nat.zero_le _, h0⟩, ?_⟩
  rintro i m H ⟨rfl, hi, p⟩
  by_cases hlt : i < n
  · exact .inr ⟨w.goes i H hlt (hG i H hi p), Pv (i + 1), fun H' p' => ⟨n - (i + 1), by omega, rfl, hlt, p'⟩, fun x H' y => hs i x H H' hlt p (w.yields i H x H' hlt (hG i H hi p) y)⟩
  · have e : i = n := by omega
    subst e
    exact .inl ⟨w.stops H (hG _ H hi p), hd H p⟩
/-! ### a list in the making -/
def off (H : Hp) (a : Addr) : Hp := fun b => if b = a then none else H b
theorem off_ne {H : Hp} {a b : Addr} (h : b ≠ a) : off H a b = H b := if_neg h
theorem off_same {H : Hp} {a : Addr} : off H a a = none := if_pos rfl
theorem off_upd {H : Hp} {a : Addr} {o : HO} : off (upd H a o) a = off H a := by
  funext b
  by_cases h : b = a
  · rw [h, off_same, off_same]
  · rw [off_ne h, off_ne h, upd_ne h]
theorem off_le {H : Hp} {a : Addr} : Same (off H a) H := fun c o e => by
  by_cases h : c = a
  · rw [h, off_same] at e
    cases e
  · rw [off_ne h] at e
    exact e
theorem off_mono {H H' : Hp} {a : Addr} (s : ∀ c o, c ≠ a → H c = some o → H' c = some o) : Same (off H a) (off H' a) := fun c o e => by
  by_cases h : c = a
  · rw [h, off_same] at e
    cases e
  · rw [off_ne h] at e ⊢
    exact s c o h e
/-- at a stands a list that is still filled: its things don't hang on it -/
def Grow (K : PySem.W.Frag) (H : Hp) (a : Addr) (ds : List D) : Prop := ∃ vs, H a = some (.lst vs) ∧ DpAll K (off H a) vs ds
theorem Grow.nil {K : PySem.W.Frag} {H : Hp} {a : Addr} : Grow K (upd H a (.lst [])) a [] := ⟨[], upd_same, .nil⟩
theorem Grow.dp {K : PySem.W.Frag} {H : Hp} {a : Addr} {ds : List D} (g : Grow K H a ds) : Dp K H (.ref a) (.list ds) := by
  obtain ⟨vs, e, r⟩ := g
  exact .lst (SqL.of e) (dpAll_same off_le r)
theorem Grow.keep {K : PySem.W.Frag} {H H' : Hp} {a : Addr} {ds : List D} (g : Grow K H a ds) (s : Same H H') : Grow K H' a ds := by
  obtain ⟨vs, e, r⟩ := g
  exact ⟨vs, s _ _ e, dpAll_same (off_mono fun c o _ q => s c o q) r⟩
theorem dpAll_snoc {K : PySem.W.Frag} {H : Hp} : ∀ {vs : List V} {ds : List D} {v : V} {d : D}, DpAll K H vs ds → Dp K H v d → DpAll K H (vs ++ [v]) (ds ++ [d])
  | _, _, _, _, .nil, h => .cons h .nil
  | _, _, _, _, .cons h r, q => .cons h (dpAll_snoc r q)
theorem dpAll_app {K : PySem.W.Frag} {H : Hp} : ∀ {vs ws : List V} {ds es : List D}, DpAll K H vs ds → DpAll K H ws es → DpAll K H (vs ++ ws) (ds ++ es)
  | _, _, _, _, .nil, h => h
  | _, _, _, _, .cons h r, q => .cons h (dpAll_app r q)
/-- a thing is put behind all: it doesn't hang on the list -/
theorem Grow.put {K : PySem.W.Frag} {H : Hp} {a : Addr} {ds : List D} {acc : List V} {v : V} {d : D} (g : Grow K H a ds) (e : H a = some (.lst acc)) (h : Dp K (off H a) v d) : Grow K (upd H a (.lst (acc ++ [v]))) a (ds ++ [d]) := by
  obtain ⟨vs, e', r⟩ := g
  rw [e] at e'
  cases e'
  refine ⟨_, upd_same, ?_⟩
  rw [off_upd]
  exact dpAll_snoc r h
theorem Grow.len {K : PySem.W.Frag} {H : Hp} {a : Addr} {ds : List D} {acc : List V} (g : Grow K H a ds) (e : H a = some (.lst acc)) : acc.length = ds.length := by
  obtain ⟨vs, e', r⟩ := g
  rw [e] at e'
  cases e'
  exact dpAll_len r
/-- what stood ahead of the list doesn't hang on it -/
theorem dp_off {K : PySem.W.Frag} {H0 H : Hp} {a : Addr} {v : V} {d : D} (h : Dp K H0 v d) (s : Same H0 H) (n : H0 a = none) : Dp K (off H a) v d :=
  dp_same (fun c o e => by
    rw [off_ne (ne_of_none e n)]
    exact s c o e) h
theorem same_new {H : Hp} {l : Addr} {o : HO} (h : H l = none) : Same H (upd H l o) := fun c u e => by
  rw [upd_ne (ne_of_none e h)]
  exact e
/-- H, but for a, is kept by a change of a alone -/
theorem same_of {H0 H : Hp} {a : Addr} {o : HO} (s : Same H0 H) (n : H0 a = none) : Same H0 (upd H a o) := fun c u e => by
  rw [upd_ne (ne_of_none e n)]
  exact s c u e
/-! ### all rows of choices -/
def stepRows (acc : List (List D)) (c : List D) : List (List D) := acc.flatMap fun r => c.map fun x => r ++ [x]
def rowsOf (css : List (List D)) : List (List D) := css.foldl stepRows [[]]
theorem flat_len {α β : Type} {f : α → List β} {m : Nat} (h : ∀ r, (f r).length ≤ m) : ∀ l : List α, (l.flatMap f).length ≤ m * l.length
  | [] => by simp
  | r :: l => by
    have h1 := flat_len h l
    have h2 := h r
    rw [List.flatMap_cons, List.length_append, List.length_cons, Nat.mul_add, Nat.mul_one]
    omega
theorem rows_len (css : List (List D)) : ∀ (acc : List (List D)) (n : Nat), (∀ r ∈ acc, r.length = n) → ∀ r ∈ css.foldl stepRows acc, r.length = n + css.length := by
  induction css with
  | nil => exact fun acc n h r hr => h r hr
  | cons c css ih =>
    intro acc n h r hr
    have q := ih (stepRows acc c) (n + 1) (fun r' hr' => by
      obtain ⟨r0, h0, hm⟩ := List.mem_flatMap.mp hr'
      obtain ⟨x, _, rfl⟩ := List.mem_map.mp hm
      rw [List.length_append, h r0 h0]
      rfl) r hr
    rw [q, List.length_cons]
    omega
theorem rows_many (css : List (List D)) (hc : ∀ c ∈ css, c.length ≤ 8) : ∀ acc : List (List D), (css.foldl stepRows acc).length ≤ 8 ^ css.length * acc.length := by
  induction css with
  | nil => exact fun acc => by simp
  | cons c css ih =>
    intro acc
    have h1 := ih (fun c' h' => hc c' (List.mem_cons_of_mem _ h')) (stepRows acc c)
    have h2 : (stepRows acc c).length ≤ 8 * acc.length := flat_len (fun r => by rw [List.length_map]; exact hc c (List.mem_cons_self ..)) acc
    have h3 : 8 ^ css.length * (stepRows acc c).length ≤ 8 ^ css.length * (8 * acc.length) := Nat.mul_le_mul_left _ h2
    rw [List.foldl_cons, List.length_cons, Nat.pow_succ, Nat.mul_assoc]
    exact Nat.le_trans h1 h3
theorem take_more {α : Type} : ∀ {l : List α} {i : Nat} {x : α}, l[i]? = some x → l.take (i + 1) = l.take i ++ [x]
  | [], i, x, h => by simp at h
  | a :: l, 0, x, h => by
    simp at h
    subst h
    rfl
  | a :: l, i + 1, x, h => by
    have ih := take_more (l := l) (i := i) (x := x) (by simpa using h)
    show a :: l.take (i + 1) = a :: l.take i ++ [x]
    rw [ih]
    rfl
abbrev rowD (r : List D) : D := .tuple r
/-- a list whose things are tuples without a dict -/
def NdL (K : PySem.W.Frag) (H : Hp) (v : V) (ds : List D) : Prop := ∃ a xs, v = .ref a ∧ H a = some (.lst xs) ∧ DpAll K H xs ds ∧ ∀ x ∈ xs, Nd K H x
def GrowN (K : PySem.W.Frag) (H : Hp) (a : Addr) : Prop := ∃ xs, H a = some (.lst xs) ∧ ∀ x ∈ xs, Nd K (off H a) x
theorem GrowN.nil {K : PySem.W.Frag} {H : Hp} {a : Addr} : GrowN K (upd H a (.lst [])) a := ⟨[], upd_same, fun x hx => by cases hx⟩
theorem GrowN.keep {K : PySem.W.Frag} {H H' : Hp} {a : Addr} (g : GrowN K H a) (s : Same H H') : GrowN K H' a := by
  obtain ⟨xs, e, h⟩ := g
  exact ⟨xs, s _ _ e, fun x hx => (h x hx).same (off_mono fun c o _ q => s c o q)⟩
theorem GrowN.put {K : PySem.W.Frag} {H : Hp} {a : Addr} {acc : List V} {x : V} (g : GrowN K H a) (e : H a = some (.lst acc)) (h : Nd K (off H a) x) : GrowN K (upd H a (.lst (acc ++ [x]))) a := by
  obtain ⟨xs, e', q⟩ := g
  rw [e] at e'
  cases e'
  refine ⟨_, upd_same, fun y hy => ?_⟩
  rw [off_upd]
  rcases List.mem_append.mp hy with hy | hy
  · exact q y hy
  · rw [List.mem_singleton] at hy
    rw [hy]
    exact h
theorem GrowN.list {K : PySem.W.Frag} {H : Hp} {a : Addr} {ds : List D} (g : GrowN K H a) (g2 : Grow K H a ds) : NdL K H (.ref a) ds := by
  obtain ⟨xs, e, h⟩ := g
  obtain ⟨xs', e', h'⟩ := g2
  rw [e] at e'
  cases e'
  exact ⟨a, xs, rfl, e, dpAll_same off_le h', fun x hx => (h x hx).same off_le⟩
section
variable {P : Program} {w : World} {K : PySem.W.Frag} {mg : Str → Option Value} {base : Heap}
abbrev sRows : Stmt := top 9
/-- choices: a list of lists -/
def spRows (K : PySem.W.Frag) : Sp := fun vs H Q _ => ∃ (v : V) (css : List (List D)), vs = [v] ∧ Dp K H v (.list (css.map .list)) ∧ css.length ≤ 4 ∧ (∀ c ∈ css, c.length ≤ 8) ∧
  ∀ H' w, Same H H' → Dp K H' w (.list ((rowsOf css).map rowD)) → NdL K H' w ((rowsOf css).map rowD) → Q w H'
theorem dp_list {K : PySem.W.Frag} {H : Hp} {v : V} {ds : List D} (h : Dp K H v (.list ds)) : ∃ a xs, v = .ref a ∧ SqL K H a xs ∧ DpAll K H xs ds := by
  cases h with
  | lst q r => exact ⟨_, _, rfl, q, r⟩
theorem dp_tup {K : PySem.W.Frag} {H : Hp} {v : V} {ds : List D} (h : Dp K H v (.tuple ds)) : ∃ a xs, v = .ref a ∧ SqT K H a xs ∧ DpAll K H xs ds := by
  cases h with
  | tup q r => exact ⟨_, _, rfl, q, r⟩
theorem dpAll_get {K : PySem.W.Frag} {H : Hp} : ∀ {vs : List V} {ds : List D} {i : Nat} {v : V}, DpAll K H vs ds → vs[i]? = some v → ∃ d, ds[i]? = some d ∧ Dp K H v d
  | _, _, _, _, .nil, e => by simp at e
  | _, _, 0, _, .cons h _, e => by
    simp at e
    subst e
    exact ⟨_, rfl, h⟩
  | _, _, i + 1, _, .cons _ r, e => by
    obtain ⟨d, h1, h2⟩ := dpAll_get (i := i) r (by simpa using e)
    exact ⟨d, by simpa using h1, h2⟩
abbrev NRows : List Str := ["choices", "rows", "things", "row", "thing"]
theorem scRows : FnScope NRows ["choices"] (defScope sRows) := ⟨rfl, rfl, rfl, by decide +kernel, rfl, by decide +kernel, by decide +kernel⟩
theorem ok_rows {f : Addr} {fd : FuncData} (F : Fun K "all_rows" "all_rows" sRows f fd) : FnOk P w K mg base CX0 1 f fd ["choices"] (spRows K) := by
  refine F.ok scRows (fun vs H Q E h => ?_) (fun cdv A outer s H vs Q E hr h => ?_)
  · obtain ⟨v, css, rfl, _⟩ := h
    rfl
  · obtain ⟨v, css, rfl, hd, h4, h8, k⟩ := h
    obtain ⟨a, xs, rfl, q, r⟩ := dp_list hd
    refine ⟨_, pss_cons (ps_set (i := 1) scRows.nd rfl (Or.inl rfl) (pe_lst (by exact (pa_cons (pe_tupZ pa_nil) pa_nil))))
      (pss_cons (ps_for PassesOwn.never rfl (pi_list (pv 0)) (pg_name (i := 2) scRows.nd rfl (Or.inr rfl))
        (pss_one (ps_setLc2 (i := 1) (own := [("row", 3), ("thing", 4)]) (vs1 := [4]) (g := gName 3) (tt := tYes) (g1 := gName 4) (tt1 := tYes) (wi1 := iList K (tVar 2)) (te := tTupZ (StX.tStar K (tVar 3) (tCons (tVar 4) tNil))) rfl scRows.nd rfl rfl (sw_true rfl rfl rfl (by decide +kernel)) (pi_list (pv 1)) (blkOk_by (N := NRows) (sc := defScope sRows) (by decide +kernel)) (by decide)
          (fun _ _ _ _ _ => pg_name (i := 3) scRows.nd rfl (Or.inl rfl)) (fun _ _ _ _ _ => pts_nil) (fun _ _ _ _ _ => pi_list (pv 2)) (fun _ _ _ _ _ => pg_name (i := 4) scRows.nd rfl (Or.inl rfl)) (fun _ _ _ _ _ => pts_nil)
          (fun _ _ _ _ _ => pe_tupZ (StX.pa_star (pv 3) (pa_cons (pv 4) pa_nil))))))
      (pss_one (ps_ret (pv 1)))), ?_⟩
    refine ⟨(by show 0 ≤ sizeLine; decide), fun t o0 ht hn0 => ⟨(by show 1 ≤ sizeLine; decide), fun L hL => ?_⟩⟩
    have s0 : Same H (upd (upd H t (.frz o0 (.tup []))) L (.lst [.ref t])) := (same_new ht).trans (same_new hL)
    have d0 : Dp K (upd (upd H t (.frz o0 (.tup []))) L (.lst [.ref t])) (.ref L) (.list ([[]].map rowD)) := .lst (SqL.of upd_same) (.cons (.tup (.inl (.inr ⟨o0, (same_new hL) _ _ upd_same⟩)) .nil) .nil)
    have n0 : NdL K (upd (upd H t (.frz o0 (.tup []))) L (.lst [.ref t])) (.ref L) ([[]].map rowD) := ⟨L, _, rfl, upd_same, .cons (.tup (.inl (.inr ⟨o0, (same_new hL) _ _ upd_same⟩)) .nil) .nil, fun x hx => by
      rw [List.mem_singleton] at hx
      rw [hx]
      exact ⟨t, rfl, .inl ⟨o0, _, (same_new hL) _ _ upd_same, hn0⟩⟩⟩
    refine ⟨_, rfl, a, rfl, ⟨_, s0.seq q⟩, for_list (K := K) (a := a) (xs := xs) (fun i σ H' => ∃ (Li : V) (u : Option V), σ = [some (.ref a), some Li, u, none, none] ∧ Same H H' ∧ Dp K H' Li (.list (((css.take i).foldl stepRows [[]]).map rowD)) ∧ NdL K H' Li (((css.take i).foldl stepRows [[]]).map rowD))
      ⟨_, none, rfl, s0, d0, n0⟩ (fun i σ H' _ ⟨_, _, _, s1, _⟩ => s1.seq q) ?_ ?_⟩
    · rintro i y σ H1 hi ⟨Li, u, rfl, s1, dL, _⟩
      obtain ⟨dc, hc, hy⟩ := dpAll_get r hi
      obtain ⟨c, hcc, rfl⟩ : ∃ c, css[i]? = some c ∧ dc = .list c := by
        rw [List.getElem?_map] at hc
        cases e : css[i]? with
        | none =>
          rw [e] at hc
          cases hc
        | some c =>
          rw [e] at hc
          exact ⟨c, rfl, (Option.some.inj hc).symm⟩
      have hil : i < css.length := (List.getElem?_eq_some_iff.mp hcc).1
      have hc8 : c.length ≤ 8 := h8 c (List.mem_of_getElem? hcc)
      obtain ⟨ac, xc, rfl, qc, rc⟩ := dp_list (dp_same s1 hy)
      obtain ⟨aL, xL, rfl, qL, rL⟩ := dp_list dL
      generalize hrows : (css.take i).foldl stepRows [[]] = rows at rL dL
      have many : rows.length ≤ 8 ^ 4 := by
        have h1 := rows_many (css.take i) (fun c' h' => h8 c' (List.mem_of_mem_take h')) [[]]
        rw [hrows, List.length_take, List.length_singleton, Nat.mul_one] at h1
        exact Nat.le_trans h1 (Nat.pow_le_pow_right (by decide) (by omega))
      have long : ∀ r' ∈ rows, r'.length ≤ 4 := fun r' h' => by
        have h1 := rows_len (css.take i) [[]] 0 (fun r'' h'' => by
          rw [List.mem_singleton] at h''
          subst h''
          rfl) r' (by rw [hrows]; exact h')
        rw [h1, List.length_take]
        omega
      have fl : ∀ r' : List D, (c.map fun x => rowD (r' ++ [x])).length ≤ 8 := fun r' => by
        rw [List.length_map]
        exact hc8
      refine ⟨_, rfl, aL, rfl, ⟨_, qL⟩, fun D hD => walk_it walk_list (fun j H2 => Same H1 H2 ∧ Grow K H2 D ((rows.take j).flatMap fun r' => c.map fun x => rowD (r' ++ [x])) ∧ GrowN K H2 D) ⟨same_new hD, Grow.nil, GrowN.nil⟩ (fun _ _ _ p => p.1.seq qL) ?_ ?_⟩
      · rintro j x _ H2 hj ⟨s2, g2, gn2⟩ ⟨rfl, hx⟩
        refine ⟨rfl, ?_⟩
        obtain ⟨dr, hr', hxd⟩ := dpAll_get rL hx
        obtain ⟨r', hrr, rfl⟩ : ∃ r', rows[j]? = some r' ∧ dr = rowD r' := by
          rw [List.getElem?_map] at hr'
          cases e : rows[j]? with
          | none =>
            rw [e] at hr'
            cases hr'
          | some c =>
            rw [e] at hr'
            exact ⟨c, rfl, (Option.some.inj hr').symm⟩
        obtain ⟨ar, xr, rfl, qr, rr⟩ := dp_tup hxd
        have lr := long r' (List.mem_of_getElem? hrr)
        refine ⟨_, rfl, ac, rfl, ⟨_, s2.seq qc⟩, walk_it walk_list (fun k H3 => Same H1 H3 ∧ Grow K H3 D (((rows.take j).flatMap fun r' => c.map fun x => rowD (r' ++ [x])) ++ (c.take k).map fun x => rowD (r' ++ [x])) ∧ GrowN K H3 D)
          ⟨s2, by simpa using g2, gn2⟩ (fun _ _ _ p => p.1.seq qc) ?_ ?_⟩
        · rintro k z _ H3 hk ⟨s3, g3, gn3⟩ ⟨rfl, hz⟩
          refine ⟨rfl, ?_⟩
          obtain ⟨dz, hz1, hzd⟩ := dpAll_get rc hz
          refine ⟨_, rfl, ar, xr, rfl, .inl (seqT s3 qr), _, rfl, ?_⟩
          refine ⟨by
            have := dpAll_len rr
            rw [List.length_append, this]
            show r'.length + 1 ≤ sizeLine
            rw [sizeLine_eq]
            omega, fun t2 o2 ht2 hn2 => ?_⟩
          obtain ⟨acc, eD, _⟩ := id g3
          have nt : D ≠ t2 := ne_of_none eD ht2
          have eD2 : upd H3 t2 (.frz o2 (.tup (xr ++ [z]))) D = some (.lst acc) := by
            rw [upd_ne nt]
            exact eD
          have lacc := g3.len eD
          refine ⟨acc, eD2, ?_, same_of (s3.trans (same_new ht2)) hD, ?_⟩
          · have h1 := flat_len fl (rows.take j)
            rw [List.length_append, List.length_map] at lacc
            rw [List.length_take] at h1 lacc
            rw [lacc, sizeLine_eq]
            omega
          · have e1 : ((rows.take j).flatMap fun r' => c.map fun x => rowD (r' ++ [x])) ++ (c.take (k + 1)).map (fun x => rowD (r' ++ [x])) = (((rows.take j).flatMap fun r' => c.map fun x => rowD (r' ++ [x])) ++ (c.take k).map fun x => rowD (r' ++ [x])) ++ [rowD (r' ++ [dz])] := by
              rw [take_more hz1, List.map_append, ← List.append_assoc]
              rfl
            rw [e1]
            have et2 : off (upd H3 t2 (.frz o2 (.tup (xr ++ [z])))) D t2 = some (.frz o2 (.tup (xr ++ [z]))) := by rw [off_ne (Ne.symm nt), upd_same]
            refine ⟨(g3.keep (same_new ht2)).put eD2 ?_, (gn3.keep (same_new ht2)).put eD2 ⟨t2, rfl, .inl ⟨o2, _, et2, hn2⟩⟩⟩
            have sd := same_new (o := .frz o2 (.tup (xr ++ [z]))) ht2
            refine .tup (.inl (.inr ⟨o2, et2⟩)) (dpAll_snoc ?_ ?_)
            · exact dpAll_same (fun c' o' e' => by
                rw [off_ne (ne_of_none e' hD)]
                exact sd _ _ (s3 _ _ e')) rr
            · exact dp_off hzd (s3.trans sd) hD
        · rintro H3 ⟨s3, g3, gn3⟩
          refine ⟨s3, ?_, gn3⟩
          have e1 : (rows.take (j + 1)).flatMap (fun r' => c.map fun x => rowD (r' ++ [x])) = ((rows.take j).flatMap fun r' => c.map fun x => rowD (r' ++ [x])) ++ (c.map fun x => rowD (r' ++ [x])) := by
            rw [take_more hrr, List.flatMap_append]
            simp
          rw [e1]
          have lc : xc.length = c.length := dpAll_len rc
          rw [lc, List.take_length] at g3
          exact g3
      · rintro H2 ⟨s2, g2, gn2⟩
        refine ⟨.ref D, _, rfl, s1.trans s2, ?_⟩
        have lL : xL.length = rows.length := by
          rw [dpAll_len rL, List.length_map]
        rw [lL, List.take_length] at g2
        have e1 : ((css.take (i + 1)).foldl stepRows [[]]).map rowD = rows.flatMap fun r' => c.map fun x => rowD (r' ++ [x]) := by
          rw [take_more hcc, List.foldl_append, hrows]
          show (stepRows rows c).map rowD = _
          unfold stepRows
          rw [List.map_flatMap]
          simp only [List.map_map]
          rfl
        rw [e1]
        exact ⟨g2.dp, gn2.list g2⟩
    · rintro σ H' ⟨Li, u, rfl, s1, dL, nL⟩
      have lx : xs.length = css.length := by
        rw [dpAll_len r, List.length_map]
      rw [lx, List.take_length] at dL nL
      exact ⟨_, rfl, k _ _ s1 dL nL⟩
end
end K02
/-! how many are held, whether all are alike, where an answer stands. -/
namespace K02
open PySem L2 FX SQ
theorem hr65 {k : Nat} {A : Around} (hr : Room k A) : A.units + 65 < cLine := by
  have := hr.un
  omega
def nD (n : Nat) : D := .int n
def oD : Option Nat → D
  | none => .none
  | some n => nD n
/-- a list, or a tuple without a dict -/
def HeldV (K : PySem.W.Frag) (H : Hp) (v : V) (ds : List D) : Prop := Dp K H v (.list ds) ∨ (Dp K H v (.tuple ds) ∧ Nd K H v)
theorem HeldV.same {K : PySem.W.Frag} {H H' : Hp} {v : V} {ds : List D} (s : Same H H') (h : HeldV K H v ds) : HeldV K H' v ds :=
  h.elim (fun h => .inl (dp_same s h)) fun h => .inr ⟨dp_same s h.1, h.2.same s⟩
theorem HeldV.seq {K : PySem.W.Frag} {H : Hp} {v : V} {ds : List D} (h : HeldV K H v ds) : ∃ a xs k, v = .ref a ∧ SqK K H k a xs ∧ DpAll K H xs ds := by
  rcases h with h | ⟨h, _⟩
  · obtain ⟨a, xs, e, q, r⟩ := dp_list h
    exact ⟨a, xs, .L, e, q, r⟩
  · obtain ⟨a, xs, e, q, r⟩ := dp_tup h
    exact ⟨a, xs, .T, e, q, r⟩
theorem sqK_or {K : PySem.W.Frag} {H : Hp} {a : Addr} {xs : List V} : ∀ {k : Kd}, SqK K H k a xs → SqL K H a xs ∨ SqT K H a xs
  | .L, h => .inl h
  | .T, h => .inr h
theorem sqK_same {K : PySem.W.Frag} {H H' : Hp} {a : Addr} {xs : List V} (s : Same H H') : ∀ {k : Kd}, SqK K H k a xs → SqK K H' k a xs
  | .L, h => s.seq h
  | .T, h => seqT s h
theorem lay_o : ∀ os : List (Option Nat), PyData.canLayAll0 (os.map oD) = true
  | [] => rfl
  | none :: r => lay_o r
  | some n :: r => lay_o r
theorem lay_n : ∀ os : List Nat, PyData.canLayAll0 (os.map nD) = true
  | [] => rfl
  | n :: r => lay_n r
theorem cnt_o : ∀ os : List (Option Nat), (os.map oD).countP (fun z => PyData.eqv z .none) = os.countP fun o => o.isNone
  | [] => rfl
  | none :: r => by
    rw [List.map_cons, List.countP_cons, List.countP_cons, cnt_o r]
    rfl
  | some n :: r => by
    rw [List.map_cons, List.countP_cons, List.countP_cons, cnt_o r]
    rfl
theorem cnt_n (k : Nat) : ∀ ns : List Nat, (ns.map nD).countP (fun z => PyData.eqv z (nD k)) = ns.countP fun n => n == k
  | [] => rfl
  | n :: r => by
    have e : PyData.eqv (nD n) (nD k) = (n == k) := by
      show decide ((n : Int) = (k : Int)) = decide (n = k)
      by_cases h : n = k
      · rw [decide_eq_true h]
        exact decide_eq_true (by rw [h])
      · rw [decide_eq_false h]
        exact decide_eq_false fun q => h (by omega)
    rw [List.map_cons, List.countP_cons, List.countP_cons, cnt_n k r, e]
section
variable {P : Program} {w : World} {K : PySem.W.Frag} {mg : Str → Option Value} {base : Heap}
abbrev sSpot : Stmt := top 10
abbrev sHeldN : Stmt := top 12
def spHeldN (K : PySem.W.Frag) : Sp := fun vs H Q _ => ∃ (v : V) (os : List (Option Nat)), vs = [v] ∧ HeldV K H v (os.map oD) ∧ Q (.int (os.countP fun o => o.isNone : Nat)) H
theorem scHeldN : FnScope ["held"] ["held"] (defScope sHeldN) := ⟨rfl, rfl, rfl, by decide +kernel, rfl, by decide +kernel, by decide +kernel⟩
theorem ok_heldN {f : Addr} {fd : FuncData} (F : Fun K "left_many" "left_many" sHeldN f fd) (Z : Bi mg) : FnOk P w K mg base CX0 1 f fd ["held"] (spHeldN K) := by
  refine F.ok scHeldN (fun vs H Q E h => ?_) (fun cdv A outer s H vs Q E hr h => ?_)
  · obtain ⟨v, os, rfl, _⟩ := h
    rfl
  · obtain ⟨v, os, rfl, hd, k⟩ := h
    have hu := hr65 hr
    refine ⟨_, pss_one (ps_ret (pe_or2 (pe_bm PySem.F.plainAttrs_list PySem.F.slot_list_count PySem.F.type_list_count (mt_lcountD hu) (pv 0) (pa_cons pe_non pa_nil))
        (pe_bmT PySem.F.slot_tuple_count PySem.F.type_tuple_count (mt_tcountD hu) (pv 0) (pa_cons pe_non pa_nil)))), ?_⟩
    obtain ⟨a, xs, kd, rfl, _, _⟩ := hd.seq
    rw [← cnt_o] at k
    rcases hd with h | ⟨h, n⟩
    · exact .inl ⟨_, rfl, .inl ⟨rfl, by
        obtain ⟨_, ys, e, q, _⟩ := dp_list h
        cases e
        exact ⟨ys, q⟩⟩, _, .none, _, rfl, h, .non, lay_o os, rfl, k⟩
    · exact .inr ⟨_, rfl, n, _, .none, _, rfl, h, .non, lay_o os, rfl, k⟩
end
end K02
/-! where an answer stands; the answers left by what is held. -/
namespace K02
open PySem L2 FX SQ
def spotN (s : Nat) (rs : List Nat) : Nat := rs.foldl (fun a r => a * s + r) 0
theorem spot_lt {s : Nat} (hs : s ≤ 8) : ∀ (rs : List Nat), (∀ r ∈ rs, r < s) → spotN s rs < s ^ rs.length ∨ rs = [] := by
  intro rs
  suffices h : ∀ (rs : List Nat) (a n : Nat), a < s ^ n → (∀ r ∈ rs, r < s) → rs.foldl (fun a r => a * s + r) a < s ^ (n + rs.length) by
    intro hr
    have := h rs 0 0 (by simp) hr
    rw [Nat.zero_add] at this
    exact .inl this
  intro rs
  induction rs with
  | nil => exact fun a n h _ => by simpa using h
  | cons r rs ih =>
    intro a n h hr
    have h1 := hr r (List.mem_cons_self ..)
    have h2 : a * s + r < s ^ (n + 1) := by
      have : (a + 1) * s ≤ s ^ n * s := Nat.mul_le_mul_right _ h
      rw [Nat.add_mul, Nat.one_mul] at this
      rw [Nat.pow_succ]
      omega
    have h3 := ih (a * s + r) (n + 1) h2 fun r' h' => hr r' (List.mem_cons_of_mem _ h')
    rw [List.length_cons]
    rw [show n + (rs.length + 1) = n + 1 + rs.length from by omega]
    exact h3
theorem spot_lt' {s : Nat} (hs : s ≤ 8) {rs : List Nat} (hr : ∀ r ∈ rs, r < s) : spotN s rs < s ^ rs.length := by
  rcases spot_lt hs rs hr with h | h
  · exact h
  · subst h
    show 0 < s ^ 0
    simp
theorem dpAll_n {K : PySem.W.Frag} {H : Hp} : ∀ {vs : List V} {ns : List Nat} {i : Nat} {n : Nat}, DpAll K H vs (ns.map nD) → ns[i]? = some n → vs[i]? = some (.int n) := by
  intro vs ns i n r e
  obtain ⟨v, h1, h2⟩ := dpAll_at (i := i) (d := nD n) r (by rw [List.getElem?_map, e]; rfl)
  cases h2
  exact h1
theorem dpAll_mkn {K : PySem.W.Frag} {H : Hp} : ∀ ns : List Nat, DpAll K H (ns.map fun n : Nat => V.int n) (ns.map nD)
  | [] => .nil
  | n :: r => .cons (.int _) (dpAll_mkn r)
section
variable {P : Program} {w : World} {K : PySem.W.Frag} {mg : Str → Option Value} {base : Heap}
def spSpot (K : PySem.W.Frag) : Sp := fun vs H Q _ => ∃ (v1 v2 : V) (s : Nat) (rs : List Nat), vs = [v1, v2] ∧ Dp K H v1 (.list ((List.replicate rs.length s).map nD)) ∧ Dp K H v2 (.tuple (rs.map nD)) ∧ rs.length ≤ 4 ∧ s ≤ 8 ∧ (∀ r ∈ rs, r < s) ∧
  ∀ H', Same H H' → Q (.int (spotN s rs)) H'
abbrev NSpot : List Str := ["sizes", "row", "spot", "size", "value"]
theorem scSpot : FnScope NSpot ["sizes", "row"] (defScope sSpot) := ⟨rfl, rfl, rfl, by decide +kernel, rfl, by decide +kernel, by decide +kernel⟩
theorem ok_spot {f : Addr} {fd : FuncData} (F : Fun K "spot_in" "spot_in" sSpot f fd) (Z : Bi mg) : FnOk P w K mg base CX0 1 f fd ["sizes", "row"] (spSpot K) := by
  refine F.ok scSpot (fun vs H Q E h => ?_) (fun cdv A outer s H vs Q E hr h => ?_)
  · obtain ⟨v1, v2, s, rs, rfl, _⟩ := h
    rfl
  · obtain ⟨v1, v2, s, rs, rfl, h1, h2, h4, h8, hlt, k⟩ := h
    obtain ⟨a, xs, rfl, q, r⟩ := dp_list h1
    obtain ⟨b, ys, rfl, q2, r2⟩ := dp_tup h2
    have lx : xs.length = rs.length := by rw [dpAll_len r, List.length_map, List.length_replicate]
    have ly : ys.length = rs.length := by rw [dpAll_len r2, List.length_map]
    refine ⟨_, pss_cons (ps_set (i := 2) scSpot.nd rfl (Or.inl rfl) pe_int)
      (pss_cons (ps_for PassesOwn.never rfl (pi_zip2 (by rfl) Z.zip (pa_cons (pv 0) (pa_cons (pv 1) pa_nil))) (pg_tup rfl (pgs_cons (pg_name (i := 3) scSpot.nd rfl (Or.inl rfl)) (pgs_cons (pg_name (i := 4) scSpot.nd rfl (Or.inl rfl)) pgs_nil)))
        (pss_one (ps_set (i := 2) scSpot.nd rfl (Or.inl rfl) (pe_op op_add (pe_op op_mul (pv 2) (pv 3)) (pv 4)))))
      (pss_one (ps_ret (pv 2)))), ?_⟩
    refine ⟨_, rfl, _, rfl, a, b, xs, ys, .L, .T, rfl, q, q2, for_it (walk_zip2 (k := .L) (k' := .T) (a := a) (b := b) (xs := xs) (ys := ys) (n := rs.length) (by omega)) (fun i σ H' => ∃ u1 u2 : Option V, σ = [some (.ref a), some (.ref b), some (.int (spotN s (rs.take i) : Nat)), u1, u2] ∧ Same H H')
      ⟨none, none, rfl, Same.refl H⟩ (fun i σ H' _ ⟨_, _, _, s1⟩ => ⟨s1.seq q, seqT s1 q2⟩) ?_ ?_⟩
    · rintro i x σ H1 H2 hi ⟨u1, u2, rfl, s1⟩ ⟨T, x1, x2, rfl, hT, rfl, hx1, hx2⟩
      have e1 : x1 = .int s := by
        have := dpAll_n (i := i) (n := s) r (by rw [List.getElem?_replicate, if_pos hi])
        exact Option.some.inj (hx1.symm.trans this)
      obtain ⟨ri, hri⟩ : ∃ ri, rs[i]? = some ri := ⟨rs[i], List.getElem?_eq_getElem hi⟩
      have e2 : x2 = .int ri := by
        have := dpAll_n (i := i) (n := ri) r2 hri
        exact Option.some.inj (hx2.symm.trans this)
      subst e1 e2
      have lt := spot_lt' h8 (rs := rs.take i) fun r' h' => hlt r' (List.mem_of_mem_take h')
      have lt2 : s ^ (rs.take i).length ≤ 8 ^ 4 := Nat.le_trans (Nat.pow_le_pow_left h8 _) (Nat.pow_le_pow_right (by decide) (by rw [List.length_take]; omega))
      refine ⟨T, _, rfl, SqT.of upd_same, rfl, _, _, rfl, _, _, rfl, rfl, _, rfl, _, rfl, _, _, rfl, rfl, ?_, _, rfl, _, _, rfl, rfl, some (.int s), some (.int ri), ?_, s1.trans (same_new hT)⟩
      · exact .inr ⟨by omega, by omega⟩
      · have es : spotN s (rs.take (i + 1)) = spotN s (rs.take i) * s + ri := by
          unfold spotN
          rw [take_more hri, List.foldl_append]
          rfl
        rw [es, Int.natCast_add, Int.natCast_mul]
        rfl
    · rintro σ H' ⟨u1, u2, rfl, s1⟩
      have e : rs.take rs.length = rs := List.take_length
      rw [e]
      exact ⟨_, rfl, k H' s1⟩
end
end K02
/-! the answers left by what is held. -/
namespace K02
open PySem L2 FX SQ
def choiceN (s : Nat) : Option Nat → List Nat
  | none => List.range s
  | some n => [n]
def stepN (acc : List (List Nat)) (c : List Nat) : List (List Nat) := acc.flatMap fun r => c.map fun x => r ++ [x]
def rowsN (css : List (List Nat)) : List (List Nat) := css.foldl stepN [[]]
theorem rows_nD (css : List (List Nat)) : rowsOf (css.map fun c => c.map nD) = (rowsN css).map fun r => r.map nD := by
  suffices h : ∀ acc : List (List Nat), (css.map fun c => c.map nD).foldl stepRows (acc.map fun r => r.map nD) = (css.foldl stepN acc).map fun r => r.map nD from h [[]]
  induction css with
  | nil => exact fun acc => rfl
  | cons c css ih =>
    intro acc
    rw [List.map_cons, List.foldl_cons, List.foldl_cons, ← ih]
    congr 1
    unfold stepRows stepN
    rw [List.flatMap_map, List.map_flatMap]
    congr 1
    funext r
    rw [List.map_map, List.map_map]
    congr 1
    funext x
    simp
theorem rowsN_len (css : List (List Nat)) : ∀ r ∈ rowsN css, r.length = css.length := by
  suffices h : ∀ (acc : List (List Nat)) (n : Nat), (∀ r ∈ acc, r.length = n) → ∀ r ∈ css.foldl stepN acc, r.length = n + css.length by
    intro r hr
    have := h [[]] 0 (fun r h => by rw [List.mem_singleton] at h; subst h; rfl) r hr
    rw [this, Nat.zero_add]
  induction css with
  | nil => exact fun acc n h r hr => h r hr
  | cons c css ih =>
    intro acc n h r hr
    have q := ih (stepN acc c) (n + 1) (fun r' hr' => by
      obtain ⟨r0, h0, hm⟩ := List.mem_flatMap.mp hr'
      obtain ⟨x, _, rfl⟩ := List.mem_map.mp hm
      rw [List.length_append, h r0 h0]
      rfl) r hr
    rw [q, List.length_cons]
    omega
theorem rowsN_lt {s : Nat} (css : List (List Nat)) (hc : ∀ c ∈ css, ∀ x ∈ c, x < s) : ∀ r ∈ rowsN css, ∀ x ∈ r, x < s := by
  suffices h : ∀ (acc : List (List Nat)), (∀ r ∈ acc, ∀ x ∈ r, x < s) → ∀ r ∈ css.foldl stepN acc, ∀ x ∈ r, x < s from
    h [[]] fun r h => by
      rw [List.mem_singleton] at h
      subst h
      exact fun x hx => by cases hx
  induction css with
  | nil => exact fun acc h r hr => h r hr
  | cons c css ih =>
    intro acc h
    refine ih (fun c' h' => hc c' (List.mem_cons_of_mem _ h')) (stepN acc c) fun r' hr' => ?_
    obtain ⟨r0, h0, hm⟩ := List.mem_flatMap.mp hr'
    obtain ⟨x, hx, rfl⟩ := List.mem_map.mp hm
    intro y hy
    rcases List.mem_append.mp hy with hy | hy
    · exact h r0 h0 y hy
    · rw [List.mem_singleton] at hy
      subst hy
      exact hc c (List.mem_cons_self ..) y hx
def heldAns (s : Nat) (as : List Nat) (os : List (Option Nat)) : List Nat := (rowsN (os.map (choiceN s))).map fun r => as.getD (spotN s r) 0
theorem choice_lt {s : Nat} {os : List (Option Nat)} (h : ∀ n, some n ∈ os → n < s) : ∀ c ∈ os.map (choiceN s), ∀ x ∈ c, x < s := by
  intro c hc x hx
  obtain ⟨o, ho, rfl⟩ := List.mem_map.mp hc
  cases o with
  | none => exact List.mem_range.mp hx
  | some n =>
    have : x = n := List.mem_singleton.mp hx
    subst this
    exact h _ ho
theorem choice_len {s : Nat} (h8 : s ≤ 8) (os : List (Option Nat)) : ∀ c ∈ os.map (choiceN s), c.length ≤ 8 := by
  intro c hc
  obtain ⟨o, ho, rfl⟩ := List.mem_map.mp hc
  cases o with
  | none =>
    show (List.range s).length ≤ 8
    rw [List.length_range]
    exact h8
  | some n => exact by show 1 ≤ 8; decide
section
variable {P : Program} {w : World} {K : PySem.W.Frag} {mg : Str → Option Value} {base : Heap}
abbrev sHeldA : Stmt := top 13
def spHeldA (K : PySem.W.Frag) : Sp := fun vs H Q _ => ∃ (va vz vh : V) (s : Nat) (as : List Nat) (os : List (Option Nat)), vs = [va, vz, vh] ∧ Dp K H va (.tuple (as.map nD)) ∧ Dp K H vz (.list ((List.replicate os.length s).map nD)) ∧
  HeldV K H vh (os.map oD) ∧ os.length ≤ 4 ∧ s ≤ 8 ∧ (∀ n, some n ∈ os → n < s) ∧ as.length = s ^ os.length ∧
  ∀ H' v, Same H H' → Dp K H' v (.tuple ((heldAns s as os).map nD)) → Nd K H' v → Q v H'
abbrev NHeldA : List Str := ["answers", "sizes", "held", "choices", "size", "value", "row"]
theorem scHeldA : FnScope NHeldA ["answers", "sizes", "held"] (defScope sHeldA) := ⟨rfl, rfl, rfl, by decide +kernel, rfl, by decide +kernel, by decide +kernel⟩
theorem ok_heldA {f fS fR : Addr} {fd fdS fdR : FuncData} (F : Fun K "held_answers" "held_answers" sHeldA f fd) (Z : Bi mg)
    (FS : At K mg "spot_in" sSpot fS fdS ["sizes", "row"]) (FR : At K mg "all_rows" sRows fR fdR ["choices"]) : FnOk P w K mg base CX0 2 f fd ["answers", "sizes", "held"] (spHeldA K) := by
  have GS : FnOk P w K mg base CX0 1 fS fdS ["sizes", "row"] (spSpot K) := ok_spot FS.F Z
  have GR : FnOk P w K mg base CX0 1 fR fdR ["choices"] (spRows K) := ok_rows FR.F
  refine F.ok scHeldA (fun vs H Q E h => ?_) (fun cdv A outer s H vs Q E hr h => ?_)
  · obtain ⟨va, vz, vh, s, as, os, rfl, _⟩ := h
    rfl
  · obtain ⟨va, vz, vh, s, as, os, rfl, h1, h2, h3, h4, h8, hlt, hlen, k⟩ := h
    refine ⟨_, pss_cons (ps_setLc (i := 3) (own := [("size", 4), ("value", 5)]) (g := gTup K 2 (gCons (gName 4) (gCons (gName 5) gNil))) (tt := tYes) (wi := iZip2 K (tCons (tVar 1) (tCons (tVar 2) tNil)))
        (te := tIf _ _ _) rfl scHeldA.nd rfl rfl (sw_true rfl rfl rfl (by decide +kernel)) (pi_zip2 (by rfl) Z.zip (pa_cons (pv 1) (pa_cons (pv 2) pa_nil))) (blkOk_by (N := NHeldA) (sc := defScope sHeldA) (by decide +kernel))
        (fun _ _ _ _ _ => pg_tup rfl (pgs_cons (pg_name (i := 4) scHeldA.nd rfl (Or.inl rfl)) (pgs_cons (pg_name (i := 5) scHeldA.nd rfl (Or.inl rfl)) pgs_nil))) (fun _ _ _ _ _ => pts_nil)
        (fun _ _ _ _ _ => pe_ifExp (pt_cmpR op_isN (pv 5) pe_non (nomark _)) (pe_listRg rfl (by rfl) Z.list (prg_1 (by rfl) Z.range (pv 4))) (pe_lst (pa_cons (pv 5) pa_nil))))
      (pss_one (ps_ret (pe_tupleF (by rfl) Z.tuple (pe_lc (own := [("row", 6)]) (g := gName 6) (tt := tYes) (wi := iList K (tCall (spRows K) [] E0 (tCons (tVar 3) tNil))) (te := tOp (rIxT K) (tVar 0) (tCall (spSpot K) [] E0 (tCons (tVar 1) (tCons (tVar 6) tNil)))) rfl scHeldA.nd (pi_list (pe_call GR hr (by rfl) FR.g FR.F.kp FR.b .nil pass0 (by exact (pa_cons (pv 3) pa_nil))))
        (blkOk_by (N := NHeldA) (sc := defScope sHeldA) (by decide +kernel)) (fun _ _ _ _ _ => pg_name (i := 6) scHeldA.nd rfl (Or.inl rfl)) (fun _ _ _ _ _ => pts_nil)
        (fun _ _ _ _ _ => pe_ix ix_tup (pv 0) (pe_call GS hr (by rfl) FS.g FS.F.kp FS.b .nil pass0 (by exact (pa_cons (pv 1) (pa_cons (pv 6) pa_nil)))) (fun _ _ => rfl)))))), ?_⟩
    obtain ⟨a1, x1s, rfl, q1, r1⟩ := dp_list h2
    obtain ⟨a2, x2s, k2, rfl, q2, r2⟩ := h3.seq
    have l1 : x1s.length = os.length := by rw [dpAll_len r1, List.length_map, List.length_replicate]
    have l2 : x2s.length = os.length := by rw [dpAll_len r2, List.length_map]
    refine ⟨_, rfl, _, rfl, a1, a2, x1s, x2s, .L, k2, rfl, q1, q2, fun D hD => walk_it (walk_zip2 (k := .L) (k' := k2) (a := a1) (b := a2) (xs := x1s) (ys := x2s) (n := os.length) (by omega))
      (fun i H' => Same H H' ∧ Grow K H' D ((os.take i).map fun o => .list ((choiceN s o).map nD))) ⟨same_new hD, Grow.nil⟩ (fun i H' _ p => ⟨p.1.seq q1, sqK_same p.1 q2⟩) ?_ ?_⟩
    · rintro i x H1 H2 hi ⟨s1, g1⟩ ⟨T, x1, x2, rfl, hT, rfl, hx1, hx2⟩
      have e1 : x1 = .int s := by
        have := dpAll_n (i := i) (n := s) r1 (by rw [List.getElem?_replicate, if_pos hi])
        exact Option.some.inj (hx1.symm.trans this)
      obtain ⟨o, ho⟩ : ∃ o, os[i]? = some o := ⟨os[i], List.getElem?_eq_getElem hi⟩
      obtain ⟨x2', e2, d2⟩ := dpAll_at (i := i) (d := oD o) r2 (by rw [List.getElem?_map, ho]; rfl)
      obtain rfl : x2' = x2 := Option.some.inj (e2.symm.trans hx2)
      subst e1
      obtain ⟨acc, eD, _⟩ := id g1
      have nT : D ≠ T := ne_of_none eD hT
      have g2 := g1.keep (same_new (o := .tup [.int s, x2']) hT)
      have eD2 : (upd H1 T (.tup [.int s, x2'])) D = some (.lst acc) := by rw [upd_ne nT]; exact eD
      have lacc := g1.len eD
      rw [List.length_map, List.length_take] at lacc
      have et : (os.take (i + 1)).map (fun o => PyData.list ((choiceN s o).map nD)) = ((os.take i).map fun o => PyData.list ((choiceN s o).map nD)) ++ [.list ((choiceN s o).map nD)] := by
        rw [take_more ho, List.map_append]
        rfl
      have fin : ∀ (L : Addr) (ys : List V), (upd H1 T (.tup [.int s, x2'])) L = none → DpAll K (upd H1 T (.tup [.int s, x2'])) ys ((choiceN s o).map nD) → (∀ H3 : Hp, DpAll K H3 ys ((choiceN s o).map nD)) →
          ∃ acc, (upd (upd H1 T (.tup [.int s, x2'])) L (.lst ys)) D = some (.lst acc) ∧ acc.length < sizeLine ∧ (Same H (upd (upd (upd H1 T (.tup [.int s, x2'])) L (.lst ys)) D (.lst (acc ++ [.ref L]))) ∧ Grow K (upd (upd (upd H1 T (.tup [.int s, x2'])) L (.lst ys)) D (.lst (acc ++ [.ref L]))) D ((os.take (i + 1)).map fun o => .list ((choiceN s o).map nD))) := by
        intro L ys hL _ hy
        have nL : D ≠ L := ne_of_none eD2 hL
        have eD3 : (upd (upd H1 T (.tup [.int s, x2'])) L (.lst ys)) D = some (.lst acc) := by rw [upd_ne nL]; exact eD2
        refine ⟨acc, eD3, by rw [lacc, sizeLine_eq]; omega, same_of ((s1.trans (same_new hT)).trans (same_new hL)) hD, ?_⟩
        rw [et]
        exact (g2.keep (same_new hL)).put eD3 (.lst (SqL.of (by rw [off_ne (Ne.symm nL), upd_same])) (hy _))
      refine ⟨T, _, rfl, SqT.of upd_same, rfl, _, _, rfl, _, _, rfl, rfl, rfl, ?_⟩
      cases o with
      | none =>
        cases d2
        refine ⟨_, rfl, rfl, _, rfl, ?_⟩
        refine ⟨_, rfl, _, rfl, RgOk.of_le (by omega) (by omega) (by omega) (by omega), fun L hL => ?_⟩
        have er : rgV 0 (s : Int) = (List.range s).map fun n : Nat => V.int n := by
          unfold rgV
          rw [Int.sub_zero, Int.toNat_natCast]
          exact List.map_congr_left fun n _ => by rw [Int.zero_add]
        rw [er]
        exact fin L _ hL (dpAll_mkn _) (fun _ => dpAll_mkn _)
      | some n =>
        cases d2
        refine ⟨_, rfl, rfl, _, rfl, ?_⟩
        refine ⟨_, rfl, (by show 1 ≤ sizeLine; decide), fun L hL => ?_⟩
        exact fin L _ hL (.cons (.int _) .nil) (fun _ => .cons (.int _) .nil)
    · rintro H1 ⟨s1, g1⟩
      rw [List.take_length] at g1
      have dch : Dp K H1 (.ref D) (.list ((os.map (choiceN s)).map fun c => .list (c.map nD))) := by
        rw [List.map_map]
        exact g1.dp
      obtain ⟨a0, x0s, rfl, q0, r0⟩ := dp_tup h1
      have hcl : ((os.map (choiceN s)).map fun c => c.map nD).length ≤ 4 := by rw [List.length_map, List.length_map]; exact h4
      have hc8 : ∀ c ∈ (os.map (choiceN s)).map (fun c => c.map nD), c.length ≤ 8 := fun c hc => by
        obtain ⟨c0, h0, rfl⟩ := List.mem_map.mp hc
        rw [List.length_map]
        exact choice_len h8 os c0 h0
      refine ⟨_, rfl, .ref D, (os.map (choiceN s)).map (fun c => c.map nD), rfl, by
        have e : ((os.map (choiceN s)).map fun c => c.map nD).map PyData.list = (os.map (choiceN s)).map fun c => PyData.list (c.map nD) := by rw [List.map_map]; rfl
        rw [e]
        exact dch, hcl, hc8, fun H2 wv s2 dw _ => ?_⟩
      have many : (rowsN (os.map (choiceN s))).length ≤ 8 ^ 4 := by
        have h1 := rows_many ((os.map (choiceN s)).map fun c => c.map nD) hc8 [[]]
        have h2 : (rowsOf ((os.map (choiceN s)).map fun c => c.map nD)).length = (rowsN (os.map (choiceN s))).length := by rw [rows_nD, List.length_map]
        have h3 : (rowsOf ((os.map (choiceN s)).map fun c => c.map nD)).length ≤ 8 ^ ((os.map (choiceN s)).map fun c => c.map nD).length * 1 := h1
        rw [h2, Nat.mul_one] at h3
        exact Nat.le_trans h3 (Nat.pow_le_pow_right (by decide) hcl)
      have rl := rowsN_len (os.map (choiceN s))
      have rlt := rowsN_lt (os.map (choiceN s)) (choice_lt hlt)
      rw [rows_nD, List.map_map] at dw
      have s02 : Same H H2 := s1.trans s2
      generalize hrs : rowsN (os.map (choiceN s)) = rows at dw many rl rlt
      obtain ⟨aw, xw, rfl, qw, rw'⟩ := dp_list dw
      have lw : xw.length = rows.length := by rw [dpAll_len rw', List.length_map]
      refine ⟨aw, rfl, ⟨_, qw⟩, fun D2 hD2 => walk_it walk_list (fun i H' => Same H2 H' ∧ Grow K H' D2 ((rows.take i).map fun r => nD (as.getD (spotN s r) 0))) ⟨same_new hD2, Grow.nil⟩ (fun i H' _ p => p.1.seq qw) ?_ ?_⟩
      · rintro i x _ H3 hi ⟨s3, g3⟩ ⟨rfl, hx⟩
        refine ⟨rfl, ?_⟩
        obtain ⟨dr, hr', hxd⟩ := dpAll_get rw' hx
        obtain ⟨r, hrr, rfl⟩ : ∃ r, rows[i]? = some r ∧ dr = .tuple (r.map nD) := by
          rw [List.getElem?_map] at hr'
          cases e : rows[i]? with
          | none =>
            rw [e] at hr'
            cases hr'
          | some c =>
            rw [e] at hr'
            exact ⟨c, rfl, (Option.some.inj hr').symm⟩
        have hm := List.mem_of_getElem? hrr
        have hrl : r.length = os.length := by rw [rl r hm, List.length_map]
        have s03 : Same H H3 := s02.trans s3
        have hsp := spot_lt' h8 (rs := r) (rlt r hm)
        rw [hrl, ← hlen] at hsp
        refine ⟨_, rfl, _, rfl, _, rfl, .ref a1, x, s, r, rfl, by rw [hrl]; exact dp_same s03 h2, dp_same s3 hxd, by rw [hrl]; exact h4, h8, rlt r hm, fun H4 s4 => ?_⟩
        have s04 := s03.trans s4
        have eat : x0s[spotN s r]? = some (.int (as[spotN s r] : Nat)) := dpAll_n r0 (List.getElem?_eq_getElem hsp)
        refine ⟨a0, x0s, _, .int (as[spotN s r] : Nat), rfl, rfl, seqT s04 q0, atI_nat eat, ?_⟩
        have g4 := g3.keep s4
        obtain ⟨acc, eD, _⟩ := id g4
        have lacc := g4.len eD
        rw [List.length_map, List.length_take] at lacc
        refine ⟨acc, eD, by rw [lacc, sizeLine_eq]; omega, same_of (s3.trans s4) hD2, ?_⟩
        have et : (rows.take (i + 1)).map (fun r => nD (as.getD (spotN s r) 0)) = ((rows.take i).map fun r => nD (as.getD (spotN s r) 0)) ++ [nD as[spotN s r]] := by
          rw [take_more hrr, List.map_append, List.map_singleton, List.getD_eq_getElem?_getD, List.getElem?_eq_getElem hsp]
          rfl
        rw [et]
        exact g4.put eD (.int _)
      · rintro H3 ⟨s3, g3⟩
        rw [lw, List.take_length] at g3
        obtain ⟨vs, e3, d3⟩ := id g3
        refine ⟨D2, vs, rfl, SqL.of e3, fun q o hq ho => ?_⟩
        have s4 := same_new (o := .frz o (.tup vs)) hq
        have ef : (heldAns s as os).map nD = rows.map fun r => nD (as.getD (spotN s r) 0) := by
          unfold heldAns
          rw [hrs, List.map_map]
          rfl
        refine k _ _ ((s02.trans s3).trans s4) ?_ ⟨q, rfl, .inl ⟨o, vs, upd_same, ho⟩⟩
        rw [ef]
        exact .tup (.inl (.inr ⟨o, upd_same⟩)) (dpAll_same (off_le.trans s4) d3)
end
end K02
/-! sizes, tables, operations. -/
namespace K02
open PySem L2 FX SQ
theorem iSq_of {K : PySem.W.Frag} {tl : TE} {σ : L2.St} {H : Hp} {R : It → Hp → Prop} {a : Addr} {xs : List V} (ht : ∀ Q : VK, Q (.ref a) H → tl σ H Q) : ∀ {kd : Kd}, SqK K H kd a xs → R (It2 K kd a) H → iSq K tl σ H R
  | .L, q, r => .inl (ht _ ⟨a, rfl, ⟨xs, q⟩, r⟩)
  | .T, q, r => .inr (ht _ ⟨a, rfl, ⟨xs, q⟩, r⟩)
theorem ixS {K : PySem.W.Frag} {H : Hp} {v : V} {d x : D} {i : Nat} (h : Dp K H v d) (hs : isSq d = true) (e : (items d)[i]? = some x) : ∃ u, Dp K H u x ∧ ∀ Q : VK, Q u H → rIx K v (.int (i : Nat)) H Q := by
  obtain ⟨a, xs, rfl, q, r⟩ := dp_seq h hs
  obtain ⟨u, eu, hu⟩ := dpAll_at (i := i) r e
  refine ⟨u, hu, fun Q k => ?_⟩
  rcases q with q | q
  · exact .inl ⟨a, xs, _, u, rfl, rfl, q, atI_nat eu, k⟩
  · exact .inr (.inl ⟨a, xs, _, u, rfl, rfl, q, atI_nat eu, k⟩)
def isTable (s lo hi : Int) (d : D) : Bool := isRow 2 d && (isBt lo hi ((items d).getD 0 .none) && (isRow (pow' s (intV ((items d).getD 0 .none)).toNat) ((items d).getD 1 .none) && (items ((items d).getD 1 .none)).all (isB s)))
theorem pow_le {s : Int} (s0 : 0 ≤ s) (s8 : s ≤ 8) : ∀ n : Nat, 0 ≤ pow' s n ∧ pow' s n ≤ 8 ^ n
  | 0 => ⟨Int.le_of_lt Int.one_pos, Int.le_refl _⟩
  | n + 1 => by
    obtain ⟨h0, h1⟩ := pow_le s0 s8 n
    refine ⟨Int.mul_nonneg h0 s0, ?_⟩
    show pow' s n * s ≤ 8 ^ n * 8
    exact Int.mul_le_mul h1 s8 s0 (by exact Int.le_trans h0 h1)
section
variable {P : Program} {w : World} {K : PySem.W.Frag} {mg : Str → Option Value} {base : Heap}
abbrev sSize : Stmt := top 22
abbrev sNeedSize : Stmt := top 23
abbrev sTable : Stmt := top 24
abbrev sOper : Stmt := top 25
theorem scSize : FnScope ["value"] ["value"] (defScope sSize) := ⟨rfl, rfl, rfl, by decide +kernel, rfl, by decide +kernel, by decide +kernel⟩
theorem ok_size {f fB : Addr} {fd fdB : FuncData} (F : Fun K "is_size" "is_size" sSize f fd) (FB : At K mg "is_between" sBetween fB fdB ["least", "most", "value"]) (GB : FnOk P w K mg base CX0 2 fB fdB ["least", "most", "value"] (spB2 K isBt)) :
    FnOk P w K mg base CX0 3 f fd ["value"] (spB K (isBt 2 8)) := by
  refine F.ok scSize (fun vs H Q E h => ?_) (fun cdv A outer s H vs Q E hr h => ?_)
  · obtain ⟨v, d, rfl, _⟩ := h
    rfl
  · obtain ⟨v, d, rfl, hd, k⟩ := h
    refine ⟨_, pss_one (ps_ret (pe_call GB hr rfl FB.g FB.F.kp FB.b .nil pass0 (by exact (pa_cons pe_int (pa_cons pe_int (pa_cons (pv 0) pa_nil)))))), ?_⟩
    exact ⟨_, rfl, 2, 8, v, d, rfl, hd, fun H1 s1 => k H1 s1⟩
/-- what a table asks -/
def spTable (K : PySem.W.Frag) : Sp := fun vs H Q _ => ∃ (s lo hi : Int) (v : V) (d : D), vs = [.int s, .int lo, .int hi, v] ∧ 0 ≤ s ∧ s ≤ 8 ∧ 0 ≤ lo ∧ hi ≤ 6 ∧ Dp K H v d ∧ ∀ H', Same H H' → Q (.bl (isTable s lo hi d)) H'
abbrev NTable : List Str := ["size", "least", "most", "value", "answer"]
theorem scTable : FnScope NTable ["size", "least", "most", "value"] (defScope sTable) := ⟨rfl, rfl, rfl, by decide +kernel, rfl, by decide +kernel, by decide +kernel⟩
theorem ok_table {f fR fW fB fL : Addr} {fd fdR fdW fdB fdL : FuncData} (F : Fun K "is_table" "is_table" sTable f fd) (Z : Bi mg) (FR : At K mg "is_row_of" sRowOf fR fdR ["many", "value"]) (GR : FnOk P w K mg base CX0 2 fR fdR ["many", "value"] (spB1 K isRow))
    (FW : At K mg "power" sPower fW fdW ["base", "times"]) (FB : At K mg "is_between" sBetween fB fdB ["least", "most", "value"]) (GB : FnOk P w K mg base CX0 2 fB fdB ["least", "most", "value"] (spB2 K isBt))
    (FL : At K mg "is_below" sBelow fL fdL ["many", "value"]) (GL : FnOk P w K mg base CX0 3 fL fdL ["many", "value"] (spB1 K isB)) :
    FnOk P w K mg base CX0 4 f fd ["size", "least", "most", "value"] (spTable K) := by
  have GW : FnOk P w K mg base CX0 1 fW fdW ["base", "times"] spPower := ok_power FW.F Z
  refine F.ok scTable (fun vs H Q E h => ?_) (fun cdv A outer s H vs Q E hr h => ?_)
  · obtain ⟨s, lo, hi, v, d, rfl, _⟩ := h
    rfl
  · obtain ⟨s, lo, hi, v, d, rfl, s0, s8, l0, h6, hd, k⟩ := h
    have hr2 := hr
    refine ⟨_, pss_cons (ps_if (PW.pt (pw_or (pt_not (pt_val (pe_call GR (hr.mono (by decide)) rfl FR.g FR.F.kp FR.b .nil pass0 (by exact (pa_cons pe_int (pa_cons (pv 3) pa_nil))))))
        (pw_or1 (pt_not (pt_val (pe_call GB (hr.mono (by decide)) rfl FB.g FB.F.kp FB.b .nil pass0 (by exact (pa_cons (pv 1) (pa_cons (pv 2) (pa_cons (pe_ix ix_seq (pv 3) pe_int (fun _ _ => rfl)) pa_nil))))))))))
        (pss_one (ps_ret pe_bl)) pss_nil)
      (pss_cons (ps_if (pt_not (pt_val (pe_call GR (hr.mono (by decide)) rfl FR.g FR.F.kp FR.b .nil pass0 (by exact (pa_cons (pe_call GW (hr.mono (by decide)) rfl FW.g FW.F.kp FW.b .nil pass0 (by exact (pa_cons (pv 0) (pa_cons (pe_ix ix_seq (pv 3) pe_int (fun _ _ => rfl)) pa_nil)))) (pa_cons (pe_ix ix_seq (pv 3) pe_int (fun _ _ => rfl)) pa_nil))))))
        (pss_one (ps_ret pe_bl)) pss_nil)
      (pss_one (ps_ret (pe_callB (cr_all rfl) (by rfl) Z.all (by decide +kernel) (pa_cons
        (pe_lc (own := [("answer", 4)]) (g := gName 4) (tt := tYes) (wi := iSq K (tOp (rIx K) (tVar 3) (tC (.int 1)))) (te := tCall (spB1 K isB) [] E0 (tCons (tVar 0) (tCons (tVar 4) tNil))) rfl scTable.nd (pi_sq (pe_ix ix_seq (pv 3) pe_int (fun _ _ => rfl)))
          (blkOk_by (N := NTable) (sc := defScope sTable) (by decide +kernel)) (fun _ _ _ _ _ => pg_name (i := 4) scTable.nd rfl (Or.inl rfl)) (fun _ _ _ _ _ => pts_nil)
          (fun _ _ _ _ _ => pe_call GL (hr.mono (by decide)) (by rfl) FL.g FL.F.kp FL.b .nil pass0 (by exact (pa_cons (pv 0) (pa_cons (pv 4) pa_nil))))) pa_nil))))), ?_⟩
    have no : isTable s lo hi d = false → ∀ H', Same H H' → Q (.bl false) H' := fun e H' s' => e ▸ k H' s'
    refine ⟨_, rfl, 2, v, d, rfl, hd, fun H1 s1 => ⟨_, rfl, ?_⟩⟩
    by_cases hrow : isRow 2 d = true
    case neg =>
      have hf : isRow 2 d = false := by simpa using hrow
      refine go_t (by rw [hf]; rfl) ?_
      refine go_t rfl ?_
      exact no (and_f hf) H1 s1
    refine go_f (by rw [hrow]; rfl) ?_
    have hsq : isSq d = true := by
      unfold isRow at hrow
      simp only [Bool.and_eq_true] at hrow
      exact hrow.1
    have hl2 : (items d).length = 2 := by
      unfold isRow at hrow
      simp only [Bool.and_eq_true, decide_eq_true_eq] at hrow
      omega
    obtain ⟨d0, d1, hit⟩ : ∃ d0 d1, items d = [d0, d1] := by
      match items d, hl2 with
      | [a, b], _ => exact ⟨a, b, rfl⟩
    have e0 : (items d)[0]? = some d0 := by rw [hit]; rfl
    have e1 : (items d)[1]? = some d1 := by rw [hit]; rfl
    have eT : isTable s lo hi d = (isBt lo hi d0 && (isRow (pow' s (intV d0).toNat) d1 && (items d1).all (isB s))) := by
      unfold isTable
      rw [and_t hrow, hit]
      rfl
    obtain ⟨u0, hu0, k0⟩ := ixS (i := 0) (dp_same s1 hd) hsq e0
    refine ⟨_, rfl, _, rfl, _, rfl, k0 _ ⟨lo, hi, u0, d0, rfl, hu0, fun H2 s2 => ⟨_, rfl, ?_⟩⟩⟩
    have s02 := s1.trans s2
    by_cases hbt : isBt lo hi d0 = true
    case neg =>
      have hf : isBt lo hi d0 = false := by simpa using hbt
      refine go_t (by rw [hf]; rfl) ?_
      exact no (by rw [eT]; exact and_f hf) H2 s02
    refine go_f (by rw [hbt]; rfl) ?_
    rw [and_t hbt] at eT
    have hb3 : isI d0 = true ∧ lo ≤ intV d0 ∧ intV d0 ≤ hi := by
      unfold isBt at hbt
      simp only [Bool.and_eq_true, decide_eq_true_eq] at hbt
      exact ⟨hbt.1, hbt.2.1, hbt.2.2⟩
    obtain ⟨i0, rfl, rfl⟩ := dp_int hu0 hb3.1
    have hi0 : lo ≤ i0 ∧ i0 ≤ hi := hb3.2
    obtain ⟨n, rfl⟩ : ∃ n : Nat, i0 = (n : Int) := ⟨i0.toNat, by omega⟩
    have eT' : isTable s lo hi d = (isRow (pow' s n) d1 && (items d1).all (isB s)) := eT
    obtain ⟨u0', hu0', k0'⟩ := ixS (i := 0) (dp_same s02 hd) hsq e0
    have eu : u0' = .int (n : Int) := by cases hu0'; rfl
    subst eu
    obtain ⟨u1, hu1, k1⟩ := ixS (i := 1) (dp_same s02 hd) hsq e1
    refine ⟨_, rfl, _, rfl, k0' _ ⟨s, n, rfl, s0, by omega, by omega, ?_⟩⟩
    refine ⟨_, rfl, k1 _ ⟨pow' s n, u1, d1, rfl, hu1, fun H3 s3 => ⟨_, rfl, ?_⟩⟩⟩
    have s03 := s02.trans s3
    by_cases hr1 : isRow (pow' s n) d1 = true
    case neg =>
      have hf : isRow (pow' s n) d1 = false := by simpa using hr1
      refine go_t (by rw [hf]; rfl) ?_
      exact no (by rw [eT']; exact and_f hf) H3 s03
    refine go_f (by rw [hr1]; rfl) ?_
    rw [and_t hr1] at eT'
    have hs1 : isSq d1 = true ∧ ((items d1).length : Int) = pow' s n := by
      unfold isRow at hr1
      simp only [Bool.and_eq_true, decide_eq_true_eq] at hr1
      exact hr1
    have hlen : (items d1).length ≤ 262144 := by
      have h1 := (pow_le s0 s8 n).2
      have h2 : (8 : Nat) ^ n ≤ 8 ^ 6 := Nat.pow_le_pow_right (by decide) (by omega)
      have h3 : (8 : Nat) ^ 6 = 262144 := by decide
      have h4 : (8 : Int) ^ n = ((8 ^ n : Nat) : Int) := by rw [Int.natCast_pow]; rfl
      rw [h4] at h1
      omega
    obtain ⟨u1', hu1', k1'⟩ := ixS (i := 1) (dp_same s03 hd) hsq e1
    obtain ⟨a, xs, rfl, q, r⟩ := dp_seq hu1' hs1.1
    obtain ⟨kd, qk⟩ : ∃ kd, SqK K H3 kd a xs := q.elim (fun q => ⟨.L, q⟩) fun q => ⟨.T, q⟩
    have lx : xs.length = (items d1).length := dpAll_len r
    refine iSq_of (kd := kd) (fun Q kq => ⟨_, rfl, k1' Q kq⟩) qk fun D hD => walk_it (walk_sq (n := xs.length) rfl) (fun i H' => Same H3 H' ∧ H' D = some (.lst (((items d1).take i).map fun d => V.bl (isB s d)))) ⟨same_new hD, upd_same⟩ (fun i H' _ p => sqK_same p.1 qk) ?_ ?_
    · rintro i x _ H4 hi ⟨s4, eD⟩ ⟨rfl, hx⟩
      refine ⟨rfl, ?_⟩
      obtain ⟨dx, hdx, hxd⟩ := dpAll_get r hx
      refine ⟨_, rfl, _, rfl, s, x, dx, rfl, dp_same s4 hxd, fun H5 s5 => ?_⟩
      refine ⟨_, s5 _ _ eD, ?_, same_of (s4.trans s5) hD, ?_⟩
      · rw [List.length_map, List.length_take, sizeLine_eq]
        omega
      · rw [upd_same, take_more hdx, List.map_append]
        rfl
    · rintro H4 ⟨s4, eD⟩
      rw [lx, List.take_length] at eD
      refine ⟨D, (items d1).map (isB s), rfl, ?_, ?_⟩
      · rw [List.map_map]
        exact SqL.of eD
      · rw [List.all_map]
        rw [show (items d1).all (id ∘ isB s) = isTable s lo hi d from by rw [eT']; rfl]
        exact k H4 (s03.trans s4)
end
end K02
/-! what raises: sizes, operations, books, held values. -/
namespace SQ
open PySem PySem.Spec PyProof.Rows L2
def gOr (g1 g2 : TG) : TG := fun v σ H Q => g1 v σ H Q ∨ g2 v σ H Q
theorem pg_or2 {X : Cx} {t : Expr} {g1 g2 : TG} (h1 : PG X t g1) (h2 : PG X t g2) : PG X t (gOr g1 g2) :=
  ⟨fun pins s σ H v u Q I r h => h.elim (fun h => h1.run pins s σ H v u Q I r h) fun h => h2.run pins s σ H v u Q I r h⟩
end SQ
namespace K02
open PySem L2 FX SQ
/-- the error of a class is out, v in its field -/
def Thr (C : Addr) (f : Str) (v : V) (H : Hp) (E : XK) : Prop := ∀ H' d, Same H H' → H' d = none → E (.ref C) (some d) (upd H' d (.xd [(f, v)]))
theorem Thr.same {C : Addr} {f : Str} {v : V} {H H' : Hp} {E : XK} (s : Same H H') (h : Thr C f v H E) : Thr C f v H' E := fun H2 d s2 hd => h H2 d (s.trans s2) hd
structure Er (K : PySem.W.Frag) (mg : Str → Option Value) (B : Addr) (x qn f : Str) (C i : Addr) : Prop where
  T : ErrTxt K mg B x C
  U : InitTxt K qn f C i
structure Ers (K : PySem.W.Frag) (mg : Str → Option Value) (B cB iB cO iO cV iV cS iS : Addr) : Prop where
  S : BaseTxt K mg "FoldError" B
  b : Er K mg B "InvalidTable" "InvalidTable.__init__" "at" cB iB
  o : Er K mg B "InvalidOperation" "InvalidOperation.__init__" "at" cO iO
  v : Er K mg B "InvalidValues" "InvalidValues.__init__" "at" cV iV
  s : Er K mg B "InvalidSize" "InvalidSize.__init__" "word" cS iS
section
variable {P : Program} {w : World} {K : PySem.W.Frag} {mg : Str → Option Value} {base : Heap} {B cB iB cO iO cV iV cS iS : Addr}
def spOper (K : PySem.W.Frag) : Sp := fun vs H Q _ => ∃ (s : Int) (v : V) (d : D), vs = [.int s, v] ∧ 0 ≤ s ∧ s ≤ 8 ∧ Dp K H v d ∧ ∀ H', Same H H' → Q (.bl (isTable s 1 3 d)) H'
theorem scOper : FnScope ["size", "value"] ["size", "value"] (defScope sOper) := ⟨rfl, rfl, rfl, by decide +kernel, rfl, by decide +kernel, by decide +kernel⟩
theorem ok_oper {f fT : Addr} {fd fdT : FuncData} (F : Fun K "is_operation" "is_operation" sOper f fd) (FT : At K mg "is_table" sTable fT fdT ["size", "least", "most", "value"]) (GT : FnOk P w K mg base CX0 4 fT fdT ["size", "least", "most", "value"] (spTable K)) :
    FnOk P w K mg base CX0 5 f fd ["size", "value"] (spOper K) := by
  refine F.ok scOper (fun vs H Q E h => ?_) (fun cdv A outer s H vs Q E hr h => ?_)
  · obtain ⟨s, v, d, rfl, _⟩ := h
    rfl
  · obtain ⟨s, v, d, rfl, s0, s8, hd, k⟩ := h
    refine ⟨_, pss_one (ps_ret (pe_call GT hr rfl FT.g FT.F.kp FT.b .nil pass0 (by exact (pa_cons (pv 0) (pa_cons pe_int (pa_cons pe_int (pa_cons (pv 1) pa_nil))))))), ?_⟩
    exact ⟨_, rfl, _, rfl, s, 1, 3, v, d, rfl, s0, s8, by decide, by decide, hd, k⟩
def spNeedSize (K : PySem.W.Frag) (cS : Addr) : Sp := fun vs H Q E => ∃ (v : V) (d : D), vs = [v] ∧ Dp K H v d ∧ (isBt 2 8 d = true → ∀ H', Same H H' → Q .non H') ∧ (isBt 2 8 d = false → Thr cS "word" (.str "size") H E)
theorem scNeedSize : FnScope ["value"] ["value"] (defScope sNeedSize) := ⟨rfl, rfl, rfl, by decide +kernel, rfl, by decide +kernel, by decide +kernel⟩
theorem ok_needSize {f fS : Addr} {fd fdS : FuncData} (F : Fun K "need_size" "need_size" sNeedSize f fd) (T : Ers K mg B cB iB cO iO cV iV cS iS) (FS : At K mg "is_size" sSize fS fdS ["value"]) (GS : FnOk P w K mg base CX0 3 fS fdS ["value"] (spB K (isBt 2 8))) :
    FnOk P w K mg base (L2.CX P w) 4 f fd ["value"] (spNeedSize K cS) := by
  refine F.okX scNeedSize (fun vs H Q E h => ?_) (fun cdv A outer s H vs Q E hr h => ?_)
  · obtain ⟨v, d, rfl, _⟩ := h
    rfl
  · obtain ⟨v, d, rfl, hd, k1, k2⟩ := h
    refine ⟨_, pss_one (ps_if (pt_not (pt_val (pe_call GS hr rfl FS.g FS.F.kp FS.b .nil pass0 (by exact (pa_cons (pv 0) pa_nil)))))
      (pss_one (ps_err rfl T.s.T T.s.U hr (takes_of rfl rfl rfl rfl) (by exact (pa_cons pe_str pa_nil)))) pss_nil), ?_⟩
    refine ⟨_, rfl, v, d, rfl, hd, fun H1 s1 => ⟨_, rfl, ?_⟩⟩
    by_cases hb : isBt 2 8 d = true
    · refine go_f (by rw [hb]; rfl) ?_
      exact k1 hb H1 s1
    · have hf : isBt 2 8 d = false := by simpa using hb
      refine go_t (by rw [hf]; rfl) ?_
      exact ⟨_, rfl, fun d' hd' => k2 hf H1 d' s1 hd'⟩
/-- an operation in tuples -/
def opD (d : D) : D := .tuple [(items d).getD 0 .none, .tuple (items ((items d).getD 1 .none))]
theorem table_is {s lo hi : Int} {d : D} (h : isTable s lo hi d = true) : isSq d = true ∧ ∃ (n : Int) (d1 : D), items d = [.int n, d1] ∧ lo ≤ n ∧ n ≤ hi ∧ isSq d1 = true ∧ ((items d1).length : Int) = pow' s n.toNat ∧ (items d1).all (isB s) = true := by
  unfold isTable at h
  simp only [Bool.and_eq_true] at h
  obtain ⟨h1, h2, h3, h4⟩ := h
  unfold isRow at h1
  simp only [Bool.and_eq_true, decide_eq_true_eq] at h1
  obtain ⟨d0, d1, hit⟩ : ∃ d0 d1, items d = [d0, d1] := by
    match items d, (show (items d).length = 2 by omega) with
    | [a, b], _ => exact ⟨a, b, rfl⟩
  rw [hit] at h2 h3 h4
  unfold isBt at h2
  simp only [Bool.and_eq_true, decide_eq_true_eq] at h2
  obtain ⟨h21, h22, h23⟩ := h2
  cases d0 with
  | int n =>
    unfold isRow at h3
    simp only [Bool.and_eq_true, decide_eq_true_eq] at h3
    exact ⟨h1.1, n, d1, hit, h22, h23, h3.1, h3.2, h4⟩
  | none => cases h21
  | bool _ => cases h21
  | str _ => cases h21
  | list _ => cases h21
  | tuple _ => cases h21
  | dict _ => cases h21
def spNeedOp (K : PySem.W.Frag) (cO cS : Addr) : Sp := fun vs H Q E => ∃ (vz v : V) (dz d : D), vs = [vz, v] ∧ Dp K H vz dz ∧ Dp K H v d ∧ (isBt 2 8 dz = false → Thr cS "word" (.str "size") H E) ∧
  (isBt 2 8 dz = true → isTable (intV dz) 1 3 d = false → Thr cO "at" (.int (-1)) H E) ∧
  (isBt 2 8 dz = true → isTable (intV dz) 1 3 d = true → ∀ H' v', Same H H' → Dp K H' v' (opD d) → Q v' H')
theorem scNeedOp : FnScope ["size", "value"] ["size", "value"] (defScope (top 26)) := ⟨rfl, rfl, rfl, by decide +kernel, rfl, by decide +kernel, by decide +kernel⟩
abbrev sNeedOp : Stmt := top 26
theorem bt_int {a b : Int} {d : D} (h : isBt a b d = true) : ∃ i, d = .int i ∧ a ≤ i ∧ i ≤ b := by
  unfold isBt at h
  simp only [Bool.and_eq_true, decide_eq_true_eq] at h
  cases d with
  | int i => exact ⟨i, rfl, h.2.1, h.2.2⟩
  | none => cases h.1
  | bool _ => cases h.1
  | str _ => cases h.1
  | list _ => cases h.1
  | tuple _ => cases h.1
  | dict _ => cases h.1
/-- tuple(x) of a list or a tuple -/
theorem kTup_sq {H : Hp} {v : V} {d : D} {Q : VK} (h : Dp K H v d) (hs : isSq d = true) (k : ∀ H' v', Same H H' → Dp K H' v' (.tuple (items d)) → Q v' H') : kTup K v H Q := by
  obtain ⟨a, xs, rfl, q, r⟩ := dp_seq h hs
  rcases q with q | q
  · exact .inl ⟨a, xs, rfl, q, fun t ht => k _ _ (same_new ht) (.tup (SqT.of upd_same) (dpAll_same (same_new ht) r))⟩
  · exact .inr ⟨a, xs, rfl, q, k _ _ (Same.refl H) (.tup q r)⟩
theorem ok_needOp {f fS fO : Addr} {fd fdS fdO : FuncData} (F : Fun K "need_operation" "need_operation" sNeedOp f fd) (Z : Bi mg) (T : Ers K mg B cB iB cO iO cV iV cS iS) (FS : At K mg "need_size" sNeedSize fS fdS ["value"])
    (GS : FnOk P w K mg base (L2.CX P w) 4 fS fdS ["value"] (spNeedSize K cS)) (FO : At K mg "is_operation" sOper fO fdO ["size", "value"]) (GO : FnOk P w K mg base CX0 5 fO fdO ["size", "value"] (spOper K)) :
    FnOk P w K mg base (L2.CX P w) 6 f fd ["size", "value"] (spNeedOp K cO cS) := by
  refine F.okX scNeedOp (fun vs H Q E h => ?_) (fun cdv A outer s H vs Q E hr h => ?_)
  · obtain ⟨vz, v, dz, d, rfl, _⟩ := h
    rfl
  · obtain ⟨vz, v, dz, d, rfl, hz, hd, k1, k2, k3⟩ := h
    refine ⟨_, pss_cons (ps_expr (pe_callS GS (hr.mono (by decide)) rfl FS.g FS.F.kp FS.b (fun σ => passAt (takes_of rfl rfl rfl rfl) σ) (by exact (pa_cons (pv 0) pa_nil))))
      (pss_cons (ps_if (pt_not (pt_val (pe_call GO hr rfl FO.g FO.F.kp FO.b .nil pass0 (by exact (pa_cons (pv 0) (pa_cons (pv 1) pa_nil))))))
        (pss_one (ps_err rfl T.o.T T.o.U hr (takes_of rfl rfl rfl rfl) (by exact (pa_cons (pe_un un_neg pe_int) pa_nil)))) pss_nil)
      (pss_one (ps_ret (pe_tup (by exact (pa_cons (pe_ix ix_seq (pv 1) pe_int (fun _ _ => rfl)) (pa_cons (pe_tupleOf (by rfl) Z.tuple (pe_ix ix_seq (pv 1) pe_int (fun _ _ => rfl))) pa_nil))))))), ?_⟩
    refine ⟨_, rfl, vz, dz, rfl, hz, fun hb H1 s1 => ?_, k1⟩
    obtain ⟨i, rfl, i2, i8⟩ := bt_int hb
    obtain rfl : vz = .int i := by cases hz; rfl
    refine ⟨_, rfl, _, rfl, i, v, d, rfl, by omega, i8, dp_same s1 hd, fun H2 s2 => ⟨_, rfl, ?_⟩⟩
    have s02 := s1.trans s2
    by_cases ht : isTable i 1 3 d = true
    · refine go_f (by rw [ht]; rfl) ?_
      obtain ⟨hsq, n, d1, hit, n1, n3, hs1, _, _⟩ := table_is ht
      have e0 : (items d)[0]? = some (.int n) := by rw [hit]; rfl
      have e1 : (items d)[1]? = some d1 := by rw [hit]; rfl
      obtain ⟨u0, hu0, kk0⟩ := ixS (i := 0) (dp_same s02 hd) hsq e0
      obtain ⟨u1, hu1, kk1⟩ := ixS (i := 1) (dp_same s02 hd) hsq e1
      refine ⟨_, rfl, kk0 _ ⟨_, rfl, kk1 _ (kTup_sq hu1 hs1 fun H3 v3 s3 d3 => ⟨(by show 2 ≤ sizeLine; decide), fun t ht2 => ?_⟩)⟩⟩
      have s4 := same_new (o := .tup [u0, v3]) ht2
      refine k3 hb ht _ _ ((s02.trans s3).trans s4) ?_
      unfold opD
      rw [hit]
      exact .tup (SqT.of upd_same) (.cons (dp_same (s3.trans s4) hu0) (.cons (dp_same s4 d3) .nil))
    · have hf : isTable i 1 3 d = false := by simpa using ht
      refine go_t (by rw [hf]; rfl) ?_
      exact ⟨_, rfl, _, rfl, fun d' hd' => k2 hb hf H2 d' s02 hd'⟩
end
end K02
/-! held values, the held table, the settled value. -/
namespace K02
open PySem L2 FX SQ
def isNo : D → Bool | .none => true | _ => false
def okH (s : Int) (x : D) : Bool := isNo x || isB s x
theorem non_dp {K : PySem.W.Frag} {H : Hp} {v : V} {d : D} (h : Dp K H v d) : decide (v = V.non) = isNo d := by
  cases h <;> rfl
theorem or_f {a b : Bool} (h : a = false) : (a || b) = b := by rw [h]; rfl
/-- an operation of n places with the answers as -/
structure OpIs (s n : Nat) (as : List Nat) (d : D) : Prop where
  sq : isSq d = true
  it : ∃ d1, items d = [nD n, d1] ∧ isSq d1 = true ∧ items d1 = as.map nD
  n1 : 1 ≤ n
  n3 : n ≤ 3
  len : as.length = s ^ n
  lt : ∀ a ∈ as, a < s
structure HeldIs (s n : Nat) (os : List (Option Nat)) (d : D) : Prop where
  sq : isSq d = true
  it : items d = os.map oD
  len : os.length = n
  lt : ∀ m, some m ∈ os → m < s
theorem pow_nat (s : Nat) : ∀ n : Nat, pow' (s : Int) n = ((s ^ n : Nat) : Int)
  | 0 => rfl
  | n + 1 => by
    show pow' s n * s = _
    rw [pow_nat s n, Nat.pow_succ, Int.natCast_mul]
theorem isB_nat {s a : Nat} : isB (s : Int) (nD a) = decide (a < s) := by
  show (decide (0 ≤ (a : Int)) && decide ((a : Int) < (s : Int))) = decide (a < s)
  rw [decide_eq_true (show 0 ≤ (a : Int) by omega), Bool.true_and]
  by_cases h : a < s
  · rw [decide_eq_true h]
    exact decide_eq_true (by omega)
  · rw [decide_eq_false h]
    exact decide_eq_false (by omega)
theorem OpIs.table {s n : Nat} {as : List Nat} {d : D} (h : OpIs s n as d) : isTable s 1 3 d = true := by
  obtain ⟨d1, e, q1, e1⟩ := h.it
  have h1 : isRow 2 d = true := by
    unfold isRow
    rw [h.sq, e]
    rfl
  have h2 : isBt 1 3 (nD n) = true := by
    show (true && (decide ((1 : Int) ≤ (n : Int)) && decide ((n : Int) ≤ 3))) = true
    rw [decide_eq_true (show (1 : Int) ≤ (n : Int) by have := h.n1; omega), decide_eq_true (show (n : Int) ≤ 3 by have := h.n3; omega)]
    rfl
  have h3 : isRow (pow' s n) d1 = true := by
    unfold isRow
    rw [q1, e1, List.length_map, h.len, pow_nat]
    simp
  have h4 : (items d1).all (isB s) = true := by
    rw [e1, List.all_map, List.all_eq_true]
    intro a ha
    show isB s (nD a) = true
    rw [isB_nat]
    exact decide_eq_true (h.lt a ha)
  unfold isTable
  rw [and_t h1, e]
  show (isBt 1 3 (nD n) && (isRow (pow' s n) d1 && (items d1).all (isB s))) = true
  rw [and_t h2, and_t h3, h4]
theorem OpIs.op {s n : Nat} {as : List Nat} {d : D} (h : OpIs s n as d) : opD d = .tuple [nD n, .tuple (as.map nD)] := by
  obtain ⟨d1, e, q1, e1⟩ := h.it
  unfold opD
  rw [e]
  show PyData.tuple [nD n, .tuple (items d1)] = _
  rw [e1]
theorem HeldIs.row {s n : Nat} {os : List (Option Nat)} {d : D} (h : HeldIs s n os d) : isRow n d = true := by
  unfold isRow
  rw [h.sq, h.it, List.length_map, h.len]
  simp
theorem HeldIs.ok {s n : Nat} {os : List (Option Nat)} {d : D} (h : HeldIs s n os d) : ∀ (j : Nat) y, (items d)[j]? = some y → okH s y = true := by
  intro j y hy
  have hm := List.mem_of_getElem? hy
  rw [h.it] at hm
  obtain ⟨o, ho, rfl⟩ := List.mem_map.mp hm
  cases o with
  | none => rfl
  | some m =>
    show (isNo (nD m) || isB s (nD m)) = true
    rw [isB_nat, decide_eq_true (h.lt m ho)]
    rfl
section
variable {P : Program} {w : World} {K : PySem.W.Frag} {mg : Str → Option Value} {base : Heap} {B cB iB cO iO cV iV cS iS : Addr}
abbrev sNeedHeld : Stmt := top 27
def spNeedHeld (K : PySem.W.Frag) (cV : Addr) : Sp := fun vs H Q E => ∃ (s p : Int) (v : V) (d : D), vs = [.int s, .int p, v] ∧ Dp K H v d ∧ (isRow p d = false → Thr cV "at" (.int (-1)) H E) ∧
  (isRow p d = true → ∀ (i : Nat) x, (items d)[i]? = some x → okH s x = false → (∀ j : Nat, j < i → ∀ y, (items d)[j]? = some y → okH s y = true) → Thr cV "at" (.int (i : Nat)) H E) ∧
  (isRow p d = true → (∀ (j : Nat) y, (items d)[j]? = some y → okH s y = true) → ∀ H', Same H H' → Q .non H')
abbrev NNeedHeld : List Str := ["size", "places", "held", "at", "value"]
theorem scNeedHeld : FnScope NNeedHeld ["size", "places", "held"] (defScope sNeedHeld) := ⟨rfl, rfl, rfl, by decide +kernel, rfl, by decide +kernel, by decide +kernel⟩
theorem ok_needHeld {f fR fL : Addr} {fd fdR fdL : FuncData} (F : Fun K "need_held" "need_held" sNeedHeld f fd) (Z : Bi mg) (T : Ers K mg B cB iB cO iO cV iV cS iS) (FR : At K mg "is_row_of" sRowOf fR fdR ["many", "value"]) (GR : FnOk P w K mg base CX0 2 fR fdR ["many", "value"] (spB1 K isRow))
    (FL : At K mg "is_below" sBelow fL fdL ["many", "value"]) (GL : FnOk P w K mg base CX0 3 fL fdL ["many", "value"] (spB1 K isB)) :
    FnOk P w K mg base (L2.CX P w) 4 f fd ["size", "places", "held"] (spNeedHeld K cV) := by
  refine F.okX scNeedHeld (fun vs H Q E h => ?_) (fun cdv A outer s H vs Q E hr h => ?_)
  · obtain ⟨s, p, v, d, rfl, _⟩ := h
    rfl
  · obtain ⟨s, p, v, d, rfl, hd, k1, k2, k3⟩ := h
    refine ⟨_, pss_cons (ps_if (pt_not (pt_val (pe_call GR (hr.mono (by decide)) rfl FR.g FR.F.kp FR.b .nil pass0 (by exact (pa_cons (pv 1) (pa_cons (pv 2) pa_nil))))))
        (pss_one (ps_err rfl T.v.T T.v.U hr (takes_of rfl rfl rfl rfl) (by exact (pa_cons (pe_un un_neg pe_int) pa_nil)))) pss_nil)
      (pss_one (ps_for (passes_of rfl) rfl (pi_enum2 (by rfl) Z.enumerate (pa_cons (pv 2) pa_nil)) (pg_tup rfl (pgs_cons (pg_name (i := 3) scNeedHeld.nd rfl (Or.inl rfl)) (pgs_cons (pg_name (i := 4) scNeedHeld.nd rfl (Or.inl rfl)) pgs_nil)))
        (pss_one (ps_if (PW.pt (pw_and (pt_cmpR op_notN (pv 4) pe_non (nomark _)) (pw_and1 (pt_not (pt_val (pe_call GL hr rfl FL.g FL.F.kp FL.b .nil pass0 (by exact (pa_cons (pv 0) (pa_cons (pv 4) pa_nil)))))))))
          (pss_one (ps_err rfl T.v.T T.v.U hr (takes_of rfl rfl rfl rfl) (by exact (pa_cons (pv 3) pa_nil)))) pss_nil)))), ?_⟩
    refine ⟨_, rfl, _, rfl, p, v, d, rfl, hd, fun H1 s1 => ⟨_, rfl, ?_⟩⟩
    by_cases hrow : isRow p d = true
    case neg =>
      have hf : isRow p d = false := by simpa using hrow
      refine go_t (by rw [hf]; rfl) ?_
      exact ⟨_, rfl, _, rfl, fun d' hd' => k1 hf H1 d' s1 hd'⟩
    refine go_f (by rw [hrow]; rfl) ?_
    have hsq : isSq d = true := by
      unfold isRow at hrow
      simp only [Bool.and_eq_true] at hrow
      exact hrow.1
    obtain ⟨a, xs, rfl, q, r⟩ := dp_seq (dp_same s1 hd) hsq
    obtain ⟨kd, qk⟩ : ∃ kd, SqK K H1 kd a xs := q.elim (fun q => ⟨.L, q⟩) fun q => ⟨.T, q⟩
    have lx : xs.length = (items d).length := dpAll_len r
    refine ⟨_, rfl, a, xs, kd, rfl, qk, for_it (walk_enum2 (k := kd) (a := a) (xs := xs) (n := xs.length) rfl)
      (fun i σ H' => ∃ u1 u2 : Option V, σ = [some (.int s), some (.int p), some (.ref a), u1, u2] ∧ Same H1 H' ∧ ∀ j, j < i → ∀ y, (items d)[j]? = some y → okH s y = true)
      ⟨none, none, rfl, Same.refl H1, fun j hj => by omega⟩ (fun i σ H' _ ⟨_, _, _, s2, _⟩ => sqK_same s2 qk) ?_ ?_⟩
    · rintro i x σ H2 H3 hi ⟨u1, u2, rfl, s2, hj⟩ ⟨t, x1, x2, rfl, ht, rfl, hx1, hx2⟩
      obtain rfl : x1 = .int (i : Nat) := (Option.some.inj hx1).symm
      obtain ⟨dx, hdx, hxd⟩ := dpAll_get r hx2
      have s3 := same_new (o := .tup [.int (i : Nat), x2]) ht
      refine ⟨t, _, rfl, SqT.of upd_same, rfl, _, _, rfl, _, _, rfl, rfl, _, rfl, rfl, _, rfl, ?_⟩
      have hn := non_dp hxd
      have ok : okH s dx = true → Same H2 (upd H2 t (.tup [.int (i : Nat), x2])) → ∀ j, j < i + 1 → ∀ y, (items d)[j]? = some y → okH s y = true := fun ho _ j hj' y hy => by
        by_cases e : j = i
        · subst e
          rw [hdx] at hy
          cases hy
          exact ho
        · exact hj j (by omega) y hy
      by_cases hno : isNo dx = true
      · rw [hno] at hn
        refine go_f (by rw [hn]; rfl) ?_
        refine go_f rfl ?_
        exact ⟨_, _, rfl, s2.trans s3, ok (by unfold okH; rw [hno]; rfl) s3⟩
      · have hno' : isNo dx = false := by simpa using hno
        rw [hno'] at hn
        refine go_t (by rw [hn]; rfl) ?_
        refine ⟨_, rfl, _, rfl, s, x2, dx, rfl, dp_same (s2.trans s3) hxd, fun H4 s4 => ⟨_, rfl, ?_⟩⟩
        by_cases hb : isB s dx = true
        · refine go_f (by rw [hb]; rfl) ?_
          exact ⟨_, _, rfl, (s2.trans s3).trans s4, ok (by unfold okH; rw [hb, hno']; rfl) s3⟩
        · have hb' : isB s dx = false := by simpa using hb
          refine go_t (by rw [hb']; rfl) ?_
          refine ⟨_, rfl, _, rfl, fun d' hd' => ?_⟩
          exact k2 hrow i dx hdx (by unfold okH; rw [or_f hno', hb']) hj H4 d' (((s1.trans s2).trans s3).trans s4) hd'
    · rintro σ H2 ⟨u1, u2, rfl, s2, hj⟩
      refine k3 hrow (fun j y hy => hj j ?_ y hy) H2 (s1.trans s2)
      rw [lx]
      exact (List.getElem?_eq_some_iff.mp hy).1
end
end K02
/-! the held table, the settled value. -/
namespace K02
open PySem L2 FX SQ
def Scen (K : PySem.W.Frag) (cO cV cS : Addr) (OK : Nat → Nat → List Nat → List (Option Nat) → Prop) (H : Hp) (E : XK) (vh : V) (dz dp dh : D) : Prop :=
  (isBt 2 8 dz = false ∧ Thr cS "word" (.str "size") H E) ∨ ∃ s : Nat, dz = nD s ∧ 2 ≤ s ∧ s ≤ 8 ∧
    ((isTable s 1 3 dp = false ∧ Thr cO "at" (.int (-1)) H E) ∨ ∃ (n : Nat) (as : List Nat), OpIs s n as dp ∧
      ((isRow n dh = false ∧ Thr cV "at" (.int (-1)) H E) ∨
       (isRow n dh = true ∧ ∃ (i : Nat) (x : D), (items dh)[i]? = some x ∧ okH s x = false ∧ (∀ j : Nat, j < i → ∀ y, (items dh)[j]? = some y → okH s y = true) ∧ Thr cV "at" (.int (i : Nat)) H E) ∨
       ∃ os, HeldIs s n os dh ∧ (∀ ds, dh = .tuple ds → Nd K H vh) ∧ OK s n as os))
def cntN (os : List (Option Nat)) : Nat := os.countP fun o => o.isNone
theorem bt_nat {s : Nat} (h2 : 2 ≤ s) (h8 : s ≤ 8) : isBt 2 8 (nD s) = true := by
  show (true && (decide ((2 : Int) ≤ (s : Int)) && decide ((s : Int) ≤ 8))) = true
  rw [decide_eq_true (show (2 : Int) ≤ (s : Int) by omega), decide_eq_true (show (s : Int) ≤ 8 by omega)]
  rfl
theorem heldV_of {K : PySem.W.Frag} {H : Hp} {v : V} {d : D} {os : List (Option Nat)} {s n : Nat} (h : HeldIs s n os d) (hd : Dp K H v d) (nd : ∀ ds, d = .tuple ds → Nd K H v) : HeldV K H v (os.map oD) := by
  have hs := h.sq
  have hi := h.it
  cases d with
  | list ds =>
    have : ds = os.map oD := hi
    subst this
    exact .inl hd
  | tuple ds =>
    have : ds = os.map oD := hi
    subst this
    exact .inr ⟨hd, nd _ rfl⟩
  | none => cases hs
  | bool _ => cases hs
  | int _ => cases hs
  | str _ => cases hs
  | dict _ => cases hs
section
variable {P : Program} {w : World} {K : PySem.W.Frag} {mg : Str → Option Value} {base : Heap} {B cB iB cO iO cV iV cS iS : Addr}
abbrev sHT : Stmt := top 28
def spHT (K : PySem.W.Frag) (cO cV cS : Addr) : Sp := fun vs H Q E => ∃ (vz vp vh : V) (dz dp dh : D), vs = [vz, vp, vh] ∧ Dp K H vz dz ∧ Dp K H vp dp ∧ Dp K H vh dh ∧
  Scen K cO cV cS (fun s n as os => ∀ H' t va, Same H H' → H' t = some (.tup [.int (cntN os : Nat), va]) → Dp K H' va (.tuple ((heldAns s as os).map nD)) → Nd K H' va → Q (.ref t) H') H E vh dz dp dh
abbrev NHT : List Str := ["size", "operation", "held", "places", "answers"]
theorem scHT : FnScope NHT ["size", "operation", "held"] (defScope sHT) := ⟨rfl, rfl, rfl, by decide +kernel, rfl, by decide +kernel, by decide +kernel⟩
theorem ok_HT {f fO fH fM fA : Addr} {fd fdO fdH fdM fdA : FuncData} (F : Fun K "held_table" "held_table" sHT f fd) (Z : Bi mg) (FO : At K mg "need_operation" sNeedOp fO fdO ["size", "value"]) (GO : FnOk P w K mg base (L2.CX P w) 6 fO fdO ["size", "value"] (spNeedOp K cO cS))
    (FH : At K mg "need_held" sNeedHeld fH fdH ["size", "places", "held"]) (GH : FnOk P w K mg base (L2.CX P w) 4 fH fdH ["size", "places", "held"] (spNeedHeld K cV))
    (FM : At K mg "left_many" sHeldN fM fdM ["held"]) (FA : At K mg "held_answers" sHeldA fA fdA ["answers", "sizes", "held"]) (GA : FnOk P w K mg base CX0 2 fA fdA ["answers", "sizes", "held"] (spHeldA K)) :
    FnOk P w K mg base (L2.CX P w) 7 f fd ["size", "operation", "held"] (spHT K cO cV cS) := by
  have GM : FnOk P w K mg base CX0 1 fM fdM ["held"] (spHeldN K) := ok_heldN FM.F Z
  refine F.okX scHT (fun vs H Q E h => ?_) (fun cdv A outer s H vs Q E hr h => ?_)
  · obtain ⟨vz, vp, vh, dz, dp, dh, rfl, _⟩ := h
    rfl
  · obtain ⟨vz, vp, vh, dz, dp, dh, rfl, hz, hp, hh, sc⟩ := h
    refine ⟨_, pss_cons (ps_asg (pe_callS GO (hr.mono (by decide)) rfl FO.g FO.F.kp FO.b (fun σ => passAt (takes_of rfl rfl rfl rfl) σ) (by exact (pa_cons (pv 0) (pa_cons (pv 1) pa_nil)))) (pg_tup rfl (pgs_cons (pg_name (i := 3) scHT.nd rfl (Or.inl rfl)) (pgs_cons (pg_name (i := 4) scHT.nd rfl (Or.inl rfl)) pgs_nil))))
      (pss_cons (ps_expr (pe_callS GH (hr.mono (by decide)) rfl FH.g FH.F.kp FH.b (fun σ => passAt (takes_of rfl rfl rfl rfl) σ) (by exact (pa_cons (pv 0) (pa_cons (pv 3) (pa_cons (pv 2) pa_nil))))))
      (pss_one (ps_ret (pe_tup (by exact (pa_cons (pe_call GM (hr.mono (by decide)) rfl FM.g FM.F.kp FM.b .nil pass0 (by exact (pa_cons (pv 2) pa_nil)))
        (pa_cons (pe_call GA (hr.mono (by decide)) rfl FA.g FA.F.kp FA.b .nil pass0 (by exact (pa_cons (pv 4) (pa_cons (pe_op op_rep (pe_lst (by exact (pa_cons (pv 0) pa_nil))) (pv 3)) (pa_cons (pv 2) pa_nil))))) pa_nil))))))), ?_⟩
    refine ⟨_, rfl, _, rfl, vz, vp, dz, dp, rfl, hz, hp, fun e1 => ?_, fun e1 e2 => ?_, fun e1 e2 H1 v1 s1 d1 => ?_⟩
    · rcases sc with ⟨_, k⟩ | ⟨s, rfl, s2, s8, _⟩
      · exact k
      · rw [bt_nat s2 s8] at e1
        cases e1
    · rcases sc with ⟨e, k⟩ | ⟨s, rfl, s2, s8, ⟨_, k⟩ | ⟨n, as, O, _⟩⟩
      · rw [e] at e1
        cases e1
      · exact k
      · rw [show isTable (intV (nD s)) 1 3 dp = isTable s 1 3 dp from rfl, O.table] at e2
        cases e2
    · rcases sc with ⟨e, k⟩ | ⟨s, rfl, s2, s8, ⟨e, k⟩ | ⟨n, as, O, sc⟩⟩
      · rw [e] at e1
        cases e1
      · rw [show isTable (intV (nD s)) 1 3 dp = isTable s 1 3 dp from rfl, e] at e2
        cases e2
      obtain rfl : vz = .int (s : Int) := by cases hz; rfl
      rw [O.op] at d1
      obtain ⟨ap, xp, rfl, qp, rp⟩ := dp_tup d1
      obtain ⟨va, rfl, da⟩ : ∃ va, xp = [.int (n : Int), va] ∧ Dp K H1 va (.tuple (as.map nD)) := by
        cases rp with
        | cons h0 r => cases r with
          | cons h1 r => cases r with
            | nil =>
              cases h0
              exact ⟨_, rfl, h1⟩
      refine ⟨ap, _, rfl, qp, rfl, _, _, rfl, _, _, rfl, rfl, ?_⟩
      refine ⟨_, rfl, _, rfl, _, rfl, s, n, vh, dh, rfl, dp_same s1 hh, fun e => ?_, fun e i x hx hb hj => ?_, fun e hall H2 s2' => ?_⟩
      · rcases sc with ⟨_, k⟩ | ⟨e', _⟩ | ⟨os, hd, _⟩
        · exact k.same s1
        · rw [e'] at e
          cases e
        · rw [hd.row] at e
          cases e
      · rcases sc with ⟨e', _⟩ | ⟨_, i', x', hx', hb', hj', k⟩ | ⟨os, hd, _⟩
        · rw [e'] at e
          cases e
        · have : i = i' := by
            rcases Nat.lt_trichotomy i i' with h | h | h
            · rw [hj' i h x hx] at hb
              cases hb
            · exact h
            · rw [hj i' h x' hx'] at hb'
              cases hb'
          subst this
          exact k.same s1
        · rw [hd.ok i x hx] at hb
          cases hb
      · rcases sc with ⟨e', _⟩ | ⟨_, i', x', hx', hb', hj', k⟩ | ⟨os, hd, nd, k⟩
        · rw [e'] at e
          cases e
        · rw [hall i' x' hx'] at hb'
          cases hb'
        have s02 := s1.trans s2'
        have hv : HeldV K H2 vh (os.map oD) := (heldV_of hd hh nd).same s02
        refine ⟨_, rfl, vh, os, rfl, hv, ?_⟩
        have o3 := O.n3
        refine ⟨_, rfl, _, rfl, (by show 1 ≤ sizeLine; decide), fun l hl => ⟨_, rfl, l, _, _, rfl, rfl, upd_same, by omega, by omega, ?_, fun p hp => ⟨_, rfl, ?_⟩⟩⟩
        · rw [Int.toNat_natCast, sizeLine_eq]
          show 1 * n ≤ _
          omega
        have er : (List.replicate (n : Int).toNat [V.int (s : Int)]).flatten = (List.replicate n s).map fun n : Nat => V.int n := by
          rw [Int.toNat_natCast]
          have : ∀ n : Nat, (List.replicate n [V.int (s : Int)]).flatten = (List.replicate n s).map fun n : Nat => V.int n := fun n => by
            induction n with
            | zero => rfl
            | succ n ih =>
              rw [List.replicate_succ, List.flatten_cons, ih]
              rfl
          exact this n
        rw [er]
        have s3 := (same_new (o := .lst [V.int (s : Int)]) hl).trans (same_new (o := .lst ((List.replicate n s).map fun n : Nat => V.int n)) hp)
        refine ⟨va, .ref p, vh, s, as, os, rfl, dp_same (s2'.trans s3) da, ?_, hv.same s3, by rw [hd.len]; omega, s8, hd.lt, by rw [hd.len]; exact O.len, fun H3 v3 s4 d3 nd3 => ⟨(by show 2 ≤ sizeLine; decide), fun t ht => ?_⟩⟩
        · rw [hd.len]
          exact .lst (SqL.of upd_same) (dpAll_mkn _)
        have s5 := same_new (o := .tup [.int (os.countP fun o => o.isNone : Nat), v3]) ht
        refine k _ t v3 ((s02.trans s3).trans (s4.trans s5)) ?_ (dp_same s5 d3) (nd3.same s5)
        rw [upd_same]
        rfl
end
end K02
/-! The draws. -/
namespace K02
open PySem L2 FX
section
variable {P : Program} {w : World} {K : PySem.W.Frag} {mg : Str → Option Value} {base : Heap}
abbrev sBox : Stmt := top 36
abbrev sTake : Stmt := top 37
abbrev sPick : Stmt := top 38
/-- three ints at p -/
def Box (H : Hp) (p : Addr) : Prop := ∃ x y z : Int, H p = some (.lst [.int x, .int y, .int z])
/-- all but p as it was -/
def But (p : Addr) (H H' : Hp) : Prop := ∀ c o, H c = some o → c ≠ p → H' c = some o
theorem But.refl (p : Addr) (H : Hp) : But p H H := fun _ _ e _ => e
theorem But.trans {p : Addr} {H H1 H2 : Hp} (a : But p H H1) (b : But p H1 H2) : But p H H2 := fun c o e n => b c o (a c o e n) n
theorem But.put {p : Addr} {H H1 : Hp} {o : HO} (a : But p H H1) : But p H (upd H1 p o) := fun c u e n => by
  rw [upd_ne n]
  exact a c u e n
def spTake : Sp := fun vs H Q _ => ∃ (p : Addr) (m : Int), vs = [.ref p, .int m] ∧ 0 < m ∧ m < 1000 ∧ Box H p ∧ ∀ (H' : Hp) (d : Int), But p H H' → Box H' p → 0 ≤ d → d < m → Q (.int d) H'
theorem scT : FnScope ["box", "many", "digit", "raw"] ["box", "many"] (defScope sTake) := ⟨rfl, rfl, rfl, by decide +kernel, rfl, by decide +kernel, by decide +kernel⟩
theorem ok_take {f : Addr} {fd : FuncData} (F : Fun K "_law_take" "_law_take" sTake f fd) (Z : Bi mg) : FnOk P w K mg base CX0 1 f fd ["box", "many"] spTake := by
  refine F.ok scT (fun vs H Q E h => ?_) (fun cdv A outer s H vs Q E hr h => ?_)
  · obtain ⟨p, m, rfl, _⟩ := h
    rfl
  · obtain ⟨p, m, rfl, m0, m1, ⟨x, y, z, hb⟩, k⟩ := h
    refine ⟨_, pss_cons (ps_if (pt_cmpR op_gt (pe_ix ix_list (pv 0) pe_int (fun _ _ => rfl)) pe_int (nomark _))
        (pss_cons (ps_set (i := 2) scT.nd rfl (Or.inl rfl) (pe_op op_mod (pe_callTy call_int1 (by rfl) Z.int (by decide +kernel) (pa_cons (pe_ix ix_list (pv 0) pe_int (fun _ _ => rfl)) pa_nil)) (pv 1)))
        (pss_cons (ps_asg (pe_op op_fdiv (pe_ix ix_list (pv 0) pe_int (fun _ _ => rfl)) (pv 1)) (pg_sub (pv 0) pe_int set_list))
        (pss_one (ps_ret (pv 2))))) pss_nil)
      (pss_cons (ps_asg (pe_op op_add (pe_ix ix_list (pv 0) pe_int (fun _ _ => rfl)) pe_int) (pg_sub (pv 0) pe_int set_list))
      (pss_cons (ps_set (i := 3) scT.nd rfl (Or.inl rfl) (pe_op op_mod (pe_callTy call_int1 (by rfl) Z.int (by decide +kernel) (pa_cons
          (pe_op op_add (pe_op op_mul (pe_op op_add (pe_ix ix_list (pv 0) pe_int (fun _ _ => rfl)) (pe_op op_mul pe_int (pe_ix ix_list (pv 0) pe_int (fun _ _ => rfl)))) pe_int) pe_int) pa_nil)) pe_int))
      (pss_cons (ps_asg (pe_op op_add (pe_op op_mod (pe_callTy call_int1 (by rfl) Z.int (by decide +kernel) (pa_cons (pe_op op_add (pe_op op_mul (pv 3) pe_int) pe_int) pa_nil)) pe_int) pe_int) (pg_sub (pv 0) pe_int set_list))
      (pss_one (ps_ret (pe_op op_mod (pe_callTy call_int1 (by rfl) Z.int (by decide +kernel) (pa_cons
          (pe_op op_fdiv (pe_op op_add (pe_op op_mul (pv 3) pe_int) (pe_ix ix_list (pv 0) pe_int (fun _ _ => rfl))) pe_int) pa_nil)) (pv 1))))))), ?_⟩
    refine ⟨_, rfl, p, _, _, _, rfl, rfl, SqL.of hb, atI_nat (j := 0) rfl, _, _, rfl, rfl, _, rfl, ?_⟩
    by_cases hx : 0 < x
    · refine go_t (decide_eq_true hx) ?_
      refine ⟨_, rfl, p, _, _, _, rfl, rfl, SqL.of hb, atI_nat (j := 0) rfl, .inl ⟨_, rfl, ?_⟩⟩
      refine ⟨_, rfl, _, _, rfl, rfl, m0, ?_⟩
      refine ⟨_, rfl, p, _, _, _, rfl, rfl, SqL.of hb, atI_nat (j := 0) rfl, _, rfl, _, _, rfl, rfl, ⟨m0, by omega⟩, ?_⟩
      refine ⟨_, rfl, p, _, _, 0, rfl, rfl, hb, rfl, ?_⟩
      exact ⟨_, rfl, k _ _ (But.refl p H).put ⟨_, _, _, upd_same⟩ (Int.emod_nonneg _ (by omega)) (Int.emod_lt_of_pos _ m0)⟩
    · refine go_f (decide_eq_false hx) ?_
      refine ⟨_, rfl, p, _, _, _, rfl, rfl, SqL.of hb, atI_nat (j := 2) rfl, _, _, rfl, rfl, ?_⟩
      refine ⟨_, rfl, p, _, _, 2, rfl, rfl, hb, rfl, ?_⟩
      have hb2 : upd H p (.lst [.int x, .int y, .int (z + 1)]) p = some (.lst [.int x, .int y, .int (z + 1)]) := upd_same
      refine ⟨_, rfl, p, _, _, _, rfl, rfl, SqL.of hb2, atI_nat (j := 1) rfl, ?_⟩
      refine ⟨_, rfl, p, _, _, _, rfl, rfl, SqL.of hb2, atI_nat (j := 2) rfl, ?_⟩
      refine ⟨_, _, rfl, rfl, .inl ⟨by decide, by decide⟩, _, _, rfl, rfl, _, _, rfl, rfl, .inr ⟨by decide, by decide⟩, _, _, rfl, rfl, .inl ⟨_, rfl, ?_⟩⟩
      refine ⟨_, _, rfl, rfl, (by show (0 : Int) < 2147483563; decide), ?_⟩
      refine ⟨_, rfl, _, _, rfl, rfl, .inr ⟨by decide, by decide⟩, _, _, rfl, rfl, .inl ⟨_, rfl, ?_⟩⟩
      refine ⟨_, _, rfl, rfl, (by show (0 : Int) < 2147483629; decide), _, _, rfl, rfl, ?_⟩
      refine ⟨_, rfl, p, _, _, 1, rfl, rfl, hb2, rfl, ?_⟩
      refine ⟨_, rfl, _, _, rfl, rfl, .inr ⟨by decide, by decide⟩, _, rfl, p, _, _, _, rfl, rfl, SqL.of upd_same, atI_nat (j := 1) rfl, _, _, rfl, rfl, ?_⟩
      refine ⟨_, _, rfl, rfl, ⟨by decide, by decide⟩, .inl ⟨_, rfl, ?_⟩⟩
      exact ⟨_, rfl, _, _, rfl, rfl, m0, k _ _ ((But.refl p H).put).put ⟨_, _, _, upd_same⟩ (Int.emod_nonneg _ (by omega)) (Int.emod_lt_of_pos _ m0)⟩
/-- one of the things of a list -/
def spPick (K : PySem.W.Frag) : Sp := fun vs H Q _ => ∃ (p l : Addr) (xs : List V), vs = [.ref p, .ref l] ∧ l ≠ p ∧ Box H p ∧ H l = some (.lst xs) ∧ 0 < xs.length ∧ xs.length < 1000 ∧ ∀ (H' : Hp) (v : V), But p H H' → Box H' p → v ∈ xs → Q v H'
theorem scP : FnScope ["box", "some"] ["box", "some"] (defScope sPick) := ⟨rfl, rfl, rfl, by decide +kernel, rfl, by decide +kernel, by decide +kernel⟩
theorem ok_pick {f ft : Addr} {fd fdt : FuncData} (F : Fun K "_law_pick" "_law_pick" sPick f fd) (Z : Bi mg) (Ft : At K mg "_law_take" sTake ft fdt ["box", "many"]) : FnOk P w K mg base CX0 2 f fd ["box", "some"] (spPick K) := by
  have Gt : FnOk P w K mg base CX0 1 ft fdt ["box", "many"] spTake := ok_take Ft.F Z
  refine F.ok scP (fun vs H Q E h => ?_) (fun cdv A outer s H vs Q E hr h => ?_)
  · obtain ⟨p, l, xs, rfl, _⟩ := h
    rfl
  · obtain ⟨p, l, xs, rfl, npl, hb, hl, n0, n1, k⟩ := h
    refine ⟨_, pss_one (ps_ret (pe_ix ix_list (pv 1) (pe_call Gt hr rfl Ft.g Ft.F.kp Ft.b .nil pass0 (by exact (pa_cons (pv 0) (pa_cons (pe_callB call_len_seq (by rfl) Z.len PySem.boot_len (pa_cons (pv 1) pa_nil)) pa_nil)))) (fun _ _ => rfl))), ?_⟩
    refine ⟨_, rfl, _, rfl, _, rfl, l, xs, rfl, .inl (SqL.of hl), p, _, rfl, by omega, by omega, hb, fun H' d bt hb' d0 d1 => ?_⟩
    obtain ⟨j, rfl⟩ : ∃ j : Nat, d = (j : Int) := ⟨d.toNat, by omega⟩
    have hj : j < xs.length := by omega
    exact ⟨l, xs, _, _, rfl, rfl, SqL.of (bt l _ hl npl), atI_nat (List.getElem?_eq_getElem hj), k H' _ bt hb' (List.getElem_mem hj)⟩
def spBox (K : PySem.W.Frag) : Sp := fun vs H Q _ => ∃ (a : Addr) (k : Int) (ns : List Int), vs = [.ref a, .int k] ∧ 0 ≤ k ∧ SqL K H a (ns.map V.int) ∧ ∀ (H' : Hp) (p : Addr), Same H H' → H p = none → Box H' p → Q (.ref p) H'
theorem get_int {ns : List Int} {j : Nat} (h : j < ns.length) : (ns.map V.int)[j]? = some (V.int ns[j]) := by
  rw [List.getElem?_map, List.getElem?_eq_getElem h]
  rfl
theorem pick2 (c : Int) (y : Bool) : atI [V.int 0, V.int c] (if y = true then 1 else 0) = some (V.int (if y = true then c else 0)) := by
  cases y <;> rfl
theorem upd_gone {H : Hp} {l p : Addr} {o : HO} (h : upd H l o p = none) : H p = none := by
  by_cases e : p = l
  · rw [e, upd_same] at h
    cases h
  · rw [upd_ne e] at h
    exact h
theorem scB : FnScope ["script", "k", "cell"] ["script", "k"] (defScope sBox) := ⟨rfl, rfl, rfl, by decide +kernel, rfl, by decide +kernel, by decide +kernel⟩
theorem ok_box {f : Addr} {fd : FuncData} (F : Fun K "_law_box" "_law_box" sBox f fd) (Z : Bi mg) : FnOk P w K mg base CX0 1 f fd ["script", "k"] (spBox K) := by
  refine F.ok scB (fun vs H Q E h => ?_) (fun cdv A outer s H vs Q E hr h => ?_)
  · obtain ⟨a, k, ns, rfl, _⟩ := h
    rfl
  · obtain ⟨a, k, ns, rfl, k0, hS, kk⟩ := h
    refine ⟨_, pss_cons (ps_set (i := 2) scB.nd rfl (Or.inl rfl) (pe_op op_add (pe_op op_mul pe_int (pv 1)) pe_int))
      (pss_cons (ps_if (pt_cmpR op_lt (pv 1) (pe_callB call_len_seq (by rfl) Z.len PySem.boot_len (pa_cons (pv 0) pa_nil)) (nomark _))
        (pss_one (ps_set (i := 2) scB.nd rfl (Or.inl rfl) (pe_callB call_abs (by rfl) Z.abs (by decide +kernel) (pa_cons (pe_ix ix_list (pv 0) (pv 1) (fun _ _ => rfl)) pa_nil))))
        (pss_one (ps_if (pt_cmpR op_gt (pe_callB call_len_seq (by rfl) Z.len PySem.boot_len (pa_cons (pv 0) pa_nil)) pe_int (nomark _))
          (pss_one (ps_set (i := 2) scB.nd rfl (Or.inl rfl) (pe_op op_add (pv 2) (pe_op op_mul (pe_op op_mod (pe_callTy call_int1 (by rfl) Z.int (by decide +kernel) (pa_cons
            (pe_callB call_abs (by rfl) Z.abs (by decide +kernel) (pa_cons (pe_ix ix_list (pv 0) (pe_op op_mod (pe_callTy call_int1 (by rfl) Z.int (by decide +kernel) (pa_cons (pv 1) pa_nil))
              (pe_callB call_len_seq (by rfl) Z.len PySem.boot_len (pa_cons (pv 0) pa_nil))) (fun _ _ => rfl)) pa_nil)) pa_nil)) pe_int) pe_int)))) pss_nil)))
      (pss_one (ps_ret (pe_lst (by exact (pa_cons (pe_ix ix_list (pe_lst (by exact (pa_cons pe_int (pa_cons (pv 2) pa_nil)))) (pe_callTy call_int1 (by rfl) Z.int (by decide +kernel) (pa_cons (pe_cmpR op_ge (pv 2) (pe_op op_pow pe_int pe_int) (nomark _)) pa_nil)) (fun _ _ => rfl))
        (pa_cons (pe_op op_add (pe_op op_mod (pe_callTy call_int1 (by rfl) Z.int (by decide +kernel) (pa_cons (pe_op op_add (pe_op op_mul (pe_op op_mod (pe_callTy call_int1 (by rfl) Z.int (by decide +kernel) (pa_cons (pv 2) pa_nil)) pe_int) pe_int)
          (pe_op op_mul pe_int (pv 1))) pa_nil)) pe_int) pe_int) (pa_cons pe_int pa_nil)))))))), ?_⟩
    refine ⟨_, rfl, _, _, rfl, rfl, .inl ⟨by decide, by decide⟩, _, _, rfl, rfl, ?_⟩
    refine ⟨_, rfl, _, rfl, a, _, rfl, .inl hS, _, _, rfl, rfl, _, rfl, ?_⟩
    rw [List.length_map]
    by_cases h1 : k < (ns.length : Int)
    · refine go_t (decide_eq_true h1) ?_
      obtain ⟨j, rfl⟩ : ∃ j : Nat, k = (j : Int) := ⟨k.toNat, by omega⟩
      refine ⟨_, rfl, _, rfl, a, _, _, _, rfl, rfl, hS, atI_nat (get_int (by omega)), _, rfl, ?_⟩
      refine ⟨_, rfl, (by show 2 ≤ sizeLine; decide), fun l hl => ?_⟩
      refine ⟨_, rfl, _, _, rfl, rfl, ⟨by decide, by decide, by decide⟩, _, _, rfl, rfl, .inr ⟨_, rfl, ?_⟩⟩
      refine ⟨l, _, _, _, rfl, rfl, SqL.of upd_same, pick2 _ _, ?_⟩
      refine ⟨_, rfl, .inl ⟨_, rfl, _, _, rfl, rfl, (by show (0 : Int) < 2147483629; decide), _, _, rfl, rfl, .inr ⟨by decide, by decide⟩, ?_⟩⟩
      refine ⟨_, rfl, _, _, rfl, rfl, .inl ⟨by decide, by decide⟩, _, _, rfl, rfl, .inl ⟨_, rfl, ?_⟩⟩
      refine ⟨_, _, rfl, rfl, (by show (0 : Int) < 2147483629; decide), _, _, rfl, rfl, (by show 3 ≤ sizeLine; decide), fun p hp => ?_⟩
      exact kk _ p ((same_new hl).trans (same_new hp)) (upd_gone hp) ⟨_, _, _, upd_same⟩
    · refine go_f (decide_eq_false h1) ?_
      refine ⟨_, rfl, a, _, rfl, .inl hS, _, _, rfl, rfl, _, rfl, ?_⟩
      rw [List.length_map]
      by_cases h2 : (0 : Int) < (ns.length : Int)
      · refine go_t (decide_eq_true h2) ?_
        refine ⟨_, rfl, _, rfl, _, rfl, .inl ⟨_, rfl, _, rfl, a, _, rfl, .inl hS, ?_⟩⟩
        rw [List.length_map]
        have r0 := Int.emod_nonneg k (show (ns.length : Int) ≠ 0 by omega)
        have r1 := Int.emod_lt_of_pos k h2
        obtain ⟨j, hj⟩ : ∃ j : Nat, k % (ns.length : Int) = (j : Int) := ⟨(k % (ns.length : Int)).toNat, by omega⟩
        refine ⟨_, _, rfl, rfl, h2, a, _, _, _, rfl, rfl, hS, (by show atI _ (k % (ns.length : Int)) = _; rw [hj]; exact atI_nat (get_int (by omega))), _, rfl, .inl ⟨_, rfl, ?_⟩⟩
        refine ⟨_, _, rfl, rfl, (by show (0 : Int) < 2147483629; decide), _, _, rfl, rfl, .inr ⟨by decide, by decide⟩, _, _, rfl, rfl, ?_⟩
        refine ⟨_, rfl, (by show 2 ≤ sizeLine; decide), fun l hl => ?_⟩
        refine ⟨_, rfl, _, _, rfl, rfl, ⟨by decide, by decide, by decide⟩, _, _, rfl, rfl, .inr ⟨_, rfl, ?_⟩⟩
        refine ⟨l, _, _, _, rfl, rfl, SqL.of upd_same, pick2 _ _, ?_⟩
        refine ⟨_, rfl, .inl ⟨_, rfl, _, _, rfl, rfl, (by show (0 : Int) < 2147483629; decide), _, _, rfl, rfl, .inr ⟨by decide, by decide⟩, ?_⟩⟩
        refine ⟨_, rfl, _, _, rfl, rfl, .inl ⟨by decide, by decide⟩, _, _, rfl, rfl, .inl ⟨_, rfl, ?_⟩⟩
        refine ⟨_, _, rfl, rfl, (by show (0 : Int) < 2147483629; decide), _, _, rfl, rfl, (by show 3 ≤ sizeLine; decide), fun p hp => ?_⟩
        exact kk _ p ((same_new hl).trans (same_new hp)) (upd_gone hp) ⟨_, _, _, upd_same⟩
      · refine go_f (decide_eq_false h2) ?_
        refine ⟨_, rfl, (by show 2 ≤ sizeLine; decide), fun l hl => ?_⟩
        refine ⟨_, rfl, _, _, rfl, rfl, ⟨by decide, by decide, by decide⟩, _, _, rfl, rfl, .inr ⟨_, rfl, ?_⟩⟩
        refine ⟨l, _, _, _, rfl, rfl, SqL.of upd_same, pick2 _ _, ?_⟩
        refine ⟨_, rfl, .inl ⟨_, rfl, _, _, rfl, rfl, (by show (0 : Int) < 2147483629; decide), _, _, rfl, rfl, .inr ⟨by decide, by decide⟩, ?_⟩⟩
        refine ⟨_, rfl, _, _, rfl, rfl, .inl ⟨by decide, by decide⟩, _, _, rfl, rfl, .inl ⟨_, rfl, ?_⟩⟩
        refine ⟨_, _, rfl, rfl, (by show (0 : Int) < 2147483629; decide), _, _, rfl, rfl, (by show 3 ≤ sizeLine; decide), fun p hp => ?_⟩
        exact kk _ p ((same_new hl).trans (same_new hp)) (upd_gone hp) ⟨_, _, _, upd_same⟩
end
end K02
/-! the law's own grid. -/
namespace K02
open PySem L2 FX SQ
abbrev sGrid : Stmt := top 39
def rowT (r : List Nat) : D := .tuple (r.map nD)
def gridN (s m : Nat) : List (List Nat) := rowsN (List.replicate m (List.range s))
theorem gridN_succ (s m : Nat) : gridN s (m + 1) = stepN (gridN s m) (List.range s) := by
  unfold gridN rowsN
  rw [List.replicate_succ', List.foldl_append]
  rfl
theorem stepN_len (R : List (List Nat)) (c : List Nat) : (stepN R c).length = R.length * c.length := by
  unfold stepN
  induction R with
  | nil => simp
  | cons r R ih => rw [List.flatMap_cons, List.length_append, List.length_map, ih, List.length_cons, Nat.add_mul, Nat.one_mul, Nat.add_comm]
theorem gridN_len (s : Nat) : ∀ m : Nat, (gridN s m).length = s ^ m
  | 0 => rfl
  | m + 1 => by rw [gridN_succ, stepN_len, gridN_len s m, List.length_range, Nat.pow_succ]
theorem gridN_row {s m : Nat} : ∀ r ∈ gridN s m, r.length = m ∧ ∀ x ∈ r, x < s := by
  intro r hr
  refine ⟨?_, ?_⟩
  · have := rowsN_len (List.replicate m (List.range s)) r hr
    rw [this, List.length_replicate]
  · exact rowsN_lt (List.replicate m (List.range s)) (fun c hc x hx => by
      rw [List.eq_of_mem_replicate hc] at hx
      exact List.mem_range.mp hx) r hr
theorem rows_off {K : PySem.W.Frag} {H : Hp} {L : Addr} {acc : List V} (e : H L = some (.lst acc)) : ∀ {vs : List V} {rs : List (List Nat)}, DpAll K H vs (rs.map rowT) → DpAll K (off H L) vs (rs.map rowT) := by
  intro vs rs
  have flat : ∀ {vs : List V} {ns : List Nat}, DpAll K H vs (ns.map nD) → DpAll K (off H L) vs (ns.map nD) := by
    intro vs ns
    induction ns generalizing vs with
    | nil =>
      intro h
      cases h
      exact .nil
    | cons n ns ih =>
      intro h
      cases h with
      | cons h r =>
        cases h
        exact .cons (.int _) (ih r)
  induction rs generalizing vs with
  | nil =>
    intro h
    cases h
    exact .nil
  | cons r rs ih =>
      intro h
      cases h with
      | cons h t =>
        obtain ⟨a, xs, rfl, q, rr⟩ := dp_tup h
        refine .cons (.tup ?_ (flat rr)) (ih t)
        rcases q with (q | ⟨o, q⟩) | q
        · have n : a ≠ L := fun z => by rw [z, e] at q; cases q
          exact .inl (.inl (by rw [off_ne n]; exact q))
        · have n : a ≠ L := fun z => by rw [z, e] at q; cases q
          exact .inl (.inr ⟨o, by rw [off_ne n]; exact q⟩)
        · exact .inr q
theorem dpAll_eqn {K : PySem.W.Frag} {H : Hp} : ∀ {vs : List V} {ns : List Nat}, DpAll K H vs (ns.map nD) → vs = ns.map fun n : Nat => V.int n := by
  intro vs ns
  induction ns generalizing vs with
  | nil =>
    intro h
    cases h
    rfl
  | cons n ns ih =>
    intro h
    cases h with
    | cons h r =>
      cases h
      rw [ih r]
      rfl
/-- a new list -/
def FreshL (K : PySem.W.Frag) (H H' : Hp) (v : V) (ds : List D) : Prop := ∃ a xs, v = .ref a ∧ H a = none ∧ H' a = some (.lst xs) ∧ DpAll K H' xs ds
theorem none_same {H H' : Hp} {a : Addr} (s : Same H H') (h : H' a = none) : H a = none := by
  cases e : H a with
  | none => rfl
  | some o =>
    rw [s a o e] at h
    cases h
theorem FreshL.dp {K : PySem.W.Frag} {H H' : Hp} {v : V} {ds : List D} (h : FreshL K H H' v ds) : Dp K H' v (.list ds) := by
  obtain ⟨a, xs, rfl, _, e, r⟩ := h
  exact .lst (SqL.of e) r
section
variable {P : Program} {w : World} {K : PySem.W.Frag} {mg : Str → Option Value} {base : Heap}
def spGrid (K : PySem.W.Frag) : Sp := fun vs H Q _ => ∃ s m : Nat, vs = [.int s, .int m] ∧ s ≤ 8 ∧ m ≤ 4 ∧ ∀ H' v, Same H H' → FreshL K H H' v ((gridN s m).map rowT) → Q v H'
abbrev NGrid : List Str := ["size", "many", "rows", "turn", "longer", "row", "value"]
theorem scGrid : FnScope NGrid ["size", "many"] (defScope sGrid) := ⟨rfl, rfl, rfl, by decide +kernel, rfl, by decide +kernel, by decide +kernel⟩
theorem ok_grid {f : Addr} {fd : FuncData} (F : Fun K "_law_grid" "_law_grid" sGrid f fd) (Z : Bi mg) : FnOk P w K mg base CX0 1 f fd ["size", "many"] (spGrid K) := by
  refine F.ok scGrid (fun vs H Q E h => ?_) (fun cdv A outer s H vs Q E hr h => ?_)
  · obtain ⟨s, m, rfl, _⟩ := h
    rfl
  · obtain ⟨s, m, rfl, s8, m4, k⟩ := h
    refine ⟨_, pss_cons (ps_set (i := 2) scGrid.nd rfl (Or.inl rfl) (pe_lst (by exact (pa_cons (pe_tup pa_nil) pa_nil))))
      (pss_cons (ps_for PassesOwn.never rfl (pi_range1 rfl Z.range (pa_cons (pv 1) pa_nil)) (pg_name (i := 3) scGrid.nd rfl (Or.inl rfl))
        (pss_cons (ps_set (i := 4) scGrid.nd rfl (Or.inl rfl) (pe_lst pa_nil))
        (pss_cons (ps_for PassesOwn.never rfl (pi_list (pv 2)) (pg_name (i := 5) scGrid.nd rfl (Or.inr rfl))
          (pss_one (ps_expr (pe_bm PySem.F.plainAttrs_list PySem.F.slot_list_extend PySem.F.type_list_extend mt_extend (pv 4) (pa_cons
            (pe_lc (own := [("value", 6)]) (g := gName 6) (tt := tYes) (wi := iRng1 (tCons (tVar 0) tNil)) (te := tOp (rCatA K) (tVar 5) (tTup (tCons (tVar 6) tNil))) rfl scGrid.nd (pi_range1 (by rfl) Z.range (pa_cons (pv 0) pa_nil)) (blkOk_by (N := NGrid) (sc := defScope sGrid) (by decide +kernel))
              (fun _ _ _ _ _ => pg_name (i := 6) scGrid.nd rfl (Or.inl rfl)) (fun _ _ _ _ _ => pts_nil) (fun _ _ _ _ _ => pe_op op_catA (pv 5) (pe_tup (pa_cons (pv 6) pa_nil)))) pa_nil)))))
        (pss_one (ps_set (i := 2) scGrid.nd rfl (Or.inl rfl) (pv 4))))))
      (pss_one (ps_ret (pv 2)))), ?_⟩
    refine ⟨(by show 0 ≤ sizeLine; decide), fun t ht => ⟨(by show 1 ≤ sizeLine; decide), fun L0 hL0 => ?_⟩⟩
    have s0 : Same H (upd (upd H t (.tup [])) L0 (.lst [.ref t])) := (same_new ht).trans (same_new hL0)
    have d0 : FreshL K H (upd (upd H t (.tup [])) L0 (.lst [.ref t])) (.ref L0) ((gridN s 0).map rowT) := ⟨L0, _, rfl, none_same (same_new ht) hL0, upd_same, .cons (.tup (SqT.of ((same_new hL0) _ _ upd_same)) .nil) .nil⟩
    refine ⟨_, rfl, m, rfl, by omega, by omega, ?_⟩
    rw [Int.toNat_natCast]
    refine for_range (n := m) (fun i σ H' => ∃ (Lv : V) (u1 u2 u3 : Option V), σ = [some (.int s), some (.int m), some Lv, u1, u2, u3, none] ∧ Same H H' ∧ FreshL K H H' Lv ((gridN s i).map rowT)) ⟨_, none, none, none, rfl, s0, d0⟩ ?_ ?_
    · rintro i σ H1 hi ⟨Lv, u1, u2, u3, rfl, s1, dL⟩
      obtain ⟨aL, xL, rfl, nL0, eL0, rL⟩ := dL
      have qL : SqL K H1 aL xL := SqL.of eL0
      have len1 : (gridN s i).length ≤ 8 ^ 4 := by
        rw [gridN_len]
        exact Nat.le_trans (Nat.pow_le_pow_left s8 _) (Nat.pow_le_pow_right (by decide) (by omega))
      have lL : xL.length = (gridN s i).length := by rw [dpAll_len rL, List.length_map]
      refine ⟨(by show 0 ≤ sizeLine; decide), fun L hL => ⟨_, rfl, aL, rfl, ⟨_, (same_new hL).seq qL⟩, ?_⟩⟩
      refine for_list (K := K) (a := aL) (xs := xL) (fun j σ H2 => ∃ u : Option V, σ = [some (.int s), some (.int m), some (.ref aL), some (.int (0 + (i : Int))), some (.ref L), u, none] ∧ Same H1 H2 ∧ Grow K H2 L (((gridN s i).take j).flatMap fun r => (List.range s).map fun x => rowT (r ++ [x])))
        ⟨u3, rfl, same_new hL, Grow.nil⟩ (fun j σ H2 _ ⟨_, _, s2, _⟩ => s2.seq qL) ?_ ?_
      · rintro j y σ H2 hj ⟨u, rfl, s2, g2⟩
        obtain ⟨dr, hr', hyd⟩ := dpAll_get rL hj
        obtain ⟨r, hrr, rfl⟩ : ∃ r, (gridN s i)[j]? = some r ∧ dr = rowT r := by
          rw [List.getElem?_map] at hr'
          cases e : (gridN s i)[j]? with
          | none =>
            rw [e] at hr'
            cases hr'
          | some c =>
            rw [e] at hr'
            exact ⟨c, rfl, (Option.some.inj hr').symm⟩
        have hjl := (List.getElem?_eq_some_iff.mp hrr).1
        obtain ⟨ar, xr, rfl, qr, rr⟩ := dp_tup (dp_same s2 hyd)
        obtain rfl := dpAll_eqn rr
        have lr := (gridN_row r (List.mem_of_getElem? hrr)).1
        obtain ⟨accL, eL, _⟩ := id g2
        have lacc := g2.len eL
        have fl := flat_len (f := fun r : List Nat => (List.range s).map fun x => rowT (r ++ [x])) (m := 8) (fun r => by rw [List.length_map, List.length_range]; exact s8) ((gridN s i).take j)
        rw [List.length_take] at fl
        refine ⟨_, rfl, .inl ⟨rfl, _, SqL.of eL⟩, _, rfl, s, rfl, by omega, by omega, ?_⟩
        rw [Int.toNat_natCast]
        refine fun D hD => walk_it walk_range (fun k H3 => Same H2 H3 ∧ Grow K H3 D (((List.range s).take k).map fun x => rowT (r ++ [x]))) ⟨same_new hD, Grow.nil⟩ (fun _ _ _ _ => trivial) ?_ ?_
        · rintro k x _ H3 hk ⟨s3, g3⟩ ⟨rfl, ex⟩
          obtain rfl : x = .int (k : Nat) := by
            rw [ex]
            show V.int (0 + (k : Int)) = _
            rw [Int.zero_add]
          refine ⟨rfl, ?_⟩
          obtain ⟨acc, eD, _⟩ := id g3
          have lD := g3.len eD
          rw [List.length_map, List.length_take] at lD
          have fin : ∀ (H4 : Hp) (p : Addr), Same H3 H4 → H4 p = some (.tup ((r.map fun n : Nat => V.int n) ++ [.int (k : Nat)])) → ∃ acc, H4 D = some (.lst acc) ∧ acc.length < sizeLine ∧ (Same H2 (upd H4 D (.lst (acc ++ [.ref p]))) ∧ Grow K (upd H4 D (.lst (acc ++ [.ref p]))) D (((List.range s).take (k + 1)).map fun x => rowT (r ++ [x]))) := by
            intro H4 p s4 ep
            have eD4 := s4 _ _ eD
            have np : p ≠ D := fun z => by rw [z, eD4] at ep; cases ep
            refine ⟨acc, eD4, by rw [lD, sizeLine_eq]; omega, same_of (s3.trans s4) hD, ?_⟩
            have hk' : (List.range s)[k]? = some k := by rw [List.getElem?_range hk]
            rw [take_more hk', List.map_append]
            refine (g3.keep s4).put eD4 (.tup (SqT.of (by rw [off_ne np]; exact ep)) ?_)
            have := dpAll_mkn (K := K) (H := off H4 D) (r ++ [k])
            rw [List.map_append] at this
            exact this
          refine ⟨_, rfl, _, rfl, (by show 1 ≤ sizeLine; decide), fun t1 ht1 => ?_⟩
          have s4 := same_new (o := .tup [.int (k : Int)]) ht1
          refine ⟨ar, t1, _, _, rfl, rfl, seqT (s3.trans s4) qr, SqT.of upd_same, by rw [List.length_map, lr, sizeLine_eq]; show i + 1 ≤ _; omega, fun e => ?_, (fun _ e => by cases e), fun _ _ p hp => ?_⟩
          · refine fin _ t1 s4 ?_
            rw [upd_same, e]
            rfl
          · refine fin _ p (s4.trans (same_new hp)) ?_
            rw [upd_same]
        · rintro H3 ⟨s3, g3⟩
          obtain ⟨zs, e3, d3⟩ := id g3
          have eL3 := s3 _ _ eL
          have lz := g3.len e3
          rw [List.length_map, List.length_take, List.length_range] at lz
          refine ⟨L, D, accL, zs, rfl, rfl, eL3, e3, by rw [lacc, lz, sizeLine_eq]; omega, ?_⟩
          have nL : H1 L = none := hL
          refine ⟨some (.ref ar), rfl, same_of (s2.trans s3) nL, accL ++ zs, upd_same, ?_⟩
          rw [off_upd, take_more hrr, List.flatMap_append]
          obtain ⟨vs, ev, dv⟩ := g2.keep s3
          rw [eL3] at ev
          cases ev
          refine dpAll_app dv ?_
          have er : ([r].flatMap fun r => (List.range s).map fun x => rowT (r ++ [x])) = ((List.range s).map fun x => r ++ [x]).map rowT := by
            simp only [List.flatMap_cons, List.flatMap_nil, List.append_nil, List.map_map]
            rfl
          rw [er]
          refine rows_off eL3 (dpAll_same (off_le (a := D)) ?_)
          have et : (List.range s).take s = List.range s := List.take_of_length_le (by rw [List.length_range]; exact Nat.le_refl _)
          rw [et] at d3
          rw [List.map_map]
          exact d3
      · rintro σ H2 ⟨u, rfl, s2, g2⟩
        refine ⟨_, rfl, _, _, _, _, rfl, s1.trans s2, ?_⟩
        rw [lL, List.take_length] at g2
        have e1 : (gridN s (i + 1)).map rowT = (gridN s i).flatMap fun r => (List.range s).map fun x => rowT (r ++ [x]) := by
          rw [gridN_succ]
          unfold stepN
          rw [List.map_flatMap]
          simp only [List.map_map]
          rfl
        rw [e1]
        obtain ⟨vs, e2, d2⟩ := g2
        exact ⟨L, vs, rfl, none_same s1 hL, e2, dpAll_same off_le d2⟩
    · rintro σ H' ⟨Lv, u1, u2, u3, rfl, s1, dL⟩
      exact ⟨_, rfl, k _ _ s1 dL⟩
end
end K02
/-! the greatest of a tuple; a drawn operation. -/
namespace SQ
open PySem PySem.Spec PyProof.Rows L2
theorem alike_ints : ∀ ns : List Nat, PySem.W.AlikeAll (ns.map fun n : Nat => PyData.int n) := fun ns =>
  ⟨fun x hx y hy => by
    obtain ⟨a, _, rfl⟩ := List.mem_map.mp hx
    obtain ⟨b, _, rfl⟩ := List.mem_map.mp hy
    rfl, fun x hx => by
    obtain ⟨a, _, rfl⟩ := List.mem_map.mp hx
    intro z
    cases z⟩
theorem depth_ints : ∀ ns : List Nat, PyData.depthAll (ns.map fun n : Nat => PyData.int n) ≤ 1
  | [] => by decide
  | n :: r => by
    have := depth_ints r
    simp [PyData.depthAll, PyData.depth]
    omega
def rMaxT (K : PySem.W.Frag) : List V → Hp → VK → Prop := fun vs H Q => ∃ (a : Addr) (ns : List Nat), vs = [.ref a] ∧ SqT K H a (ns.map fun n : Nat => V.int n) ∧ ns ≠ [] ∧ ∀ m, m ∈ ns → Q (.int (m : Nat)) H
theorem cr_maxT {X : Cx} (hc : X.calm = true) (hu : X.A.units + 65 < cLine) : CallR X (.builtin "max") (rMaxT X.K) := by
  intro pins s σ H vs us Q I r h
  obtain ⟨a, ns, rfl, hs, ne, q⟩ := h
  obtain ⟨its, rv, hl, _⟩ := I.tuple hs
  rw [Vals.ref1 r]
  cases ns with
  | nil => exact absurd rfl ne
  | cons n0 nr =>
    have dd : ∀ ns : List Nat, DpAll X.K H (ns.map fun n : Nat => V.int n) (ns.map fun n : Nat => PyData.int n) := fun ns => by
      induction ns with
      | nil => exact .nil
      | cons n ns ih => exact .cons (.int _) ih
    obtain ⟨as, hr⟩ := Dp.readsAll I _ _ its (dd (n0 :: nr)) rv
    have hd := depth_ints (n0 :: nr)
    refine PySem.W.max_tuple_data (x := .int n0) (xs := nr.map fun n : Nat => PyData.int n) (as := as) (I.ok.hd hc) hl hr (alike_ints (n0 :: nr)) (by
      have : PyData.depthAll (PyData.int n0 :: nr.map fun n : Nat => PyData.int n) ≤ 1 := hd
      omega) fun i v h' tk bs hv _ hk => ?_
    have hi : its[i]? = some v := by simpa using hv
    have hlen := rv.length
    have hil : i < (n0 :: nr).length := by
      have := (List.getElem?_eq_some_iff.mp hi).1
      rw [List.length_map] at hlen
      omega
    obtain ⟨u, hu1, hu2⟩ := rv.get (i := i) (x := .int (((n0 :: nr)[i] : Nat) : Int)) (by rw [List.getElem?_map, List.getElem?_eq_getElem hil]; rfl)
    rw [hi] at hu1
    cases hu1
    exact ⟨_, H, I.kept hk, hu2, q _ (List.getElem_mem hil)⟩
end SQ
/-! a drawn operation. -/
namespace K02
open PySem L2 FX SQ
abbrev sOpn : Stmt := top 40
/-- all but p and L as it was -/
def But2 (p L : Addr) (H H' : Hp) : Prop := ∀ c o, H c = some o → c ≠ p → c ≠ L → H' c = some o
theorem But2.off {p L : Addr} {H H' : Hp} (b : But2 p L H H') : Same (off (off H p) L) (off (off H' p) L) := fun c o e => by
  by_cases h1 : c = L
  · rw [h1, off_same] at e
    cases e
  rw [off_ne h1] at e ⊢
  by_cases h2 : c = p
  · rw [h2, off_same] at e
    cases e
  rw [off_ne h2] at e ⊢
  exact b c o e h2 h1
theorem But.off {p : Addr} {H H' : Hp} (b : But p H H') : Same (off H p) (off H' p) := off_mono fun c o n e => b c o e n
theorem But.of {p : Addr} {H H' : Hp} (s : Same H H') : But p H H' := fun c o e _ => s c o e
theorem Box.same {p : Addr} {H H' : Hp} (s : Same H H') (b : Box H p) : Box H' p := by
  obtain ⟨x, y, z, e⟩ := b
  exact ⟨x, y, z, s _ _ e⟩
theorem ifC2 {c : Prop} [Decidable c] {a b : V} {σ : L2.St} {H : Hp} {Q : VK} (h : ∀ x, ((c ∧ x = a) ∨ x = b) → Q x H) : if c then tC a σ H Q else tC b σ H Q := by
  split
  · rename_i hc
    exact h _ (.inl ⟨hc, rfl⟩)
  · exact h _ (.inr rfl)
theorem ifC {c : Prop} [Decidable c] {a b : V} {σ : L2.St} {H : Hp} {Q : VK} (h : ∀ x, (x = a ∨ x = b) → Q x H) : if c then tC a σ H Q else tC b σ H Q := by
  split
  · exact h a (.inl rfl)
  · exact h b (.inr rfl)
theorem ifE {c : Prop} [Decidable c] {ta tb : TE} {σ : L2.St} {H : Hp} {Q : VK} (R : V → Hp → Prop) (h1 : c → ∀ Q' : VK, (∀ x H', R x H' → Q' x H') → ta σ H Q') (h2 : ¬ c → ∀ Q' : VK, (∀ x H', R x H' → Q' x H') → tb σ H Q') (h : ∀ x H', R x H' → Q x H') : if c then ta σ H Q else tb σ H Q := by
  split
  · rename_i e
    exact h1 e Q h
  · rename_i e
    exact h2 e Q h
theorem But.new {p a : Addr} {H H' : Hp} {o : HO} (b : But p H H') (n : H a = none) : But p H (upd H' a o) := fun c u e h => by
  rw [upd_ne (ne_of_none e n)]
  exact b c u e h
theorem Box.ne {p a : Addr} {H : Hp} {o : HO} (n : a ≠ p) (b : Box H p) : Box (upd H a o) p := by
  obtain ⟨x, y, z, e⟩ := b
  exact ⟨x, y, z, by rw [upd_ne (Ne.symm n)]; exact e⟩
theorem Box.fresh {p a : Addr} {H : Hp} (b : Box H p) (n : H a = none) : a ≠ p := by
  obtain ⟨x, y, z, e⟩ := b
  exact fun h => by rw [h, e] at n; cases n
theorem none_but {p a : Addr} {H H' : Hp} (b : But p H H') (n : a ≠ p) (h : H' a = none) : H a = none := by
  cases e : H a with
  | none => rfl
  | some o =>
    rw [b a o e n] at h
    cases h
theorem nat_of {d m : Int} (h0 : 0 ≤ d) (h1 : d < m) : ∃ n : Nat, d = (n : Int) ∧ (n : Int) < m := ⟨d.toNat, by omega, by omega⟩
section
variable {P : Program} {w : World} {K : PySem.W.Frag} {mg : Str → Option Value} {base : Heap}
def spOpn (K : PySem.W.Frag) : Sp := fun vs H Q _ => ∃ (p : Addr) (s : Nat), vs = [.ref p, .int s] ∧ 2 ≤ s ∧ s ≤ 4 ∧ Box H p ∧ ∀ (H' : Hp) (v : V) (n : Nat) (as : List Nat), But p H H' → Box H' p → 1 ≤ n → n ≤ 3 → (s < 4 ∨ n ≤ 2) → as.length = s ^ n → (∀ a ∈ as, a < s) →
  Dp K (off H' p) v (.tuple [nD n, .tuple (as.map nD)]) → Q v H'
abbrev NOpn : List Str := ["box", "size", "places", "kind", "answers", "place", "other", "most", "table", "row", "value", "turn"]
theorem scOpn : FnScope NOpn ["box", "size"] (defScope sOpn) := ⟨rfl, rfl, rfl, by decide +kernel, rfl, by decide +kernel, by decide +kernel⟩
theorem ok_opn {f fT fP fG : Addr} {fd fdT fdP fdG : FuncData} (F : Fun K "_law_operation" "_law_operation" sOpn f fd) (Z : Bi mg) (FT : At K mg "_law_take" sTake fT fdT ["box", "many"]) (GT : FnOk P w K mg base CX0 1 fT fdT ["box", "many"] spTake)
    (FP : At K mg "_law_pick" sPick fP fdP ["box", "some"]) (GP : FnOk P w K mg base CX0 2 fP fdP ["box", "some"] (spPick K)) (FG : At K mg "_law_grid" sGrid fG fdG ["size", "many"]) (GG : FnOk P w K mg base CX0 1 fG fdG ["size", "many"] (spGrid K)) :
    FnOk P w K mg base CX0 3 f fd ["box", "size"] (spOpn K) := by
  refine F.ok scOpn (fun vs H Q E h => ?_) (fun cdv A outer sh H vs Q E hr h => ?_)
  · obtain ⟨p, s, rfl, _⟩ := h
    rfl
  · obtain ⟨p, s, rfl, s2, s4, hb, k⟩ := h
    have hu := hr65 hr
    refine ⟨_, pss_cons (ps_par rfl scOpn.nd (i := 2) (j := 3) rfl rfl (by decide) rfl rfl (by exact (pa_cons (pe_call GP (hr.mono (by decide)) rfl FP.g FP.F.kp FP.b .nil pass0 (by exact (pa_cons (pv 0) (pa_cons (pe_lst (by exact (pa_cons pe_int (pa_cons pe_int (pa_cons pe_int (pa_cons (pe_ifExp (pt_cmpR op_lt (pv 1) pe_int (nomark _)) pe_int pe_int) pa_nil)))))) pa_nil))))
        (pa_cons (pe_call GT (hr.mono (by decide)) rfl FT.g FT.F.kp FT.b .nil pass0 (by exact (pa_cons (pv 0) (pa_cons pe_int pa_nil)))) pa_nil))) (by rfl))
      (pss_cons (ps_asg (pe_tup (by exact (pa_cons (pe_lst pa_nil) (pa_cons (pe_call GT (hr.mono (by decide)) rfl FT.g FT.F.kp FT.b .nil pass0 (by exact (pa_cons (pv 0) (pa_cons (pv 2) pa_nil))))
          (pa_cons (pe_call GT (hr.mono (by decide)) rfl FT.g FT.F.kp FT.b .nil pass0 (by exact (pa_cons (pv 0) (pa_cons (pv 2) pa_nil)))) (pa_cons (pe_call GT (hr.mono (by decide)) rfl FT.g FT.F.kp FT.b .nil pass0 (by exact (pa_cons (pv 0) (pa_cons (pv 1) pa_nil)))) pa_nil))))))
        (pg_tup rfl (pgs_cons (pg_name (i := 4) scOpn.nd rfl (Or.inl rfl)) (pgs_cons (pg_name (i := 5) scOpn.nd rfl (Or.inl rfl)) (pgs_cons (pg_name (i := 6) scOpn.nd rfl (Or.inl rfl)) (pgs_cons (pg_name (i := 7) scOpn.nd rfl (Or.inl rfl)) pgs_nil))))))
      (pss_cons (ps_setLc (i := 8) (own := [("turn", 11)]) (g := gName 11) (tt := tYes) (te := tCall spTake [] E0 (tCons (tVar 0) (tCons (tVar 1) tNil))) rfl scOpn.nd rfl rfl (sw_true rfl rfl rfl (by decide +kernel)) (pi_range1 (by rfl) Z.range (pa_cons (pe_op op_mul (pv 1) (pv 1)) pa_nil))
          (blkOk_by (N := NOpn) (sc := defScope sOpn) (by decide +kernel)) (fun _ _ _ _ _ => pg_name (i := 11) scOpn.nd rfl (Or.inl rfl)) (fun _ _ _ _ _ => pts_nil) (fun _ _ _ _ _ => pe_call GT (hr.mono (by decide)) (by rfl) FT.g FT.F.kp FT.b .nil pass0 (by exact (pa_cons (pv 0) (pa_cons (pv 1) pa_nil)))))
      (pss_cons (ps_for PassesOwn.never rfl (pi_list (pe_call GG (hr.mono (by decide)) rfl FG.g FG.F.kp FG.b .nil pass0 (by exact (pa_cons (pv 1) (pa_cons (pv 2) pa_nil))))) (pg_name (i := 9) scOpn.nd rfl (Or.inl rfl))
        (pss_cons (ps_set (i := 10) scOpn.nd rfl (Or.inl rfl) (pe_ifExp (pt_cmpR op_eq (pv 3) pe_int (nomark _)) (pe_call GT (hr.mono (by decide)) rfl FT.g FT.F.kp FT.b .nil pass0 (by exact (pa_cons (pv 0) (pa_cons (pv 1) pa_nil))))
            (pe_ix ix_list (pv 8) (pe_op op_add (pe_op op_mul (pe_ix ix_tup (pv 9) (pv 5) (fun _ _ => rfl)) (pv 1)) (pe_ix ix_tup (pv 9) (pv 6) (fun _ _ => rfl))) (fun _ _ => rfl))))
        (pss_cons (ps_set (i := 10) scOpn.nd rfl (Or.inl rfl) (pe_ifExp (pt_cmpR op_eq (pv 3) pe_int (nomark _)) (pe_ix ix_tup (pv 9) (pv 5) (fun _ _ => rfl)) (pe_ifExp (pt_cmpR op_eq (pv 3) pe_int (nomark _))
            (pe_callB (call_min2 rfl) (by rfl) Z.min (by decide +kernel) (pa_cons (pe_callB (cr_maxT rfl hu) (by rfl) Z.max (by decide +kernel) (pa_cons (pv 9) pa_nil)) (pa_cons (pv 7) pa_nil))) (pv 10))))
        (pss_one (ps_expr (pe_bm PySem.F.plainAttrs_list PySem.F.slot_list_append PySem.F.type_list_append mt_append (pv 4) (pa_cons
          (pe_ifExp (PW.pt (pw_and (pt_cmpR op_eq (pv 3) pe_int (nomark _)) (pw_and1 (pt_cmpR op_eq (pe_ix ix_tup (pv 9) (pv 5) (fun _ _ => rfl)) (pv 7) (nomark _))))) (pe_ix ix_tup (pv 9) (pv 6) (fun _ _ => rfl)) (pv 10)) pa_nil)))))))
      (pss_one (ps_ret (pe_tup (by exact (pa_cons (pv 2) (pa_cons (pe_tupleOf (by rfl) Z.tuple (pv 4)) pa_nil))))))))), ?_⟩
    refine ⟨_, rfl, _, rfl, _, _, rfl, rfl, _, rfl, ?_⟩
    refine ifC2 fun x3 hx3 => ⟨(by show 4 ≤ sizeLine; decide), fun l hl => ?_⟩
    refine ⟨p, l, _, rfl, hb.fresh hl, hb.same (same_new hl), upd_same, by show 0 < 4; decide, by show 4 < 1000; decide, fun H1 v1 bt1 b1 hv1 => ?_⟩
    obtain ⟨n, rfl, n1, n3, n4⟩ : ∃ n : Nat, v1 = .int (n : Int) ∧ 1 ≤ n ∧ n ≤ 3 ∧ (s < 4 ∨ n ≤ 2) := by
      simp only [List.mem_cons, List.not_mem_nil, or_false] at hv1
      rcases hv1 with rfl | rfl | rfl | rfl
      · exact ⟨1, rfl, by decide, by decide, .inr (by decide)⟩
      · exact ⟨2, rfl, by decide, by decide, .inr (by decide)⟩
      · exact ⟨2, rfl, by decide, by decide, .inr (by decide)⟩
      · rcases hx3 with ⟨hc, rfl⟩ | rfl
        · exact ⟨3, rfl, by decide, by decide, .inl (by have := of_decide_eq_true hc; omega)⟩
        · exact ⟨2, rfl, by decide, by decide, .inr (by decide)⟩
    have bA : But p H H1 := (But.of (same_new hl)).trans bt1
    refine ⟨_, rfl, p, 5, rfl, by decide, by decide, b1, fun H2 kd bt2 b2 _ _ => ⟨_, _, rfl, ?_⟩⟩
    have bB := bA.trans bt2
    refine ⟨(by show 0 ≤ sizeLine; decide), fun L hL => ?_⟩
    have nLp : L ≠ p := b2.fresh hL
    have nHL : H L = none := none_but bB nLp hL
    refine ⟨_, rfl, _, rfl, p, n, rfl, by omega, by omega, b2.ne nLp, fun H3 d1 bt3 b3 d10 d11 => ?_⟩
    obtain ⟨pl, rfl, hpl⟩ := nat_of d10 d11
    refine ⟨_, rfl, _, rfl, p, n, rfl, by omega, by omega, b3, fun H4 d2 bt4 b4 d20 d21 => ?_⟩
    obtain ⟨ot, rfl, hot⟩ := nat_of d20 d21
    refine ⟨_, rfl, _, rfl, p, s, rfl, by omega, by omega, b4, fun H5 d3 bt5 b5 d30 d31 => ?_⟩
    obtain ⟨mo, rfl, hmo⟩ := nat_of d30 d31
    refine ⟨(by show 4 ≤ sizeLine; decide), fun t ht => ?_⟩
    have eL5 : H5 L = some (.lst []) := bt5 L _ (bt4 L _ (bt3 L _ upd_same nLp) nLp) nLp
    have bC : But p H H5 := (((bB.new (none_but bB nLp hL)).trans bt3).trans bt4).trans bt5
    refine ⟨t, _, rfl, SqT.of upd_same, rfl, _, _, rfl, _, _, rfl, _, _, rfl, _, _, rfl, rfl, ?_⟩
    have ntp : t ≠ p := b5.fresh ht
    have b6 := b5.ne (o := .tup [.ref L, .int (pl : Int), .int (ot : Int), .int (mo : Int)]) ntp
    have bD := bC.new (o := .tup [.ref L, .int (pl : Int), .int (ot : Int), .int (mo : Int)]) (none_but bC ntp ht)
    have eL6 : upd H5 t (.tup [.ref L, .int (pl : Int), .int (ot : Int), .int (mo : Int)]) L = some (.lst []) := by rw [upd_ne (ne_of_none eL5 ht)]; exact eL5
    generalize upd H5 t (.tup [.ref L, .int (pl : Int), .int (ot : Int), .int (mo : Int)]) = H6 at b6 bD eL6
    clear eL5 bC ht b5 bt5 bt4 bt3
    refine ⟨_, rfl, _, rfl, _, _, rfl, rfl, .inr ⟨by omega, by omega⟩, (s : Int) * s, rfl, ?_, ?_, ?_⟩
    · have : (s : Int) * s = ((s * s : Nat) : Int) := by rw [Int.natCast_mul]
      rw [this]
      omega
    · have h1 : s * s ≤ 4 * 4 := Nat.mul_le_mul s4 s4
      have : (s : Int) * s = ((s * s : Nat) : Int) := by rw [Int.natCast_mul]
      rw [this]
      omega
    rw [show ((s : Int) * s).toNat = s * s from by rw [← Int.natCast_mul, Int.toNat_natCast]]
    refine fun T hT => walk_it walk_range (fun i H' => But p H6 H' ∧ Box H' p ∧ ∃ ts : List Nat, ts.length = i ∧ (∀ a ∈ ts, a < s) ∧ H' T = some (.lst (ts.map fun n : Nat => V.int n))) ⟨(But.refl p H6).new hT, b6.ne (b6.fresh hT), [], rfl, (fun a h => nomatch h), upd_same⟩ (fun _ _ _ _ => trivial) ?_ ?_
    · rintro i x _ H7 hi ⟨bt, b7, ts, lt, hlt, eT⟩ ⟨rfl, ex⟩
      refine ⟨rfl, _, rfl, _, rfl, p, s, rfl, by omega, by omega, b7, fun H8 d bt8 b8 d0 d1 => ?_⟩
      obtain ⟨dn, rfl, hdn⟩ := nat_of d0 d1
      have nT := b6.fresh hT
      have s16 : s * s ≤ 4 * 4 := Nat.mul_le_mul s4 s4
      refine ⟨_, bt8 T _ eT nT, by rw [List.length_map, lt, sizeLine_eq]; omega, (bt.trans bt8).new hT, b8.ne nT, ts ++ [dn], by rw [List.length_append, lt]; rfl, fun a ha => ?_, by rw [upd_same, List.map_append]; rfl⟩
      rcases List.mem_append.mp ha with h | h
      · exact hlt a h
      · rw [List.mem_singleton] at h
        omega
    · rintro H7 ⟨bt, b7, ts, lt, hlt, eT⟩
      have nT := b6.fresh hT
      have nTL : T ≠ L := fun z => by rw [z, eL6] at hT; cases hT
      have bE := bD.trans bt
      have eL7 := bt L _ eL6 nLp
      refine ⟨_, rfl, _, rfl, s, n, rfl, by omega, by omega, fun H8 vR s8 fR => ?_⟩
      obtain ⟨aR, xR, rfl, nR, eR, rR⟩ := fR
      refine ⟨aR, rfl, ⟨xR, SqL.of eR⟩, ?_⟩
      have b8 := b7.same s8
      have eL8 := s8 _ _ eL7
      have eT8 := s8 _ _ eT
      have nRp : aR ≠ p := b7.fresh nR
      have nRL : aR ≠ L := fun z => by rw [z, eL7] at nR; cases nR
      obtain ⟨bx, by', bz, ep8⟩ := id b8
      have cR : DpAll K (off (off H8 p) L) xR ((gridN s n).map rowT) := rows_off (by rw [off_ne nLp]; exact eL8) (rows_off ep8 rR)
      have lR : xR.length = s ^ n := by rw [dpAll_len rR, List.length_map, gridN_len]
      have l64 : s ^ n ≤ 4 ^ 3 := Nat.le_trans (Nat.pow_le_pow_left s4 n) (Nat.pow_le_pow_right (by decide) n3)
      have bF : But p H H8 := bE.trans (But.of s8)
      refine for_list (K := K) (a := aR) (xs := xR) (fun i σ H' => ∃ u9 u10 : Option V, σ = [some (.ref p), some (.int s), some (.int n), some (.int kd), some (.ref L), some (.int pl), some (.int ot), some (.int mo), some (.ref T), u9, u10, none] ∧ But2 p L H8 H' ∧ Box H' p ∧
          ∃ as : List Nat, as.length = i ∧ (∀ a ∈ as, a < s) ∧ H' L = some (.lst (as.map fun n : Nat => V.int n)))
        ⟨none, none, rfl, fun c o e _ _ => e, b8, [], rfl, (fun a h => nomatch h), eL8⟩ (fun i σ H' _ ⟨_, _, _, b, _⟩ => SqL.of (b aR _ eR nRp nRL)) ?_ ?_
      · rintro i y σ H9 hy ⟨u9, u10, rfl, bt9, b9, as, la, hlt9, eL9⟩
        obtain ⟨dr, hr', hyd⟩ := dpAll_get cR hy
        obtain ⟨r, hrr, rfl⟩ : ∃ r, (gridN s n)[i]? = some r ∧ dr = rowT r := by
          rw [List.getElem?_map] at hr'
          cases e : (gridN s n)[i]? with
          | none =>
            rw [e] at hr'
            cases hr'
          | some c =>
            rw [e] at hr'
            exact ⟨c, rfl, (Option.some.inj hr').symm⟩
        obtain ⟨lr, xr⟩ := gridN_row r (List.mem_of_getElem? hrr)
        obtain ⟨ar, xs, rfl, qr, rr⟩ := dp_tup hyd
        obtain rfl := dpAll_eqn rr
        have row : ∀ H', But2 p L H8 H' → SqT K H' ar (r.map fun n : Nat => V.int n) := fun H' b => seqT off_le (seqT off_le (seqT b.off qr))
        have hpl' : pl < r.length := by omega
        have hot' : ot < r.length := by omega
        have xpl := xr _ (List.getElem_mem hpl')
        have xot := xr _ (List.getElem_mem hot')
        have apl : atI (r.map fun n : Nat => V.int n) (pl : Int) = some (.int (r[pl] : Nat)) := atI_nat (by rw [List.getElem?_map, List.getElem?_eq_getElem hpl']; rfl)
        have aot : atI (r.map fun n : Nat => V.int n) (ot : Int) = some (.int (r[ot] : Nat)) := atI_nat (by rw [List.getElem?_map, List.getElem?_eq_getElem hot']; rfl)
        have hti : r[pl] * s + r[ot] < ts.length := by
          have : (r[pl] + 1) * s ≤ s * s := Nat.mul_le_mul_right _ xpl
          rw [Nat.add_mul, Nat.one_mul] at this
          omega
        have ati : atI (ts.map fun n : Nat => V.int n) ((r[pl] : Int) * (s : Int) + (r[ot] : Int)) = some (.int (ts[r[pl] * s + r[ot]] : Nat)) := by
          rw [show ((r[pl] : Int) * (s : Int) + (r[ot] : Int)) = ((r[pl] * s + r[ot] : Nat) : Int) from by rw [Int.natCast_add, Int.natCast_mul]]
          exact atI_nat (by rw [List.getElem?_map, List.getElem?_eq_getElem hti]; rfl)
        have R : V → Hp → Prop := fun x H' => ∃ v : Nat, v < s ∧ x = .int v ∧ But2 p L H8 H' ∧ Box H' p ∧ H' L = some (.lst (as.map fun n : Nat => V.int n))
        refine ⟨_, rfl, rfl, _, rfl, ?_⟩
        refine ifE (fun x H' => ∃ v : Nat, v < s ∧ x = .int v ∧ But2 p L H8 H' ∧ Box H' p ∧ H' L = some (.lst (as.map fun n : Nat => V.int n))) (fun _ Q' hQ => ?_) (fun _ Q' hQ => ?_) ?_
        · refine ⟨_, rfl, _, rfl, p, s, rfl, by omega, by omega, b9, fun H10 d bt b10 d0 dm => ?_⟩
          obtain ⟨dn, rfl, hdn⟩ := nat_of d0 dm
          exact hQ _ _ ⟨dn, by omega, rfl, fun c o e n1 n2 => bt c o (bt9 c o e n1 n2) n1, b10, bt L _ eL9 nLp⟩
        · refine ⟨_, rfl, _, rfl, _, rfl, ar, _, _, _, rfl, rfl, row H9 bt9, apl, _, rfl, _, _, rfl, rfl, .inr ⟨by omega, by omega⟩, _, rfl, _, rfl, ar, _, _, _, rfl, rfl, row H9 bt9, aot, _, _, rfl, rfl, T, _, _, _, rfl, rfl, SqL.of (bt9 T _ eT8 nT nTL), ati, ?_⟩
          exact hQ _ _ ⟨_, hlt _ (List.getElem_mem hti), rfl, bt9, b9, eL9⟩
        rintro _ H10 ⟨v, hv, rfl, bt10, b10, eL10⟩
        refine ⟨_, rfl, rfl, _, rfl, ?_⟩
        refine ifE (fun x H' => ∃ v : Nat, v < s ∧ x = .int v ∧ H' = H10) (fun _ Q' hQ => ?_) (fun _ Q' hQ => ?_) ?_
        · exact ⟨_, rfl, _, rfl, ar, _, _, _, rfl, rfl, row H10 bt10, apl, hQ _ _ ⟨_, xpl, rfl, rfl⟩⟩
        · refine ⟨_, rfl, rfl, _, rfl, ?_⟩
          refine ifE (fun x H' => ∃ v : Nat, v < s ∧ x = .int v ∧ H' = H10) (fun _ Q' hQ => ?_) (fun _ Q' hQ => ?_) hQ
          · refine ⟨_, rfl, ar, r, rfl, row H10 bt10, (fun z => by rw [z] at lr; simp at lr; omega), fun m hm => ⟨_, rfl, _, _, rfl, ?_⟩⟩
            have hms := xr m hm
            by_cases h : (mo : Int) < (m : Int)
            · rw [if_pos h]
              exact hQ _ _ ⟨mo, by omega, rfl, rfl⟩
            · rw [if_neg h]
              exact hQ _ _ ⟨m, hms, rfl, rfl⟩
          · exact ⟨_, rfl, hQ _ _ ⟨v, hv, rfl, rfl⟩⟩
        rintro _ H11 ⟨v2, hv2, rfl, rfl⟩
        have il : i < s ^ n := by
          have := (List.getElem?_eq_some_iff.mp hy).1
          omega
        have app : ∀ v : Nat, v < s → But2 p L H8 (upd H11 L (.lst ((as.map fun n : Nat => V.int n) ++ [.int v]))) ∧ Box (upd H11 L (.lst ((as.map fun n : Nat => V.int n) ++ [.int v]))) p ∧
            ∃ as' : List Nat, as'.length = i + 1 ∧ (∀ a ∈ as', a < s) ∧ (upd H11 L (.lst ((as.map fun n : Nat => V.int n) ++ [.int v]))) L = some (.lst (as'.map fun n : Nat => V.int n)) := by
          intro v hv
          refine ⟨fun c o e n1 n2 => by rw [upd_ne n2]; exact bt10 c o e n1 n2, b10.ne nLp, as ++ [v], by rw [List.length_append, la]; rfl, fun a ha => ?_, by rw [upd_same, List.map_append]; rfl⟩
          rcases List.mem_append.mp ha with h | h
          · exact hlt9 a h
          · rw [List.mem_singleton] at h
            rw [h]
            exact hv
        have lsz : (as.map fun n : Nat => V.int n).length < sizeLine := by
          rw [List.length_map, la, sizeLine_eq]
          have : (4 : Nat) ^ 3 = 64 := by decide
          omega
        refine ⟨_, rfl, .inl ⟨rfl, _, SqL.of eL10⟩, _, rfl, rfl, _, rfl, ?_⟩
        by_cases hk4 : decide (V.int kd = V.int 4) = true
        · refine go_t hk4 ?_
          refine ⟨_, rfl, _, rfl, ar, _, _, _, rfl, rfl, row H11 bt10, apl, _, rfl, rfl, _, rfl, ?_⟩
          refine ifE (fun x H' => ∃ v : Nat, v < s ∧ x = .int v ∧ H' = H11) (fun _ Q' hQ => ?_) (fun _ Q' hQ => ?_) ?_
          · exact ⟨_, rfl, _, rfl, ar, _, _, _, rfl, rfl, row H11 bt10, aot, hQ _ _ ⟨_, xot, rfl, rfl⟩⟩
          · exact ⟨_, rfl, hQ _ _ ⟨v2, hv2, rfl, rfl⟩⟩
          rintro _ _ ⟨v, hv, rfl, rfl⟩
          exact ⟨L, _, _, rfl, rfl, eL10, lsz, _, _, rfl, app v hv⟩
        · refine go_f (by simpa using hk4) ?_
          refine go_f rfl ?_
          exact ⟨_, rfl, L, _, _, rfl, rfl, eL10, lsz, _, _, rfl, app v2 hv2⟩
      · rintro σ H9 ⟨u9, u10, rfl, bt9, b9, as, la, hlt9, eL9⟩
        refine ⟨_, rfl, _, rfl, .inl ⟨L, _, rfl, SqL.of eL9, fun q hq => ⟨(by show 2 ≤ sizeLine; decide), fun t2 ht2 => ?_⟩⟩⟩
        have nqp : q ≠ p := b9.fresh hq
        have bq := b9.ne (o := .tup (as.map fun n : Nat => V.int n)) nqp
        have nt2 : t2 ≠ p := bq.fresh ht2
        have bG : But p H H9 := fun c o e n1 => bt9 c o (bF c o e n1) n1 fun z => by
          rw [z, nHL] at e
          cases e
        have nq := none_but bG nqp hq
        have nt : H t2 = none := none_but (bG.new nq) nt2 ht2
        refine k _ _ n as ((bG.new nq).new nt) (bq.ne nt2) n1 n3 n4 (by rw [la, lR]) hlt9 ?_
        refine .tup (SqT.of (by rw [off_ne nt2]; exact upd_same)) (.cons (.int _) (.cons (.tup (SqT.of (by rw [off_ne nqp, upd_ne (fun z => by rw [z, upd_same] at ht2; cases ht2)]; exact upd_same)) (dpAll_mkn as)) .nil))
end
end K02
/-! the grid's rows that agree with what is held. -/
namespace K02
open PySem L2 FX SQ
def dis (os : List (Option Nat)) (r : List Nat) (j : Nat) : Bool := match os[j]? with
  | some (some m) => !(some m == r[j]?)
  | _ => false
def agree (os : List (Option Nat)) (r : List Nat) : Bool := (List.range os.length).all fun j => !dis os r j
theorem empty_all {α : Type} (p : α → Bool) : ∀ l : List α, (l.filter p).isEmpty = l.all fun x => !p x
  | [] => rfl
  | a :: l => by
    rw [List.filter_cons, List.all_cons, ← empty_all p l]
    cases p a <;> simp
theorem agree_snoc {os : List (Option Nat)} {r : List Nat} (h : r.length = os.length) (o : Option Nat) (x : Nat) : agree (os ++ [o]) (r ++ [x]) = (agree os r && (match o with | none => true | some m => m == x)) := by
  unfold agree
  rw [List.length_append, List.length_singleton, List.range_succ, List.all_append, List.all_cons, List.all_nil, Bool.and_true]
  congr 1
  · refine Bool.eq_iff_iff.mpr ?_
    simp only [List.all_eq_true, List.mem_range]
    refine forall_congr' fun j => ?_
    refine imp_congr_right fun hj => ?_
    unfold dis
    rw [List.getElem?_append_left hj, List.getElem?_append_left (by omega)]
  · unfold dis
    rw [List.getElem?_append_right (Nat.le_refl _), List.getElem?_append_right (by omega), h]
    simp only [Nat.sub_self, List.getElem?_cons_zero]
    cases o with
    | none => rfl
    | some m => simp
theorem range_one {s m : Nat} (h : m < s) : (List.range s).filter (fun x => m == x) = [m] := by
  induction s with
  | zero => omega
  | succ s ih =>
    rw [List.range_succ, List.filter_append]
    by_cases e : m = s
    · subst e
      have z : (List.range m).filter (fun x => m == x) = [] := by
        rw [List.filter_eq_nil_iff]
        intro a ha
        have := List.mem_range.mp ha
        simp
        omega
      rw [z]
      simp
    · rw [ih (by omega)]
      have : (m == s) = false := by simpa using e
      simp [this]
theorem step_filter {s : Nat} {os : List (Option Nat)} {o : Option Nat} (ho : ∀ m, o = some m → m < s) : ∀ A : List (List Nat), (∀ r ∈ A, r.length = os.length) → (stepN A (List.range s)).filter (agree (os ++ [o])) = stepN (A.filter (agree os)) (choiceN s o)
  | [], _ => rfl
  | r :: A, h => by
    have ih := step_filter (os := os) ho A fun r' h' => h r' (List.mem_cons_of_mem _ h')
    have hr := h r (List.mem_cons_self ..)
    unfold stepN at ih ⊢
    rw [List.flatMap_cons, List.filter_append, ih, List.filter_cons]
    have e : ((List.range s).map fun x => r ++ [x]).filter (agree (os ++ [o])) = if agree os r = true then (choiceN s o).map fun x => r ++ [x] else [] := by
      rw [List.filter_map]
      have : (agree (os ++ [o]) ∘ fun x => r ++ [x]) = fun x => (agree os r && (match o with | none => true | some m => m == x)) := by
        funext x
        exact agree_snoc hr o x
      rw [this]
      cases ha : agree os r with
      | false =>
        simp
      | true =>
        simp only [Bool.true_and, if_true]
        cases o with
        | none =>
          rw [show (List.range s).filter (fun _ => true) = List.range s from List.filter_eq_self.mpr fun _ _ => rfl]
          rfl
        | some m =>
          rw [range_one (ho m rfl)]
          rfl
    rw [e]
    cases ha : agree os r with
    | false => simp
    | true => simp [List.flatMap_cons]
theorem grid_filter {s : Nat} : ∀ (os os0 : List (Option Nat)) (A : List (List Nat)), (∀ r ∈ A, r.length = os0.length) → (∀ m, some m ∈ os → m < s) →
    ((List.replicate os.length (List.range s)).foldl stepN A).filter (agree (os0 ++ os)) = (os.map (choiceN s)).foldl stepN (A.filter (agree os0))
  | [], os0, A, h, _ => by simp
  | o :: os, os0, A, h, hl => by
    rw [List.length_cons, List.replicate_succ, List.foldl_cons, List.map_cons, List.foldl_cons]
    rw [← step_filter (os := os0) (fun m e => hl m (by rw [e]; exact List.mem_cons_self ..)) A h]
    have := grid_filter os (os0 ++ [o]) (stepN A (List.range s)) (fun r' hr' => by
      obtain ⟨r0, h0, hm⟩ := List.mem_flatMap.mp hr'
      obtain ⟨x, _, rfl⟩ := List.mem_map.mp hm
      rw [List.length_append, h r0 h0, List.length_append]
      rfl) (fun m h' => hl m (List.mem_cons_of_mem _ h'))
    rw [List.append_assoc] at this
    exact this
theorem grid_held {s : Nat} {os : List (Option Nat)} (hl : ∀ m, some m ∈ os → m < s) : (gridN s os.length).filter (agree os) = rowsN (os.map (choiceN s)) := by
  have := grid_filter os [] [[]] (fun r h => by rw [List.mem_singleton] at h; subst h; rfl) hl
  rw [List.nil_append] at this
  exact this
theorem range_flat (s : Nat) : ∀ m : Nat, ((List.range m).flatMap fun a => (List.range s).map fun x => a * s + x) = List.range (m * s)
  | 0 => by simp
  | m + 1 => by
    rw [List.range_succ, List.flatMap_append, range_flat s m, Nat.add_mul, Nat.one_mul, List.range_add]
    simp
theorem spot_snoc (s : Nat) (r : List Nat) (x : Nat) : spotN s (r ++ [x]) = spotN s r * s + x := by
  unfold spotN
  rw [List.foldl_append]
  rfl
theorem grid_spots (s : Nat) : ∀ n : Nat, (gridN s n).map (spotN s) = List.range (s ^ n)
  | 0 => rfl
  | n + 1 => by
    rw [gridN_succ]
    unfold stepN
    rw [List.map_flatMap]
    have e : (gridN s n).flatMap (fun a => ((List.range s).map fun x => a ++ [x]).map (spotN s)) = ((gridN s n).map (spotN s)).flatMap fun a => (List.range s).map fun x => a * s + x := by
      rw [List.flatMap_map]
      congr 1
      funext r
      rw [List.map_map]
      congr 1
      funext x
      exact spot_snoc s r x
    rw [e, grid_spots s n, range_flat, Nat.pow_succ]
theorem grid_spot {s n i : Nat} {r : List Nat} (h : (gridN s n)[i]? = some r) : spotN s r = i := by
  have h1 : ((gridN s n).map (spotN s))[i]? = some (spotN s r) := by rw [List.getElem?_map, h]; rfl
  rw [grid_spots] at h1
  obtain ⟨h2, h3⟩ := List.getElem?_eq_some_iff.mp h1
  rw [List.getElem_range] at h3
  exact h3.symm
end K02
/-! the law's own held table. -/
namespace K02
open PySem L2 FX SQ
theorem depth_n : ∀ ns : List Nat, PyData.depthAll (ns.map nD) ≤ 1
  | [] => by decide
  | n :: r => by
    have := depth_n r
    show max (PyData.depth (nD n)) (PyData.depthAll (r.map nD)) ≤ 1
    exact Nat.max_le.mpr ⟨by show PyData.depth (.int n) ≤ 1; simp [PyData.depth], this⟩
theorem shaped_n (ns : List Nat) : SeqAt.shaped (.list (ns.map nD)) = true := by
  unfold SeqAt.shaped
  rw [Bool.and_eq_true]
  refine ⟨lay_n ns, decide_eq_true ?_⟩
  have := depth_n ns
  show PyData.depth (.list (ns.map nD)) ≤ 64
  simp only [PyData.depth]
  omega
theorem eqv_nil (ns : List Nat) : PyData.eqv (.list (ns.map nD)) (.list []) = ns.isEmpty := by
  cases ns <;> rfl
theorem range_fil (p : Nat → Bool) (j : Nat) : (List.range (j + 1)).filter p = (List.range j).filter p ++ (if p j = true then [j] else []) := by
  rw [List.range_succ, List.filter_append, List.filter_cons]
  rfl
section
variable {P : Program} {w : World} {K : PySem.W.Frag} {mg : Str → Option Value} {base : Heap}
end
end K02
/-! A comprehension whose tests and thing may use what its def knows when the block is entered. -/
namespace SQ
open PySem PySem.Spec PyProof.Rows L2
/-- the reading: the turns are told for each state in which the block may be entered -/
def tAt (X : Cx) (wi : TI) (g : TG) (tt : Shared → Hp → TT) (te : Shared → Hp → TE) (own : List Nat) : TE := fun σ H Q => wi σ H fun J Hi => ∀ D, Hi D = none → ∀ (sb : Shared) (pb : List (Addr × Obj)), Inv X pb σ (upd Hi D (.lst [])) sb →
  ∃ W : Nat → Nat → Hp → Prop, (∃ m, W 0 m (upd Hi D (.lst []))) ∧ ∀ i m Hc, W i m Hc → (J.stop i Hc ∧ Q (.ref D) Hc) ∨ (J.go i Hc ∧ ∃ Nx : Hp → Prop, (∀ H', Nx H' → ∃ m', m' < m ∧ W (i + 1) m' H') ∧
    ∀ x H', J.yld i Hc x H' → g x (wipe σ own) H' fun σ2 H2 => wipe σ2 own = wipe σ own ∧ tt sb (upd Hi D (.lst [])) σ2 H2 fun b H3 =>
      if b = true then te sb (upd Hi D (.lst [])) σ2 H3 fun y H4 => ∃ acc, H4 D = some (.lst acc) ∧ acc.length < sizeLine ∧ Nx (upd H4 D (.lst (acc ++ [y]))) else Nx H3)
section
variable {X : Cx}
/-- the block's own cells are free from the def's: all is there for the closure -/
theorem free_there {scope : Scope} {own : List (Str × Nat)} {pins : List (Addr × Obj)} {σ : L2.St} {H : Hp} {s : Shared} (I : Inv X pins σ H s) (ok : BlkOk X.N X.env.scope scope own) : ∀ y ∈ scope.names, y.2 = .free → ∃ c, X.env.cells.lookup y.1 = some c := by
  intro y hy e
  exact I.ok.has _ ((ok.free y hy e).imp id id)
theorem fp_still {Y : Cx} {fp : List Addr} {σ : L2.St} {H : Hp} {s : Shared} (I : Inv Y [] σ H s) (hx : Y.ex = fp) (hp : Y.pn = []) (hn : ∀ b ∈ fp, H b = none) : ∀ b ∈ fp, FpOk Y [] H b := by
  intro b hb
  have hb' : b ∈ Y.ex := by rw [hx]; exact hb
  refine ⟨hn b hb, (I.ok.exf b hb').1, I.ok.exfs b hb', .inl hb', fun x c e => (I.ok.exf b hb').2 x c e, fun p q => ?_⟩
  rw [hp] at q
  cases q
theorem pe_lcAt {elt tg iter : Expr} {ifs : List Expr} {scope : Scope} {own : List (Str × Nat)} {pos : Pos} {wi : TI} {g : TG} {tt : Shared → Hp → TT} {te : Shared → Hp → TE} (hc : X.calm = true) (hN : X.N.Nodup) (hi : PI X tg iter wi) (ok : BlkOk X.N X.env.scope scope own)
    (hb : ∀ (s : Shared) (H : Hp) (pins : List (Addr × Obj)) (σ : L2.St) (C : Addr) (cl : List (Str × Addr)) (fp : List Addr), Inv X pins σ H s → (∀ b ∈ fp, FpOk X pins H b) →
      PG (X.blk s H scope (compEnvC scope cl C X.env) fp) tg g ∧ PTs (X.blk s H scope (compEnvC scope cl C X.env) fp) ifs (tt s H) ∧ PE (X.blk s H scope (compEnvC scope cl C X.env) fp) elt (te s H))
    (hs : ∀ x, foldedSetIterable iter X.env x = pure x := by intro _; rfl) :
    PE X (.ListComp elt [⟨tg, iter, ifs, 0⟩] scope pos) (tAt X wi g tt te (own.map (·.2))) := by
  refine ⟨fun pins s σ H Q I h => ?_⟩
  rw [eval_ListComp]
  have fr := free_there I ok
  refine wpAny_comprehension_free (use := none) rfl hs (closure_ok fr) ok.kind (fun y hy e => by rw [ok.uniq y hy, e]) (thn (hi.run pins s σ H _ I h) fun _ _ hx => thn hx fun _ sI hI => ?_)
  obtain ⟨it, fp, tn, J, Hi, rfl, II, T, stI, fI, q⟩ := hI
  refine wpAny_newObj_type (newEnv_comp ?_) (by show 0 ≤ sizeLine; decide)
  have nD : Hi sI.heap.objs.size = none := II.hok.fresh (Nat.le_refl _)
  have IL : Inv X pins σ (upd Hi sI.heap.objs.size (.lst [])) { sI with heap := sI.heap.push { cls := .type "list", data := .seq ([] : List Value).toArray } } :=
    II.laid (t' := sI.toks) (fun _ _ e => Heap.get?_push_of_some _ e) (Nat.le_refl _) ⟨Nat.zero_le _, [], 0, .nil, Heap.get?_push_size _ rfl⟩
  obtain ⟨W, ⟨m0, w0⟩, turn⟩ := q _ nD _ _ IL
  have fL : ∀ b ∈ fp, FpOk X pins (upd Hi sI.heap.objs.size (.lst [])) b ∧ b < (sI.heap.push { cls := .type "list", data := .seq ([] : List Value).toArray }).objs.size := by
    intro b hbm
    obtain ⟨o, e, _⟩ := T.obj _ _ stI b hbm
    have lt := Heap.lt_size e
    exact ⟨⟨by rw [upd_ne (Nat.ne_of_lt lt)]; exact (fI b hbm).1, (fI b hbm).2⟩, by rw [Heap.size_push]; exact Nat.lt_succ_of_lt lt⟩
  have stL : tn 0 (sI.heap.push { cls := .type "list", data := .seq ([] : List Value).toArray }) := T.keep _ _ _ stI fun _ _ _ e => Heap.get?_push_of_some _ e
  generalize sI.heap.objs.size = D at *
  generalize hsb : ({ sI with heap := sI.heap.push { cls := .type "list", data := .seq ([] : List Value).toArray } } : Shared) = sb at *
  have eb : sb.heap = sI.heap.push { cls := .type "list", data := .seq ([] : List Value).toArray } := by rw [← hsb]
  rw [← eb] at fL stL
  generalize upd Hi D (.lst []) = Hb at *
  have IB := block_start IL ok hN fL
  obtain ⟨pg, pt, pe⟩ := hb sb Hb pins σ sb.heap.objs.size (cellsFrom (sb.heap.objs.size + 1) scope.names (cloFrom X.env.cells scope.names [])) fp IL fun b hbm => (fL b hbm).1
  have stB : tn 0 (pushCells (sb.heap.push { cls := .type "dict", data := .dict #[] }) scope.names) := T.keep _ _ _ stL fun _ _ _ e => pushCells_keeps _ _ _ _ (Heap.get?_push_of_some _ e)
  have nfp : ∀ b ∈ fp, Hb b = none := fun b hbm => (fL b hbm).1.1
  generalize hce : compEnvC scope (cellsFrom (sb.heap.objs.size + 1) scope.names (cloFrom X.env.cells scope.names [])) sb.heap.objs.size X.env = ce at IB pg pt pe
  have ceq : ce.locals = sb.heap.objs.size := by rw [← hce]; rfl
  show codeAny _ _ (.compStart (.ListComp elt [⟨tg, iter, ifs, 0⟩] scope pos) 0 (.ref it) (.ref D) (compEnvC scope (cellsFrom (sb.heap.objs.size + 1) scope.names (cloFrom X.env.cells scope.names [])) sb.heap.objs.size X.env)) (compPost (model X.prog X.w) X.A X.xe none (EP X pins σ Q) (.ref D) sb.heap.objs.size) { sb with heap := pushCells (sb.heap.push { cls := .type "dict", data := .dict #[] }) scope.names }
  rw [hce]
  suffices loop : codeAny (model X.prog X.w) X.A (.compLoop (.ListComp elt [⟨tg, iter, ifs, 0⟩] scope pos) 0 (.ref it) (.ref D) ce) (compPost (model X.prog X.w) X.A X.xe none (EP X pins σ Q) (.ref D) sb.heap.objs.size) { sb with heap := pushCells (sb.heap.push { cls := .type "dict", data := .dict #[] }) scope.names } from
    codeAny_compStart_list loop (T.self X.A 0 _ _ _ stB loop)
  refine compLoop_any (fun n s' => ∃ i H', tn i s'.heap ∧ W i n H' ∧ Inv (X.blk sb Hb scope ce fp) [] (wipe σ (own.map (·.2))) H' s' ∧ ∀ b ∈ fp, H' b = none) ?_ m0 ⟨0, Hb, stB, w0, IB, nfp⟩
  rintro n sT ⟨i, HT, stT, wT, IT, nT⟩
  have okT := fp_still IT rfl rfl nT
  rcases turn i n HT wT with ⟨stop, fin⟩ | ⟨go, Nx, less, step⟩
  · -- no turn is left: back in the def
    refine thnF (T.done (X.blk sb Hb scope ce fp) rfl rfl rfl hc i [] sT _ HT (fun _ _ => False) IT okT stT stop) ?_
    rintro _ sE ⟨rfl, IE⟩
    have back : Inv X pins σ HT sE := IL.call' (ch := fp) IE.os IE.base IE.hok IE.bare fun b hbm => by
      obtain ⟨_, l1, _, l3, l4, l5⟩ := (fL b hbm).1
      exact ⟨l3, l1, l4, l5⟩
    have nC : HT sb.heap.objs.size = none := by
      have z : HT ce.locals = none := IE.free
      rw [ceq] at z
      exact z
    obtain ⟨m, nsE, _⟩ := IE.loc
    have nsE : sE.heap.Ns ce.locals m := nsE
    rw [ceq] at nsE
    refine ⟨m, nsE, fun hZ same => ?_⟩
    obtain ⟨c0, c1, _, c3, c4, c5⟩ := IL.fpOk (H' := HT) (Nat.le_refl _) nC
    exact ⟨.ref D, HT, back.turned (t' := sE.toks) (fun b o nb e => (same.2 b nb).trans e) c0 c1 c3 c4 c5, rfl, fin⟩
  · -- one turn
    refine thnF (T.item (X.blk sb Hb scope ce fp) rfl rfl rfl hc i [] sT _ HT (fun _ _ => False) IT okT stT go) ?_
    rintro _ s1 ⟨u, rfl, h1⟩
    refine thnF h1 ?_
    rintro _ s2 ⟨x, H2, I2, r2, y2, st2, n2⟩
    have P2 := I2.pinned (fp_still I2 rfl rfl n2) (T.obj _ _ st2)
    refine thnF (pg.run _ s2 _ H2 x u _ P2 r2 (step x H2 y2)) ?_
    rintro _ s3 ⟨σ3, H3, I3, same, q3⟩
    have ends : ∀ {s' : Shared} {H' : Hp}, Nx H' → Inv (X.blk sb Hb scope ce fp) ([] ++ pinsAt fp s2.heap) σ3 H' s' → ∃ m, m < n ∧ ∃ i H', tn i s'.heap ∧ W i m H' ∧ Inv (X.blk sb Hb scope ce fp) [] (wipe σ (own.map (·.2))) H' s' ∧ ∀ b ∈ fp, H' b = none := by
      intro s' H' nx I'
      obtain ⟨m, lt, w'⟩ := less H' nx
      have held : ∀ b ∈ fp, ∀ o, s2.heap.get? b = some o → s'.heap.get? b = some o ∧ H' b = none := by
        intro b hbm o e
        obtain ⟨z1, z2, _⟩ := I'.pin (b, o) (List.mem_append_right _ (List.mem_append_right _ (mem_pinsAt hbm e)))
        exact ⟨z1, z2⟩
      refine ⟨m, lt, i + 1, H', T.keep _ _ _ st2 fun b hbm o e => (held b hbm o e).1, w', (I'.unpinned (pins := [])).weak ?_ fun j v e => ?_, fun b hbm => ?_⟩
      · rw [← same, wipe_length]
      · rw [← same] at e
        exact (wipe_some e).1
      · obtain ⟨o, e, _⟩ := T.obj _ _ st2 b hbm
        exact (held b hbm o e).2
    refine thnF (pt.run _ s3 σ3 H3 _ I3 q3) ?_
    rintro b s4 ⟨H4, I4, q4⟩
    cases b
    · exact ends (by simpa using q4) I4
    · refine thnF (pe.run _ s4 σ3 H4 _ I4 (by simpa using q4)) ?_
      rintro z s5 ⟨yv, H5, I5, r5, acc, eD, few, nx⟩
      exact app_ok (X := X.blk sb Hb scope ce fp) I5 eD few r5 fun s6 I6 => ends nx I6
end
end SQ
/-! A lambda as a value that is kept; its call by a def to which it is handed, from a block. -/
namespace SQ
open PySem PySem.Spec PyProof.Rows L2 LamX
/-- at f stands that lambda, its code object at c -/
def LamO (f c : Addr) (q : Str) (params : Arguments) (body : Expr) (scope : Scope) (clo : List (Str × Addr)) : HO := .ext fun h => ∃ pm ctv : Value, h.get? f = some (PySem.W.kla_obj "<lambda>" q params body scope clo pm c ctv)
theorem lamO_ok {P : Program} {w : World} {H : Hp} {h : Heap} {f c : Addr} {q : Str} {params : Arguments} {body : Expr} {scope : Scope} {clo : List (Str × Addr)} {pm ctv : Value} (e : h.get? f = some (PySem.W.kla_obj "<lambda>" q params body scope clo pm c ctv)) :
    ObjOk P w H h f (LamO f c q params body scope clo) :=
  ⟨⟨pm, ctv, e⟩, ⟨_, e⟩, fun h1 h2 ⟨pm', ctv', e'⟩ k => ⟨pm', ctv', k _ e'⟩⟩
/-- all but those -/
def forg (fs : List Addr) (H : Hp) : Hp := fun b => if b ∈ fs then none else H b
theorem forg_le {fs : List Addr} {H : Hp} : ∀ b o, forg fs H b = some o → H b = some o := fun b o e => by
  unfold forg at e
  by_cases h : b ∈ fs
  · rw [if_pos h] at e
    cases e
  · rw [if_neg h] at e
    exact e
theorem forg_of {fs : List Addr} {H : Hp} {b : Addr} {o : HO} (e : H b = some o) (n : b ∉ fs) : forg fs H b = some o := by
  unfold forg
  rw [if_neg n]
  exact e
theorem forg_not {fs : List Addr} {H : Hp} {b : Addr} {o : HO} (e : forg fs H b = some o) : b ∉ fs := fun h => by
  unfold forg at e
  rw [if_pos h] at e
  cases e
def tLamV (X : Cx) (T : List (Addr × Str)) (params : Arguments) (body : Expr) (scope : Scope) : TE := fun _ H Q => ∃ fs : List Addr, Tabs T (forg fs H) ∧ (∀ x ∈ fs, H x ≠ none) ∧ ∀ (f c : Addr) (H1 : Hp), ExtN H H1 → Tabs T (forg (f :: fs) H1) → H f = none → c ∉ f :: fs → H1 f = some (LamO f c (X.env.qual ++ "<lambda>") params body scope (cloFrom X.env.cells scope.names [])) →
  H1 c = some (CodeO c (X.env.qual ++ "<lambda>")) → Q (.ref f) H1
section
variable {X : Cx}
theorem pe_lamV {T : List (Addr × Str)} {c P : Addr} {params : Arguments} {body : Expr} {scope : Scope} {pos : Pos} (TB : TabB X.base X.mg c P) (hcode : X.env.code = .ref c) (hm : (P, X.env.qual ++ "<lambda>") ∈ T) (hu : ∀ p ∈ T, p.1 = P → p.2 = X.env.qual ++ "<lambda>")
    (hdef : defaultsOf params X.env = ([], [])) (L : LamS X.env.scope scope) : PE X (.Lambda params body scope pos) (tLamV X T params body scope) := by
  refine ⟨fun pins s σ H Q I h => ?_⟩
  obtain ⟨fs, hT, hfs, k⟩ := h
  obtain ⟨ps, eP', tri, named⟩ := hT _ hm
  have eP := forg_le _ _ eP'
  have nPfs := forg_not eP'
  have atP : s.heap.get? P = some { cls := .none, data := .fields ps } := I.hok P _ eP
  have free := L.has I.ok
  refine PySem.W.kla_eval hdef ?_
  cases hc : codeAmong pos ps.toList with
  | some cv =>
    obtain ⟨c', rfl, hco⟩ := named pos cv hc
    refine PySem.W.kla_makeFunctionHit (mg := X.mg) (c := c) (P := P) (ps := ps) (closure_ok free) I.ok.glob (I.mod.glob.keeps I.bk) hcode (TB.code.keeps I.bk) atP tri hc (TB.bm.keeps I.bk) fun ctv h' tk kept hsz => ?_
    have I1 : Inv X pins σ H { s with heap := h', toks := tk } := I.kept kept
    have hnew := I1.hok.fresh (Nat.le_refl h'.objs.size)
    have I2 := I1.laid (t' := tk) (a := h'.objs.size) (fun _ _ e => Heap.get?_push_of_some _ e) (Nat.le_refl _) (lamO_ok (P := X.prog) (w := X.w) (Heap.get?_push_size h' (o := PySem.W.kla_obj "<lambda>" (X.env.qual ++ "<lambda>") params body scope (cloFrom X.env.cells scope.names []) ((X.mg "__name__").getD .none) c' ctv) rfl))
    have keep : ∀ b o, H b = some o → upd H h'.objs.size (LamO h'.objs.size c' (X.env.qual ++ "<lambda>") params body scope (cloFrom X.env.cells scope.names [])) b = some o := fun b o e => by
      rw [upd_ne (ne_of_none e hnew)]
      exact e
    have nfs : ∀ b o, forg fs H b = some o → b ∉ h'.objs.size :: fs := fun b o e h => by
      rcases List.mem_cons.mp h with z | z
      · have := forg_le _ _ e
        rw [z, hnew] at this
        cases this
      · exact forg_not e z
    have keepF : ∀ b o, forg fs H b = some o → forg (h'.objs.size :: fs) (upd H h'.objs.size (LamO h'.objs.size c' (X.env.qual ++ "<lambda>") params body scope (cloFrom X.env.cells scope.names []))) b = some o := fun b o e => forg_of (keep b o (forg_le _ _ e)) (nfs b o e)
    exact ⟨.ref h'.objs.size, _, I2, rfl, k _ c' _ (ExtN.of keep) (hT.ext keepF) hnew (nfs _ _ hco) upd_same (keep _ _ (forg_le _ _ hco))⟩
  | none =>
    refine PySem.W.kla_makeFunction (mg := X.mg) (c := c) (P := P) (ps := ps) (closure_ok free) I.ok.glob (I.mod.glob.keeps I.bk) hcode (TB.code.keeps I.bk) atP tri hc TB.gP (TB.bm.keeps I.bk) fun c' ctv h' tk kept old lt rec_ tab => ?_
    obtain ⟨c2, oc, us, t, ec, atC, dat, nam⟩ := rec_
    cases ec
    have nC : H c' = none := I.hok.fresh old
    have I1 := inv_table (t' := tk) (more := #[rawInt pos.line, rawInt pos.col, .ref c']) I eP kept tab old ⟨oc, us, t, atC, dat, nam⟩
    have hnew := I1.hok.fresh (Nat.le_refl h'.objs.size)
    have I2 := I1.laid (t' := tk) (a := h'.objs.size) (fun _ _ e => Heap.get?_push_of_some _ e) (Nat.le_refl _) (lamO_ok (P := X.prog) (w := X.w) (Heap.get?_push_size h' (o := PySem.W.kla_obj "<lambda>" (X.env.qual ++ "<lambda>") params body scope (cloFrom X.env.cells scope.names []) ((X.mg "__name__").getD .none) c' ctv) rfl))
    have eT : upd (upd H P (.tbl (ps ++ #[rawInt pos.line, rawInt pos.col, .ref c']))) c' (CodeO c' (X.env.qual ++ "<lambda>")) P = some (.tbl (ps ++ #[rawInt pos.line, rawInt pos.col, .ref c'])) := by rw [upd_ne (ne_of_none eP nC), upd_same]
    have keepN : ExtN H (upd (upd H P (.tbl (ps ++ #[rawInt pos.line, rawInt pos.col, .ref c']))) c' (CodeO c' (X.env.qual ++ "<lambda>"))) := fun b o e n => by
      rw [upd_ne (ne_of_none e nC), upd_ne (fun z => n ps (by rw [z, eP] at e; exact (Option.some.inj e).symm))]
      exact e
    have keep2 : ∀ b o, upd (upd H P (.tbl (ps ++ #[rawInt pos.line, rawInt pos.col, .ref c']))) c' (CodeO c' (X.env.qual ++ "<lambda>")) b = some o →
        upd (upd (upd H P (.tbl (ps ++ #[rawInt pos.line, rawInt pos.col, .ref c']))) c' (CodeO c' (X.env.qual ++ "<lambda>"))) h'.objs.size (LamO h'.objs.size c' (X.env.qual ++ "<lambda>") params body scope (cloFrom X.env.cells scope.names [])) b = some o := fun b o e => by
      rw [upd_ne (ne_of_none e hnew)]
      exact e
    have hnH : H h'.objs.size = none := I.hok.fresh (Nat.le_trans old (Nat.le_of_lt lt))
    have ncf : c' ≠ h'.objs.size := ne_of_none (o := CodeO c' (X.env.qual ++ "<lambda>")) upd_same hnew
    have nfs : ∀ b o, forg fs H b = some o → b ∉ h'.objs.size :: fs := fun b o e h => by
      rcases List.mem_cons.mp h with z | z
      · have := forg_le _ _ e
        rw [z, hnH] at this
        cases this
      · exact forg_not e z
    have nCfs : c' ∉ h'.objs.size :: fs := fun h => by
      rcases List.mem_cons.mp h with z | z
      · exact ncf z
      · exact hfs _ z nC
    have old2 : ∀ b o, forg fs H b = some o → (∀ ps, o ≠ .tbl ps) → forg (h'.objs.size :: fs) (upd (upd (upd H P (.tbl (ps ++ #[rawInt pos.line, rawInt pos.col, .ref c']))) c' (CodeO c' (X.env.qual ++ "<lambda>"))) h'.objs.size (LamO h'.objs.size c' (X.env.qual ++ "<lambda>") params body scope (cloFrom X.env.cells scope.names []))) b = some o :=
      fun b o e n => forg_of (keep2 _ _ (keepN b o (forg_le _ _ e) n)) (nfs b o e)
    have tabs : Tabs T (forg (h'.objs.size :: fs) (upd (upd (upd H P (.tbl (ps ++ #[rawInt pos.line, rawInt pos.col, .ref c']))) c' (CodeO c' (X.env.qual ++ "<lambda>"))) h'.objs.size (LamO h'.objs.size c' (X.env.qual ++ "<lambda>") params body scope (cloFrom X.env.cells scope.names [])))) := by
      intro p hp
      by_cases e : p.1 = P
      · rw [hu p hp e, e]
        refine ⟨_, forg_of (keep2 _ _ eT) (nfs _ _ eP'), by rw [Array.toList_append]; exact PySem.TriplesOk_snoc _ _ _ _ tri, fun p' cv hcv => ?_⟩
        rw [Array.toList_append] at hcv
        rcases among_app _ tri hcv with z | z
        · obtain ⟨c0, e1, e2⟩ := named p' cv z
          exact ⟨c0, e1, old2 _ _ e2 codeO_ne⟩
        · exact ⟨c', z, forg_of (keep2 _ _ upd_same) nCfs⟩
      · obtain ⟨ps', a1, a2, a3⟩ := hT p hp
        have a1' := forg_le _ _ a1
        refine ⟨ps', forg_of (keep2 _ _ (by rw [upd_ne (ne_of_none a1' nC), upd_ne e]; exact a1')) (nfs _ _ a1), a2, fun p' cv hcv => ?_⟩
        obtain ⟨c0, e1, e2⟩ := a3 p' cv hcv
        exact ⟨c0, e1, old2 _ _ e2 codeO_ne⟩
    exact ⟨.ref h'.objs.size, _, I2, rfl, k _ c' _ (keepN.trans (ExtN.of keep2)) tabs hnH nCfs upd_same (keep2 _ _ upd_same)⟩
end
end SQ
/-! A kept lambda is handed to a def, from a block. -/
namespace SQ
open PySem PySem.Spec PyProof.Rows L2 LamX
def offA (H : Hp) (a : Addr) : Hp := fun b => if b = a then none else H b
theorem offA_at {H : Hp} {a : Addr} : offA H a a = none := if_pos rfl
theorem offA_of {H : Hp} {a b : Addr} (n : b ≠ a) : offA H a b = H b := if_neg n
theorem offA_none {H : Hp} {a b : Addr} (n : H b = none) : offA H a b = none := by
  by_cases e : b = a
  · rw [e]
    exact offA_at
  · rw [offA_of e]
    exact n
/-- what is only remembered may be forgotten -/
theorem forget {X : Cx} {pins : List (Addr × Obj)} {σ : L2.St} {H : Hp} {s : Shared} {f : Addr} {φ : Heap → Prop} (I : Inv X pins σ H s) (e : H f = some (.ext φ)) : Inv X pins σ (offA H f) s := by
  have ne : ∀ b u, H b = some u → (∀ φ, u ≠ .ext φ) → b ≠ f := fun b u h n z => by
    rw [z, e] at h
    exact n _ (Option.some.inj h).symm
  have stay : ∀ b u, H b = some u → (∀ φ, u ≠ .ext φ) → offA H f b = some u := fun b u h n => by
    rw [offA_of (ne b u h n)]
    exact h
  refine ⟨I.ok, I.os, I.bare, ⟨I.base.keep, I.base.slot, fun b o h n x => offA_none (I.base.free b o h n x), I.base.there, fun b xs h => stay b _ (I.base.tups b xs h) (fun _ z => nomatch z), fun b o u h => stay b _ (I.base.frzs b o u h) (fun _ z => nomatch z), fun b ps h => ?_⟩,
    I.loc, I.cell, offA_none I.free, fun x c h => offA_none (I.freeC x c h), fun p hp => ?_, fun b o h => ?_, I.len⟩
  · obtain ⟨more, z⟩ := I.base.tbls b ps h
    exact ⟨more, stay b _ z (fun _ q => nomatch q)⟩
  · obtain ⟨h1, h2, h3⟩ := I.pin p hp
    exact ⟨h1, offA_none h2, h3⟩
  · have nb : b ≠ f := fun z => by
      rw [z, offA_at] at h
      cases h
    rw [offA_of nb] at h
    exact (I.hok b o h).stay (fun _ _ _ q => q) (fun c q => stay c _ q (fun _ z => nomatch z)) fun c xs q => stay c _ q (fun _ z => nomatch z)
/-- the kept lambda's body may be read in the maker's frame -/
structure Body (X : Cx) (k : Nat) (params : Arguments) (body : Expr) (scope : Scope) (t : XK → TE) : Prop where
  L : LamS X.env.scope scope
  bind : ∀ (q : Str) (cl : List (Str × Addr)) (pm cv ctv : Value), bindArgs (PySem.W.kla_fn "<lambda>" q params body scope cl pm cv ctv) ⟨[], []⟩ = pure []
  read : ∀ (A : Around) (outer : List Env) (s : Shared) (H : Hp) (E : XK) (f c' : Addr), Room k (A.deeper (lamEnv X scope s.heap.objs.size f c')) → PE (lamCx X A outer s H E scope f c') body (t E)
/-- x(y), y one of X's kept lambdas; TT: what x makes of its reading -/
def tKept (X : Cx) (k : Nat) (TT : (XK → Hp → VK → Prop) → Hp → VK → Prop) (i : Nat) (sb : Shared) (Hb : Hp) : TE := fun σb H Q => ∃ (σ : L2.St) (f c : Addr) (params : Arguments) (body : Expr) (scope : Scope) (t : XK → TE), Inv X [] σ Hb sb ∧ Body X k params body scope t ∧ σb[i]? = some (some (.ref f)) ∧
  H f = some (LamO f c (X.env.qual ++ "<lambda>") params body scope (cloFrom X.env.cells scope.names [])) ∧ H c = some (CodeO c (X.env.qual ++ "<lambda>")) ∧ c ≠ f ∧ TT (fun E H' Q' => t E σ H' Q') (offA H f) Q
section
variable {X : Cx}
theorem pe_kept {TT : (XK → Hp → VK → Prop) → Hp → VK → Prop} {x a y : Str} {g : Addr} {k i : Nat} {pg : Arguments} {bg : List Stmt} {sg : Scope} {dV kV doc pm cdv ct oc : Value} {an od : Option Addr} {osl : Array (Option Value)} {Ng : List Str} {sb : Shared} {Hb : Hp} {scope : Scope} {ce : Env} {fp : List Addr}
    {pins : List (Addr × Obj)} {p p1 pos : Pos} (hfp : ∀ b ∈ fp, FpOk X pins Hb b) (hg : Gl (X.blk sb Hb scope ce fp) x) (hm : X.mg x = some (.ref g)) (hk : PySem.W.keepIn X.K (.ref g) = true)
    (lk : X.K.lookup g = some ⟨oc, od, .func (PySem.W.fnOf x x pg bg sg dV kV doc pm an cdv ct), osl⟩) (hcg : PySem.W.codeIn X.K cdv x = true) (hbd : L2.Binds X.K (PySem.W.fnOf x x pg bg sg dV kV doc pm an cdv ct) [a] []) (Sg : FnScope Ng [a] sg) (hNg : Ng[0]? = some a) (hva : Vis sg a)
    (hG : GivesTo X Ng x sg g cdv bg a (X.env.qual ++ "<lambda>") TT) (hr : Room (k + 2) X.A) (hy : PE (X.blk sb Hb scope ce fp) (.Name y p1) (tVar i)) (hna : starEach [.Name y p1] (X.blk sb Hb scope ce fp).env = (false, eval (.Name y p1) (X.blk sb Hb scope ce fp).env) :: starEach [] (X.blk sb Hb scope ce fp).env := by rfl)
    (hdb : (x == ("__debug__" : Str)) = false := by decide) (hd : (a == ("__debug__" : Str)) = false := by decide) (hcd : (a == ("__classdict__" : Str)) = false := by decide) :
    PE (X.blk sb Hb scope ce fp) (.Call (.Name x p) [.Name y p1] [] pos) (tKept X k TT i sb Hb) := by
  refine ⟨fun pb s σb H Q I h => ?_⟩
  obtain ⟨σ, f, c, params, body, sl, t, I0, B, hi, hf, hc, ncf, ht⟩ := h
  refine wpAny_Call_Name_kw (ld_glob I hg hm ?_ hdb)
  refine PySem.W.callWith_K (h₀ := X.base) I.ok.mod.kin hk ?_ hna (by rfl)
  rw [hna]
  refine Calls.spliced_cons (thn (hy.run pb _ σb H (fun v H1 => v = .ref f ∧ H1 = H) I ⟨.ref f, hi, rfl, rfl⟩) ?_)
  rintro u s1 ⟨v, H1, I1, r1, rfl, rfl⟩
  obtain rfl : u = Value.ref f := r1
  refine Calls.spliced_nil ⟨I1.kIn, ?_⟩
  have J1 := forget I1 hf
  have IX : Inv X [] σ H1 s1 := I0.call' (ch := fp) I1.os I1.base I1.hok I1.bare fun b hbm => by
    obtain ⟨_, l1, _, l3, l4, l5⟩ := hfp b hbm
    exact ⟨l3, l1, l4, fun q hq => l5 q (by
      rw [List.append_nil] at hq
      exact List.mem_append_left _ hq)⟩
  have IF := forget IX hf
  obtain ⟨⟨pm', ctv, atf⟩, _, _⟩ := I1.hok f _ hf
  have nfr : f ∉ frs X.stack := fun z => by
    have := IX.stkFree f z
    rw [hf] at this
    cases this
  have hc' : offA H1 f c = some (CodeO c (X.env.qual ++ "<lambda>")) := by rw [offA_of ncf]; exact hc
  have rc : codeAny (model X.prog X.w) X.A (.call (.ref g) ⟨[.ref f], []⟩) (CR C8.CX0 X.stack X.prog X.w (offA H1 f) s1 Q C8.E0) s1 := by
    refine run_ofS (N := Ng) (ps := [a]) (us := [.ref f]) (vs := [.ref f]) lk hcg Sg hr IF.env0 (hbd s1 [.ref f] I1.kIn rfl) (.cons rfl .nil) rfl fun hr' => ?_
    obtain ⟨t', ht', hq'⟩ := hG f c s1 (offA H1 f) Q (fun E H' Q' => t E σ H' Q') (fun W pn xe E p1 p2 tk hW => pe_act (i := 0) IF B.L atf offA_at nfr (B.bind _ _ _ _ _) tk hW hr' (fun A outer s H hr2 => B.read A outer s H E f c hr2) hNg hva hd hcd) hc' ht
    exact ⟨t', ht'.nox, hq'⟩
  refine wpAny_call (codeAny_mono rc fun r s2 hq => ?_)
  cases r with
  | error e => exact (show False from hq).elim
  | ok fl =>
    cases fl with
    | ret u => exact J1.after hq
    | next => exact False.elim hq
    | brk => exact False.elim hq
    | cont => exact False.elim hq
end
end SQ
/-! what a work is refused with. -/
namespace K02
open PySem L2 FX SQ LamX
abbrev sErr : Stmt := top 43
/-- the error of a class is caught and told -/
def Hit (C : Addr) (fl : Str) (wd : Str) (Q : VK) (cls : Value) (d : Option Addr) (H : Hp) : Prop := cls = .ref C ∧ ∃ dd v, d = some dd ∧ H dd = some (.xd [(fl, v)]) ∧ ∀ t, H t = none → Q (.ref t) (upd H t (.tup [.str wd, v]))
def ErrW (cB cO : Addr) (Q : VK) : XK := fun cls d H => Hit cB "at" "table" Q cls d H ∨ Hit cO "at" "operation" Q cls d H
def TTerr (cB cO : Addr) : (XK → Hp → VK → Prop) → Hp → VK → Prop := fun tl H Q => tl (ErrW cB cO Q) H (fun _ H' => Q .non H')
def suErr (C : Addr) (fl wd : Str) : Su := fun a cls d => tRet (tTup (tCons (tC (.str wd)) (tCons (tFld C fl a cls d (tVar 1)) tNil)))
theorem suErr_ok {C : Addr} {fl wd : Str} {Q : VK} {d : Option Addr} {H : Hp} {a : Addr} {D : Ends} {σ : L2.St} (h : Hit C fl wd Q (.ref C) d H) (hrt : D.rt = Q) (hs : σ[1]? = some (some (.ref a))) : suErr C fl wd a (.ref C) d D σ H := by
  obtain ⟨_, dd, v, rfl, ed, k⟩ := h
  refine ⟨_, hs, rfl, rfl, dd, v, rfl, ed, (by show 2 ≤ sizeLine; decide), fun t ht => ?_⟩
  rw [hrt]
  exact k t ht
abbrev NErr : List Str := ["work", "e"]
theorem scErr : FnScope NErr ["work"] (defScope sErr) := ⟨rfl, rfl, rfl, by decide +kernel, rfl, by decide +kernel, by decide +kernel⟩
section
variable {K : PySem.W.Frag} {mg : Str → Option Value} {B cB iB cO iO cV iV cS iS : Addr}
theorem err_gives {X : Cx} {g : Addr} {cdg : Value} {q : Str} (T : Ers X.K X.mg B cB iB cO iO cV iV cS iS) : GivesTo X NErr "_law_error" (defScope sErr) g cdg (defBody sErr) "work" q (TTerr cB cO) := by
  intro f c' s H Q tl act hc h
  refine ⟨_, pss_cons (ps_tryCl (X := (cxOf C8.CX0 X.prog X.w X.K X.mg X.base NErr "_law_error" (defScope sErr) g cdg X.A X.stack s H C8.E0).nox) (Wout := fun _ _ _ _ => False)
      (l := [(.ref cB, some 1, suErr cB "at" "table"), (.ref cO, some 1, suErr cO "at" "operation")])
      (tb := fun W D σ H => ∃ Ech : XK, (∀ cls d σ' H', Ech cls d H' → σ'.length = 2 → W cls d σ' H') ∧ σ[0]? = some (some (.ref f)) ∧ H c' = some (CodeO c' q) ∧ tl Ech H (fun _ H' => D.nx σ H'))
      rfl rfl scErr.nd LamX.takes0 (fun W pn xe tk _ => ?_)
      (by exact (Cl.named (i := 1) rfl rfl ⟨rfl, by decide, Or.inl T.b.T.gC⟩ (fun a oe cls d pn hz hf => pss_one (ps_ret (pe_tup (by exact (pa_cons pe_str (pa_cons (pe_errfield T.b.T T.b.U hz hf (pv 1)) pa_nil))))))
        (Cl.named (i := 1) rfl rfl ⟨rfl, by decide, Or.inl T.o.T.gC⟩ (fun a oe cls d pn hz hf => pss_one (ps_ret (pe_tup (by exact (pa_cons pe_str (pa_cons (pe_errfield T.o.T T.o.U hz hf (pv 1)) pa_nil))))))
        Cl.nil))))
      (pss_one (ps_ret pe_non)), ?_⟩
  · refine ⟨fun pins s' σ H' D I h' => ?_⟩
    obtain ⟨Ech, hW, h1, h2, h3⟩ := h'
    have tk' : Takes ((cxOf C8.CX0 X.prog X.w X.K X.mg X.base NErr "_law_error" (defScope sErr) g cdg X.A X.stack s H C8.E0).tr pn xe) (fun cls d σ' H' => σ'.length = 2 → W cls d σ' H') := fun e s'' x => by
      obtain ⟨a, B, sI, pins', σ', H'', cls, d, e1, J, r1, r2, r3, r4, r5, r6, w⟩ := x
      exact tk e s'' ⟨a, B, sI, pins', σ', H'', cls, d, e1, J, r1, r2, r3, r4, r5, r6, w J.len⟩
    have hp := fun p1 p2 => act (fun cls d σ' H' => σ'.length = 2 → W cls d σ' H') pn xe Ech p1 p2 tk' hW
    exact (pss_one (ps_expr (hp _ _))).run pins s' σ H' D I ⟨h1, h2, h3⟩
  · refine ⟨ErrW cB cO Q, fun cls d σ' H' he hl => ?_, rfl, hc, h⟩
    have s1 : ∀ a : Addr, (σ'.set 1 (some (.ref a)))[1]? = some (some (V.ref a)) := fun a => by rw [List.getElem?_set_self (by omega)]
    have no : ∀ {x y : Str} {C C' : Addr}, ErrTxt X.K X.mg B x C → ErrTxt X.K X.mg B y C' → x ≠ y → y ≠ "FoldError" → PySem.W.exmOne X.K (.ref C) (.ref C') = some false := fun a b n nb => a.other T.S b n nb
    rcases he with he | he
    all_goals (obtain rfl := he.1)
    · exact ⟨true, T.b.T.own, fun _ a _ => suErr_ok he rfl (s1 a), fun z => nomatch z⟩
    · exact ⟨false, no T.o.T T.b.T (by decide) (by decide), fun z => (nomatch z), fun _ => ⟨true, T.o.T.own, fun _ a _ => suErr_ok he rfl (s1 a), fun z => nomatch z⟩⟩
end
end K02
/-! A call whose arguments all have names. -/
namespace SQ
open PySem PySem.Spec PyProof.Rows L2
def tCallK0 (sp : Sp) (gV : List V → List V → List V) (E : XK) (tk : TA) : TE := fun σ H Q => tk σ H fun zs H2 => sp (gV [] zs) H2 Q E
variable {X : Cx} {CX : CXT} {k : Nat} {f : Addr} {fd : FuncData} {ps ks : List Str} {sp : Sp} {E : XK} {x : Str} {p pos : Pos} {g : List Value → List Value → List Value} {gV : List V → List V → List V} {kws : List Keyword} {tk : TA}
theorem pe_callK0 (F : FnOk X.prog X.w X.K X.mg X.base CX k f fd ps sp) (hr : Room k X.A) (hg : Gl X x) (hm : X.mg x = some (.ref f)) (hk : PySem.W.keepIn X.K (.ref f) = true) (hb : KBinds X.K fd ps ks g gV) (hx : Passes CX X E) (hkw : PK X kws tk)
    (hall : (backToKw pos (keywordEach kws X.env)).all (·.1.isSome) = true := by rfl) (hks : (backToKw pos (keywordEach kws X.env)).filterMap (·.1) = ks := by rfl) (hdb : (x == ("__debug__" : Str)) = false := by decide)
    (hpl : ((backTo pos (starEach [] X.env)).any (·.1) || (backToKw pos (keywordEach kws X.env)).any (·.1.isNone)) = false := by rfl) : PE X (.Call (.Name x p) [] kws pos) (tCallK0 sp gV E tk) := by
  refine ⟨fun pins s σ H Q I h => ?_⟩
  refine wpAny_Call_Name_kw (ld_glob I hg hm ?_ hdb)
  refine PySem.W.callWith_KW0 (h₀ := X.base) I.ok.mod.kin hk hall (thn (hkw.run pos pins s σ H _ I h) ?_) hpl
  rintro ws s2 ⟨zs, H2, I2, rz, q2⟩
  refine ⟨I2.kIn, ?_⟩
  rw [hks]
  exact run_fnk F hr hb hx I2 .nil rz q2
/-- nothing is raised -/
theorem pass_never {P : Program} {w : World} (h1 : X.prog = P) (h2 : X.w = w) : Passes (L2.CX P w) X (fun _ _ _ => False) := by
  subst h1 h2
  exact passes_call LamX.takes0 (fun _ _ _ _ z => z)
end SQ
namespace K02
open PySem L2 FX SQ LamX
section
variable {K : PySem.W.Frag}
/-- (held, operation, size) by their names -/
def perm3 {α : Type} : List α → List α → List α := fun us ws => match us, ws with
  | [], [h, o, s] => [s, o, h]
  | _, _ => []
theorem kb_HT {f : Addr} {fd : FuncData} (F : Fun K "held_table" "held_table" sHT f fd) : KBinds K fd ["size", "operation", "held"] ["held", "operation", "size"] perm3 perm3 := by
  obtain ⟨oc, od, kV, doc, pm, an, cdv, ct, osl, rfl, _, _⟩ := F.ex
  refine ⟨fun s us ws _ hl => ?_, fun r rz => ?_⟩
  · match us, ws, hl with
    | [], [h, o, z], _ => exact BindsTo.of_eq (by rfl)
  · cases r with
    | cons a b => exact .nil
    | nil => cases rz with
      | nil => exact .nil
      | cons a rz => cases rz with
        | nil => exact .nil
        | cons b rz => cases rz with
          | nil => exact .nil
          | cons c rz => cases rz with
            | nil => exact .cons c (.cons b (.cons a .nil))
            | cons d rz => exact .nil
end
end K02
/-! held tables and settled answers are right. -/
namespace K02
open PySem L2 FX SQ LamX
/-- all but p and the code tables -/
def core (p : Addr) (H : Hp) : Hp := fun b => if b = p then none else match H b with
  | some (.tbl _) => none
  | some (.ext _) => none
  | x => x
def Keep (p : Addr) (H H' : Hp) : Prop := ∀ c o, H c = some o → c ≠ p → (∀ ps, o ≠ .tbl ps) → (∀ φ, o ≠ .ext φ) → H' c = some o
theorem core_le {p : Addr} {H : Hp} : Same (core p H) H := fun c o e => by
  unfold core at e
  by_cases h : c = p
  · rw [if_pos h] at e
    cases e
  rw [if_neg h] at e
  cases q : H c with
  | none =>
    rw [q] at e
    cases e
  | some u =>
    rw [q] at e
    cases u <;> first | exact e | cases e
theorem Keep.core {p : Addr} {H H' : Hp} (k : Keep p H H') : Same (core p H) (core p H') := fun c o e => by
  have e1 := core_le c o e
  unfold K02.core at e ⊢
  by_cases h : c = p
  · rw [if_pos h] at e
    cases e
  rw [if_neg h] at e ⊢
  have nt : ∀ ps, o ≠ .tbl ps := fun ps z => by
    rw [e1, z] at e
    cases e
  have nx : ∀ φ, o ≠ .ext φ := fun φ z => by
    rw [e1, z] at e
    cases e
  rw [k c o e1 h nt nx]
  cases o <;> first | rfl | exact absurd rfl (nt _) | exact absurd rfl (nx _)
theorem Keep.refl (p : Addr) (H : Hp) : Keep p H H := fun _ _ e _ _ _ => e
theorem Keep.trans {p : Addr} {H H1 H2 : Hp} (a : Keep p H H1) (b : Keep p H1 H2) : Keep p H H2 := fun c o e n t x => b c o (a c o e n t x) n t x
theorem Keep.of {p : Addr} {H H' : Hp} (s : Same H H') : Keep p H H' := fun c o e _ _ _ => s c o e
theorem Keep.but {p : Addr} {H H' : Hp} (b : But p H H') : Keep p H H' := fun c o e n _ _ => b c o e n
theorem Keep.ext {p : Addr} {H H' : Hp} (b : ExtN H H') : Keep p H H' := fun c o e _ t _ => b c o e t
theorem Keep.offA {p f : Addr} {H : Hp} {φ : Heap → Prop} (e : H f = some (.ext φ)) : Keep p H (offA H f) := fun c o q _ _ x => by
  rw [offA_of fun z => by rw [z, e] at q; exact x _ (Option.some.inj q).symm]
  exact q
theorem Box.ext {p : Addr} {H H' : Hp} (b : Box H p) (e : ExtN H H') : Box H' p := by
  obtain ⟨x, y, z, q⟩ := b
  exact ⟨x, y, z, e _ _ q fun ps h => nomatch h⟩
theorem Tabs.same {T : List (Addr × Str)} {H H' : Hp} (t : Tabs T H) (s : Same H H') : Tabs T H' := t.ext s
theorem Tabs.but {T : List (Addr × Str)} {p : Addr} {H H' : Hp} (t : Tabs T H) (hb : Box H p) (s : But p H H') : Tabs T H' := by
  obtain ⟨x, y, z, q⟩ := hb
  intro u hu
  obtain ⟨ps, h1, h2, h3⟩ := t u hu
  refine ⟨ps, s _ _ h1 fun z => (by rw [z, q] at h1; cases h1), h2, fun pos cv hc => ?_⟩
  obtain ⟨c, e1, e2⟩ := h3 pos cv hc
  exact ⟨c, e1, s _ _ e2 fun z => by rw [z, q] at e2; unfold CodeO at e2; cases e2⟩
theorem shaped_held (c : Nat) (ns : List Nat) : SeqAt.shaped (.tuple [nD c, .tuple (ns.map nD)]) = true := by
  unfold SeqAt.shaped
  rw [Bool.and_eq_true]
  refine ⟨?_, decide_eq_true ?_⟩
  · have := lay_n ns
    simp [PyData.canLay0, PyData.canLayAll0, nD] at this ⊢
    exact this
  · have := depth_n ns
    simp only [PyData.depth, PyData.depthAll, nD]
    omega
/-- a def whose code object is known -/
structure FunC (K : PySem.W.Frag) (x : Str) (st : Stmt) (f c : Addr) (fd : FuncData) : Prop where
  ex : ∃ oc od kV doc pm an ct osl, fd = PySem.W.fnOf x x (defArgs st) (defBody st) (defScope st) .none kV doc pm an (.ref c) ct ∧ K.lookup f = some ⟨oc, od, .func fd, osl⟩ ∧ PySem.W.codeIn K (.ref c) x = true
  kp : PySem.W.keepIn K (.ref f) = true
end K02
namespace K02
open PySem L2 FX SQ LamX
theorem FunC.ok {P : Program} {w : World} {K : PySem.W.Frag} {mg : Str → Option Value} {base : Heap} {x : Str} {st : Stmt} {f c : Addr} {fd : FuncData} {N ps : List Str} {k : Nat} {sp : Sp} (F : FunC K x st f c fd) (S : FnScope N ps (defScope st)) (len : ∀ vs H Q E, sp vs H Q E → vs.length = ps.length)
    (hb : ∀ (A : Around) (outer : List Env) (s : Shared) (H : Hp) (vs : List V) (Q : VK) (E : XK), Room k (A.deeper (PyProof.Rows.envOfC x (defScope st) s.heap.objs.size f (.ref c))) → sp vs H Q E →
      ∃ t, PSs (cxOf CX0 P w K mg base N x (defScope st) f (.ref c) A outer s H E).nox (defBody st) t ∧ t { nx := fun _ H' => Q .non H', rt := Q } (L2.start N vs) H) : FnOk P w K mg base CX0 (k + 1) f fd ps sp := by
  obtain ⟨oc, od, kV, doc, pm, an, ct, osl, rfl, lk, hcd⟩ := F.ex
  refine fn_of lk hcd S len fun A outer s H vs Q E hr hsp => ?_
  obtain ⟨t, h, q⟩ := hb A outer s H vs Q E hr hsp
  exact ⟨t, h.nox, q⟩
end K02
/-! on which places an operation hangs. -/
namespace K02
open PySem L2 FX SQ
theorem cut_lo (xs : List V) {j : Nat} (h : j ≤ xs.length) : cutV xs none (some (j : Int)) = xs.take j := by
  unfold cutV
  rw [HT.sIx_none, HT.sIx_nat, List.drop_zero, Nat.sub_zero, Nat.min_eq_left h]
theorem cut_hi (xs : List V) (j : Nat) : cutV xs (some ((j : Nat) : Int)) none = xs.drop j := by
  unfold cutV
  rw [HT.sIx_none, HT.sIx_nat]
  by_cases h : j ≤ xs.length
  · rw [Nat.min_eq_left h]
    exact List.take_of_length_le (by rw [List.length_drop]; exact Nat.le_refl _)
  · rw [Nat.min_eq_right (by omega), Nat.sub_self, List.take_zero, List.drop_of_length_le (by omega)]
def stO (s n p : Nat) : Nat := s ^ (n - 1 - p)
def lowI (s st i : Nat) : Nat := i - i / st % s * st
theorem low_le (s st i : Nat) : i / st % s * st ≤ i := Nat.le_trans (Nat.mul_le_mul_right _ (Nat.mod_le _ _)) (Nat.div_mul_le_self i st)
theorem low_int (s st i : Nat) : (i : Int) - (i : Int) / (st : Int) % (s : Int) * (st : Int) = ((lowI s st i : Nat) : Int) := by
  unfold lowI
  rw [Int.ofNat_sub (low_le s st i), Int.natCast_mul, Int.natCast_emod, Int.natCast_ediv]
/-- whether it hangs on a place -/
def hangsA (s n : Nat) (as : List Nat) (p : Nat) : Bool := (List.range (s ^ n)).any fun i => !decide (as.getD i 0 = as.getD (lowI s (stO s n p) i) 0)
def hungN (s n : Nat) (as : List Nat) : List Nat := (List.range n).filter (hangsA s n as)
section
variable {P : Program} {w : World} {K : PySem.W.Frag} {mg : Str → Option Value} {base : Heap}
abbrev sProd : Stmt := top 8
abbrev sHangsA : Stmt := top 14
abbrev sHung : Stmt := top 29
def spProd (K : PySem.W.Frag) : Sp := fun vs H Q _ => ∃ (v : V) (m s : Nat), vs = [v] ∧ Dp K H v (.list ((List.replicate m s).map nD)) ∧ m ≤ 8 ∧ s ≤ 8 ∧ Q (.int (s ^ m : Nat)) H
theorem scProd : FnScope ["numbers", "product_now", "number"] ["numbers"] (defScope sProd) := ⟨rfl, rfl, rfl, by decide +kernel, rfl, by decide +kernel, by decide +kernel⟩
theorem ok_prod {f : Addr} {fd : FuncData} (F : Fun K "product_of" "product_of" sProd f fd) : FnOk P w K mg base CX0 1 f fd ["numbers"] (spProd K) := by
  refine F.ok scProd (fun vs H Q E h => ?_) (fun cdv A outer s H vs Q E hr h => ?_)
  · obtain ⟨v, m, s, rfl, _⟩ := h
    rfl
  · obtain ⟨v, m, s, rfl, hd, m8, s8, k⟩ := h
    refine ⟨_, pss_cons (ps_set (i := 1) scProd.nd rfl (Or.inl rfl) pe_int)
      (pss_cons (ps_for PassesOwn.never rfl (pi_list (pv 0)) (pg_name (i := 2) scProd.nd rfl (Or.inl rfl))
        (pss_one (ps_aug (i := 1) scProd.nd rfl (Or.inl rfl) (pv 2) iop_mul)))
      (pss_one (ps_ret (pv 1)))), ?_⟩
    obtain ⟨a, xs, rfl, q, r⟩ := dp_list hd
    have lx : xs.length = m := by rw [dpAll_len r, List.length_map, List.length_replicate]
    refine ⟨_, rfl, a, rfl, ⟨_, q⟩, for_list (K := K) (a := a) (xs := xs) (fun i σ H' => ∃ u : Option V, σ = [some (.ref a), some (.int (pow' (s : Int) i)), u] ∧ H' = H) ⟨none, rfl, rfl⟩ (fun i σ H' _ h => by obtain ⟨u, _, rfl⟩ := h; exact q) ?_ ?_⟩
    · rintro i x σ H' hx ⟨u, rfl, rfl⟩
      obtain ⟨dx, hdx, hxd⟩ := dpAll_get r hx
      obtain rfl : x = .int (s : Nat) := by
        rw [List.getElem?_map, List.getElem?_replicate] at hdx
        split at hdx
        · cases hdx
          cases hxd
          rfl
        · cases hdx
      exact ⟨_, rfl, _, rfl, _, _, rfl, rfl, .inr ⟨by omega, by omega⟩, _, rfl, rfl⟩
    · rintro σ H' ⟨u, rfl, rfl⟩
      refine ⟨_, rfl, ?_⟩
      rw [lx, pow_nat]
      exact k
def spHangs (K : PySem.W.Frag) : Sp := fun vs H Q _ => ∃ (vz va : V) (s n p : Nat) (as : List Nat), vs = [vz, va, .int p] ∧ Dp K H vz (.list ((List.replicate n s).map nD)) ∧ Dp K H va (.tuple (as.map nD)) ∧ 2 ≤ s ∧ s ≤ 8 ∧ n ≤ 3 ∧ p < n ∧ as.length = s ^ n ∧
  ∀ H', Same H H' → Q (.bl (hangsA s n as p)) H'
abbrev NHangs : List Str := ["sizes", "answers", "place", "step", "spot", "answer"]
theorem scHangs : FnScope NHangs ["sizes", "answers", "place"] (defScope sHangsA) := ⟨rfl, rfl, rfl, by decide +kernel, rfl, by decide +kernel, by decide +kernel⟩
theorem any_to {n : Nat} {p : Nat → Bool} : ∀ {i : Nat}, (List.range (i + 1)).any p = ((List.range i).any p || p i) := by
  intro i
  rw [List.range_succ, List.any_append, List.any_cons, List.any_nil, Bool.or_false]
theorem ok_hangs {f fP : Addr} {fd fdP : FuncData} (F : Fun K "hangs_at" "hangs_at" sHangsA f fd) (Z : Bi mg) (FP : At K mg "product_of" sProd fP fdP ["numbers"]) : FnOk P w K mg base CX0 2 f fd ["sizes", "answers", "place"] (spHangs K) := by
  have GP : FnOk P w K mg base CX0 1 fP fdP ["numbers"] (spProd K) := ok_prod FP.F
  refine F.ok scHangs (fun vs H Q E h => ?_) (fun cdv A outer sh H vs Q E hr h => ?_)
  · obtain ⟨vz, va, s, n, p, as, rfl, _⟩ := h
    rfl
  · obtain ⟨vz, va, s, n, p, as, rfl, hz, ha, s2, s8, n3, hp, la, k⟩ := h
    refine ⟨_, pss_cons (ps_set (i := 3) scHangs.nd rfl (Or.inl rfl) (pe_call GP (hr.mono (by decide)) rfl FP.g FP.F.kp FP.b .nil pass0 (by exact (pa_cons (pe_slice sl_list (pv 0) (po_some (pe_op op_add (pv 2) pe_int)) po_none) pa_nil))))
      (pss_cons (ps_for PassesOwn.never rfl (pi_enum2 (by rfl) Z.enumerate (pa_cons (pv 1) pa_nil)) (pg_tup rfl (pgs_cons (pg_name (i := 4) scHangs.nd rfl (Or.inl rfl)) (pgs_cons (pg_name (i := 5) scHangs.nd rfl (Or.inl rfl)) pgs_nil)))
        (pss_one (ps_if (pt_cmpR op_ne (pv 5) (pe_ix ix_tup (pv 1) (pe_op op_sub (pv 4) (pe_op op_mul (pe_op op_mod (pe_op op_fdiv (pv 4) (pv 3)) (pe_ix ix_list (pv 0) (pv 2) (fun _ _ => rfl))) (pv 3))) (fun _ _ => rfl)) (nomark _)) (pss_one (ps_ret pe_bl)) pss_nil)))
      (pss_one (ps_ret pe_bl))), ?_⟩
    obtain ⟨az, zs, rfl, qz, rz⟩ := dp_list hz
    obtain ⟨aa, xs, rfl, qa, ra⟩ := dp_tup ha
    obtain rfl : zs = (List.replicate n s).map fun n : Nat => V.int n := dpAll_eqn rz
    obtain rfl : xs = as.map fun n : Nat => V.int n := dpAll_eqn ra
    refine ⟨_, rfl, _, rfl, _, _, rfl, rfl, ((p + 1 : Nat) : Int), (by show V.int ((p : Int) + 1) = _; rfl), az, _, rfl, qz, fun l hl => ?_⟩
    rw [cut_hi]
    have s1 := same_new (o := .lst (((List.replicate n s).map fun n : Nat => V.int n).drop (p + 1))) hl
    have ed : ((List.replicate n s).map fun n : Nat => V.int n).drop (p + 1) = (List.replicate (n - 1 - p) s).map fun n : Nat => V.int n := by
      rw [← List.map_drop, List.drop_replicate]
      congr 2
      omega
    refine ⟨.ref l, n - 1 - p, s, rfl, .lst (SqL.of upd_same) (by rw [ed]; exact dpAll_mkn _), by omega, s8, ?_⟩
    generalize upd H l (.lst (((List.replicate n s).map fun n : Nat => V.int n).drop (p + 1))) = H1 at s1
    have l512 : s ^ n ≤ 8 ^ 3 := Nat.le_trans (Nat.pow_le_pow_left s8 n) (Nat.pow_le_pow_right (by decide) n3)
    have l64 : s ^ (n - 1 - p) ≤ 8 ^ 3 := Nat.le_trans (Nat.pow_le_pow_left s8 _) (Nat.pow_le_pow_right (by decide) (by omega))
    have lst : 0 < s ^ (n - 1 - p) := Nat.pow_pos (by omega)
    refine ⟨_, rfl, aa, _, .T, rfl, seqT s1 qa, for_it (walk_enum2 (k := .T) (a := aa) (xs := as.map fun n : Nat => V.int n) (n := (as.map fun n : Nat => V.int n).length) rfl)
      (fun i σ H' => ∃ u1 u2 : Option V, σ = [some (.ref az), some (.ref aa), some (.int (p : Nat)), some (.int (s ^ (n - 1 - p) : Nat)), u1, u2] ∧ Same H1 H' ∧ (List.range i).any (fun i => !decide (as.getD i 0 = as.getD (lowI s (stO s n p) i) 0)) = false)
      ⟨none, none, rfl, Same.refl H1, rfl⟩ (fun i σ H' _ ⟨_, _, _, s2, _⟩ => seqT (s1.trans s2) qa) ?_ ?_⟩
    · rintro i x σ H2 H3 hi ⟨u1, u2, rfl, s2, hj⟩ ⟨t, x1, x2, rfl, ht, rfl, hx1, hx2⟩
      rw [List.length_map] at hi
      obtain rfl : x1 = .int (i : Nat) := (Option.some.inj hx1).symm
      obtain rfl : x2 = .int (as[i] : Nat) := by
        have hx2 : (as.map fun n : Nat => V.int n)[i]? = some x2 := hx2
        rw [List.getElem?_map, List.getElem?_eq_getElem hi] at hx2
        exact (Option.some.inj hx2).symm
      have s3 := same_new (o := .tup [.int (i : Nat), .int (as[i] : Nat)]) ht
      have lo : lowI s (stO s n p) i < as.length := Nat.lt_of_le_of_lt (Nat.sub_le _ _) hi
      refine ⟨t, _, rfl, SqT.of upd_same, rfl, _, _, rfl, _, _, rfl, rfl, ?_⟩
      refine ⟨_, rfl, _, rfl, _, rfl, _, rfl, _, rfl, _, _, rfl, rfl, ⟨by omega, by omega⟩, _, rfl, _, rfl, az, _, _, .int (s : Nat), rfl, rfl, ((s1.trans s2).trans s3).seq qz, atI_nat (by rw [List.getElem?_map, List.getElem?_replicate, if_pos hp]; rfl), _, _, rfl, rfl, by omega, _, rfl, _, _, rfl, rfl, .inr ⟨by omega, by omega⟩, _, _, rfl, rfl, ?_⟩
      refine ⟨aa, _, _, .int (as[lowI s (stO s n p) i] : Nat), rfl, rfl, seqT ((s1.trans s2).trans s3) qa, ?_, rfl, _, rfl, ?_⟩
      · rw [show ((i : Int) - (i : Int) / ((s ^ (n - 1 - p) : Nat) : Int) % (s : Int) * ((s ^ (n - 1 - p) : Nat) : Int)) = ((lowI s (stO s n p) i : Nat) : Int) from low_int ..]
        exact atI_nat (by rw [List.getElem?_map, List.getElem?_eq_getElem lo]; rfl)
      have e1 : as.getD i 0 = as[i] := by rw [List.getD_eq_getElem?_getD, List.getElem?_eq_getElem hi]; rfl
      have e2 : as.getD (lowI s (stO s n p) i) 0 = as[lowI s (stO s n p) i] := by rw [List.getD_eq_getElem?_getD, List.getElem?_eq_getElem lo]; rfl
      by_cases hq : as[i] = as[lowI s (stO s n p) i]
      · refine go_f (by rw [hq]; simp) ?_
        refine ⟨_, _, rfl, s2.trans s3, ?_⟩
        rw [any_to (n := 0), hj, e1, e2, hq]
        simp
      · refine go_t (by simp; omega) ?_
        have : hangsA s n as p = true := by
          unfold hangsA
          rw [List.any_eq_true]
          exact ⟨i, List.mem_range.mpr (by omega), by rw [e1, e2]; simp [hq]⟩
        have kk := k _ ((s1.trans s2).trans s3)
        rw [this] at kk
        exact kk
    · rintro σ H2 ⟨u1, u2, rfl, s2, hj⟩
      rw [List.length_map, la] at hj
      have kk := k H2 (s1.trans s2)
      unfold hangsA at kk
      rw [hj] at kk
      exact kk
end
end K02
/-! the places on which an operation hangs. -/
namespace K02
open PySem L2 FX SQ
theorem rep_flat (n s : Nat) : (List.replicate (n : Int).toNat [V.int (s : Int)]).flatten = (List.replicate n s).map fun n : Nat => V.int n := by
  rw [Int.toNat_natCast]
  induction n with
  | zero => rfl
  | succ n ih =>
    rw [List.replicate_succ, List.flatten_cons, ih]
    rfl
theorem int_nat0 {x : V} {i : Nat} (ex : x = .int (0 + (i : Int))) : x = .int (i : Nat) := by
  rw [ex, Int.zero_add]
section
variable {P : Program} {w : World} {K : PySem.W.Frag} {mg : Str → Option Value} {base : Heap}
def spHung (K : PySem.W.Frag) : Sp := fun vs H Q _ => ∃ (va : V) (s n : Nat) (as : List Nat), vs = [.int s, .int n, va] ∧ Dp K H va (.tuple (as.map nD)) ∧ 2 ≤ s ∧ s ≤ 8 ∧ n ≤ 3 ∧ as.length = s ^ n ∧
  ∀ H' v, Same H H' → Dp K H' v (.tuple ((hungN s n as).map nD)) → Q v H'
abbrev NHung : List Str := ["size", "places", "answers", "place"]
theorem scHung : FnScope NHung ["size", "places", "answers"] (defScope sHung) := ⟨rfl, rfl, rfl, by decide +kernel, rfl, by decide +kernel, by decide +kernel⟩
theorem ok_hung {f fH : Addr} {fd fdH : FuncData} (F : Fun K "hung_in" "hung_in" sHung f fd) (Z : Bi mg) (FH : At K mg "hangs_at" sHangsA fH fdH ["sizes", "answers", "place"]) (GH : FnOk P w K mg base CX0 2 fH fdH ["sizes", "answers", "place"] (spHangs K)) :
    FnOk P w K mg base CX0 3 f fd ["size", "places", "answers"] (spHung K) := by
  refine F.ok scHung (fun vs H Q E h => ?_) (fun cdv A outer sh H vs Q E hr h => ?_)
  · obtain ⟨va, s, n, as, rfl, _⟩ := h
    rfl
  · obtain ⟨va, s, n, as, rfl, ha, s2, s8, n3, la, k⟩ := h
    refine ⟨_, pss_one (ps_ret (pe_tupleF (by rfl) Z.tuple (pe_lc (own := [("place", 3)]) (g := gName 3) (tt := tB (tCall (spHangs K) [] E0 (tCons (tOp rRep (tLst (tCons (tVar 0) tNil)) (tVar 1)) (tCons (tVar 2) (tCons (tVar 3) tNil))))) (te := tVar 3) rfl scHung.nd
        (pi_range1 (by rfl) Z.range (pa_cons (pv 1) pa_nil)) (blkOk_by (N := NHung) (sc := defScope sHung) (by decide +kernel))
        (fun _ _ _ _ _ => pg_name (i := 3) scHung.nd rfl (Or.inl rfl)) (fun _ _ _ _ _ => pts_one (pt_val (pe_call GH (hr.mono (by decide)) (by rfl) FH.g FH.F.kp FH.b .nil pass0 (by exact (pa_cons (pe_op op_rep (pe_lst (pa_cons (pv 0) pa_nil)) (pv 1)) (pa_cons (pv 2) (pa_cons (pv 3) pa_nil))))))) (fun _ _ _ _ _ => pv 3)))), ?_⟩
    refine ⟨_, rfl, n, rfl, by omega, by omega, ?_⟩
    rw [Int.toNat_natCast]
    refine fun D hD => walk_it walk_range (fun j H5 => Same H H5 ∧ H5 D = some (.lst (((List.range j).filter (hangsA s n as)).map fun n : Nat => V.int n))) ⟨same_new hD, upd_same⟩ (fun _ _ _ _ => trivial) ?_ ?_
    · rintro j x _ H5 hj ⟨s5, eD⟩ ⟨rfl, ex⟩
      obtain rfl := int_nat0 ex
      refine ⟨rfl, ?_⟩
      refine ⟨_, rfl, (by show 1 ≤ sizeLine; decide), fun l hl => ⟨_, rfl, l, _, _, rfl, rfl, upd_same, by omega, by omega, ?_, fun l2 hl2 => ?_⟩⟩
      · rw [Int.toNat_natCast, sizeLine_eq]
        show 1 * n ≤ _
        omega
      rw [rep_flat]
      have s6 := (same_new (o := .lst [V.int (s : Int)]) hl).trans (same_new (o := .lst ((List.replicate n s).map fun n : Nat => V.int n)) hl2)
      refine ⟨_, rfl, _, rfl, .ref l2, va, s, n, j, as, rfl, .lst (SqL.of upd_same) (dpAll_mkn _), dp_same (s5.trans s6) ha, s2, s8, n3, hj, la, fun H6 s7 => ⟨_, rfl, ?_⟩⟩
      have s57 := s5.trans (s6.trans s7)
      have eD6 := (s6.trans s7) _ _ eD
      have lf := List.length_filter_le (hangsA s n as) (List.range j)
      rw [List.length_range] at lf
      by_cases hb : hangsA s n as j = true
      · refine go_t hb ?_
        refine ⟨_, rfl, _, eD6, by rw [List.length_map, sizeLine_eq]; omega, same_of s57 hD, ?_⟩
        rw [upd_same, range_fil, if_pos hb, List.map_append]
        rfl
      · refine go_f (by simpa using hb) ?_
        refine ⟨s57, ?_⟩
        rw [range_fil, if_neg hb, List.append_nil]
        exact eD6
    · rintro H5 ⟨s5, eD⟩
      refine ⟨D, _, rfl, SqL.of eD, fun q o hq ho => ?_⟩
      have s6 := same_new (o := .frz o (.tup (((List.range n).filter (hangsA s n as)).map fun n : Nat => V.int n))) hq
      exact k _ _ (s5.trans s6) (.tup (.inl (.inr ⟨o, upd_same⟩)) (dpAll_mkn _))
end
end K02
/-! the places on which an operation hangs; its least table. -/
namespace K02
open PySem L2 FX SQ
def opT (o : Nat × List Nat) : D := .tuple [nD o.1, .tuple (o.2.map nD)]
theorem opT_is {s : Nat} {o : Nat × List Nat} (n1 : 1 ≤ o.1) (n3 : o.1 ≤ 3) (la : o.2.length = s ^ o.1) (h : ∀ a ∈ o.2, a < s) : OpIs s o.1 o.2 (opT o) := ⟨rfl, ⟨_, rfl, rfl, rfl⟩, n1, n3, la, h⟩
/-- no operation, and it is told; or one -/
def OpSc (cO : Addr) (s : Nat) (d : D) (H : Hp) (E : XK) (OK : Nat → List Nat → Prop) : Prop := (isTable s 1 3 d = false ∧ Thr cO "at" (.int (-1)) H E) ∨ ∃ n as, OpIs s n as d ∧ OK n as
theorem op_pre {K : PySem.W.Frag} {cO cS : Addr} {s : Nat} {d : D} {vo : V} {H : Hp} {E : XK} {OK : Nat → List Nat → Prop} (s2 : 2 ≤ s) (s8 : s ≤ 8) (hd : Dp K H vo d) (sc : OpSc cO s d H E OK) {Q : VK}
    (k : ∀ n as, OpIs s n as d → OK n as → ∀ H1 ap va, Same H H1 → SqT K H1 ap [.int (n : Int), va] → Dp K H1 va (.tuple (as.map nD)) → Q (.ref ap) H1) : spNeedOp K cO cS [.int (s : Int), vo] H Q E := by
  refine ⟨.int s, vo, nD s, d, rfl, .int _, hd, fun e => absurd ((bt_nat s2 s8).symm.trans e) (by decide), fun _ e => ?_, fun _ e H1 v1 s1 d1 => ?_⟩
  · rcases sc with ⟨_, t⟩ | ⟨n, as, O, _⟩
    · exact t
    · exact absurd (O.table.symm.trans e) (by decide)
  · rcases sc with ⟨e', _⟩ | ⟨n, as, O, ok⟩
    · exact absurd (e'.symm.trans e) (by decide)
    rw [O.op] at d1
    obtain ⟨ap, xp, rfl, qp, rp⟩ := dp_tup d1
    obtain ⟨va, rfl, da⟩ : ∃ va, xp = [.int (n : Int), va] ∧ Dp K H1 va (.tuple (as.map nD)) := by
      cases rp with
      | cons h0 r => cases r with
        | cons h1 r => cases r with
          | nil =>
            cases h0
            exact ⟨_, rfl, h1⟩
    exact k n as O ok H1 ap va s1 qp da
def leastO (n : Nat) (hs : List Nat) : List (Option Nat) := (List.range n).map fun p => if p ∈ hs then none else some 0
theorem flat_nats (hs : List Nat) : (hs.map fun n : Nat => V.int n).all flatV = true := by
  rw [List.all_map, List.all_eq_true]
  exact fun _ _ => rfl
theorem in_nats (p : Nat) : ∀ hs : List Nat, inV (V.int (p : Nat)) (hs.map fun n : Nat => V.int n) = decide (p ∈ hs)
  | [] => rfl
  | h :: hs => by
    have ih := in_nats p hs
    unfold inV at ih ⊢
    rw [List.map_cons, List.any_cons, ih]
    by_cases e : p = h
    · subst e
      simp [eqV]
    · have : (p : Int) ≠ (h : Int) := by omega
      simp [eqV, e, this]
      omega
section
variable {P : Program} {w : World} {K : PySem.W.Frag} {mg : Str → Option Value} {base : Heap} {cO cS : Addr}
abbrev sHungP : Stmt := top 30
abbrev sLeast : Stmt := top 31
def spHungP (K : PySem.W.Frag) (cO : Addr) : Sp := fun vs H Q E => ∃ (vo : V) (d : D) (s : Nat), vs = [.int s, vo] ∧ Dp K H vo d ∧ 2 ≤ s ∧ s ≤ 8 ∧ OpSc cO s d H E fun n as => ∀ H' v, Same H H' → Dp K H' v (.tuple ((hungN s n as).map nD)) → Q v H'
abbrev NHungP : List Str := ["size", "operation", "places", "answers"]
theorem scHungP : FnScope NHungP ["size", "operation"] (defScope sHungP) := ⟨rfl, rfl, rfl, by decide +kernel, rfl, by decide +kernel, by decide +kernel⟩
theorem ok_hungP {f fO fH : Addr} {fd fdO fdH : FuncData} (F : Fun K "hung_places" "hung_places" sHungP f fd) (Z : Bi mg) (FO : At K mg "need_operation" sNeedOp fO fdO ["size", "value"]) (GO : FnOk P w K mg base (L2.CX P w) 6 fO fdO ["size", "value"] (spNeedOp K cO cS))
    (FH : At K mg "hung_in" sHung fH fdH ["size", "places", "answers"]) (GH : FnOk P w K mg base CX0 3 fH fdH ["size", "places", "answers"] (spHung K)) : FnOk P w K mg base (L2.CX P w) 7 f fd ["size", "operation"] (spHungP K cO) := by
  refine F.okX scHungP (fun vs H Q E h => ?_) (fun cdv A outer sh H vs Q E hr h => ?_)
  · obtain ⟨vo, d, s, rfl, _⟩ := h
    rfl
  · obtain ⟨vo, d, s, rfl, hd, s2, s8, sc⟩ := h
    refine ⟨_, pss_cons (ps_asg (pe_callS GO (hr.mono (by decide)) rfl FO.g FO.F.kp FO.b (fun σ => passAt (takes_of rfl rfl rfl rfl) σ) (by exact (pa_cons (pv 0) (pa_cons (pv 1) pa_nil)))) (pg_tup rfl (pgs_cons (pg_name (i := 2) scHungP.nd rfl (Or.inl rfl)) (pgs_cons (pg_name (i := 3) scHungP.nd rfl (Or.inl rfl)) pgs_nil))))
      (pss_one (ps_ret (pe_call GH (hr.mono (by decide)) rfl FH.g FH.F.kp FH.b .nil pass0 (by exact (pa_cons (pv 0) (pa_cons (pv 2) (pa_cons (pv 3) pa_nil))))))), ?_⟩
    refine ⟨_, rfl, _, rfl, op_pre s2 s8 hd sc fun n as O ok H1 ap va s1 qp da => ?_⟩
    refine ⟨ap, _, rfl, qp, rfl, _, _, rfl, _, _, rfl, rfl, ?_⟩
    exact ⟨_, rfl, _, rfl, _, rfl, va, s, n, as, rfl, da, s2, s8, O.n3, O.len, fun H2 v s2' dv => ok H2 v (s1.trans s2') dv⟩
def spLeast (K : PySem.W.Frag) (cO : Addr) : Sp := fun vs H Q E => ∃ (vo : V) (d : D) (s : Nat), vs = [.int s, vo] ∧ Dp K H vo d ∧ 2 ≤ s ∧ s ≤ 8 ∧ OpSc cO s d H E fun n as => ∀ H' t vh va, Same H H' → H' t = some (.tup [vh, va]) → Dp K H' vh (.tuple ((hungN s n as).map nD)) → Dp K H' va (.tuple ((heldAns s as (leastO n (hungN s n as))).map nD)) → Q (.ref t) H'
abbrev NLeast : List Str := ["size", "operation", "places", "answers", "hung", "held", "place"]
theorem scLeast : FnScope NLeast ["size", "operation"] (defScope sLeast) := ⟨rfl, rfl, rfl, by decide +kernel, rfl, by decide +kernel, by decide +kernel⟩
theorem ok_least {f fO fH fA : Addr} {fd fdO fdH fdA : FuncData} (F : Fun K "least_table" "least_table" sLeast f fd) (Z : Bi mg) (FO : At K mg "need_operation" sNeedOp fO fdO ["size", "value"]) (GO : FnOk P w K mg base (L2.CX P w) 6 fO fdO ["size", "value"] (spNeedOp K cO cS))
    (FH : At K mg "hung_in" sHung fH fdH ["size", "places", "answers"]) (GH : FnOk P w K mg base CX0 3 fH fdH ["size", "places", "answers"] (spHung K)) (FA : At K mg "held_answers" sHeldA fA fdA ["answers", "sizes", "held"]) (GA : FnOk P w K mg base CX0 2 fA fdA ["answers", "sizes", "held"] (spHeldA K)) :
    FnOk P w K mg base (L2.CX P w) 7 f fd ["size", "operation"] (spLeast K cO) := by
  refine F.okX scLeast (fun vs H Q E h => ?_) (fun cdv A outer sh H vs Q E hr h => ?_)
  · obtain ⟨vo, d, s, rfl, _⟩ := h
    rfl
  · obtain ⟨vo, d, s, rfl, hd, s2, s8, sc⟩ := h
    refine ⟨_, pss_cons (ps_asg (pe_callS GO (hr.mono (by decide)) rfl FO.g FO.F.kp FO.b (fun σ => passAt (takes_of rfl rfl rfl rfl) σ) (by exact (pa_cons (pv 0) (pa_cons (pv 1) pa_nil)))) (pg_tup rfl (pgs_cons (pg_name (i := 2) scLeast.nd rfl (Or.inl rfl)) (pgs_cons (pg_name (i := 3) scLeast.nd rfl (Or.inl rfl)) pgs_nil))))
      (pss_cons (ps_set (i := 4) scLeast.nd rfl (Or.inr rfl) (pe_call GH (hr.mono (by decide)) rfl FH.g FH.F.kp FH.b .nil pass0 (by exact (pa_cons (pv 0) (pa_cons (pv 2) (pa_cons (pv 3) pa_nil))))))
      (pss_cons (ps_setLc (i := 5) (own := [("place", 6)]) (g := gName 6) (tt := tYes) (te := tIf (tTest (tOp (rIn K false) (tVar 6) (tVar 4))) (tC .non) (tC (.int 0))) rfl scLeast.nd rfl rfl (sw_true rfl rfl rfl (by decide +kernel)) (pi_range1 (by rfl) Z.range (pa_cons (pv 2) pa_nil)) (blkOk_by (N := NLeast) (sc := defScope sLeast) (by decide +kernel))
          (fun _ _ _ _ _ => pg_name (i := 6) scLeast.nd rfl (Or.inl rfl)) (fun _ _ _ _ _ => pts_nil)
          (fun _ _ _ _ _ => pe_ifExp (pt_cmpR op_in_seq (pv 6) (pv 4) (by with_unfolding_all rfl)) pe_non pe_int))
      (pss_one (ps_ret (pe_tup (by exact (pa_cons (pv 4) (pa_cons (pe_call GA (hr.mono (by decide)) rfl FA.g FA.F.kp FA.b .nil pass0 (by exact (pa_cons (pv 3) (pa_cons (pe_op op_rep (pe_lst (by exact (pa_cons (pv 0) pa_nil))) (pv 2)) (pa_cons (pv 5) pa_nil))))) pa_nil)))))))), ?_⟩
    refine ⟨_, rfl, _, rfl, op_pre s2 s8 hd sc fun n as O ok H1 ap va s1 qp da => ?_⟩
    have n3 := O.n3
    refine ⟨ap, _, rfl, qp, rfl, _, _, rfl, _, _, rfl, rfl, ?_⟩
    refine ⟨_, rfl, _, rfl, _, rfl, va, s, n, as, rfl, da, s2, s8, O.n3, O.len, fun H2 vh s2' dh => ?_⟩
    obtain ⟨ah, xh, rfl, qh, rh⟩ := dp_tup dh
    obtain rfl : xh = (hungN s n as).map fun n : Nat => V.int n := dpAll_eqn rh
    refine ⟨_, rfl, n, rfl, by omega, by omega, ?_⟩
    rw [Int.toNat_natCast]
    refine fun D hD => walk_it walk_range (fun a H' => Same H2 H' ∧ Grow K H' D ((List.range a).map fun p => oD (if p ∈ hungN s n as then none else some 0))) ⟨same_new hD, Grow.nil⟩ (fun _ _ _ _ => trivial) ?_ ?_
    · rintro a x _ H4 ha ⟨s4, g4⟩ ⟨rfl, ex⟩
      obtain rfl := int_nat0 ex
      refine ⟨rfl, ?_⟩
      refine ⟨_, rfl, _, rfl, ah, _, rfl, .inr (seqT s4 qh), rfl, flat_nats _, ?_⟩
      obtain ⟨acc, eD, _⟩ := id g4
      have lacc := g4.len eD
      rw [List.length_map, List.length_range] at lacc
      have et : (List.range (a + 1)).map (fun p => oD (if p ∈ hungN s n as then none else some 0)) = ((List.range a).map fun p => oD (if p ∈ hungN s n as then none else some 0)) ++ [oD (if a ∈ hungN s n as then none else some 0)] := by
        rw [List.range_succ, List.map_append]
        rfl
      rw [in_nats]
      by_cases hc : a ∈ hungN s n as
      · refine ⟨_, rfl, go_t (decide_eq_true hc) ?_⟩
        refine ⟨acc, eD, by rw [lacc, sizeLine_eq]; omega, same_of s4 hD, ?_⟩
        rw [et, if_pos hc]
        exact g4.put eD .non
      · refine ⟨_, rfl, go_f (decide_eq_false hc) ?_⟩
        refine ⟨acc, eD, by rw [lacc, sizeLine_eq]; omega, same_of s4 hD, ?_⟩
        rw [et, if_neg hc]
        exact g4.put eD (.int _)
    rintro H4 ⟨s4, g4⟩
    refine ⟨_, rfl, _, rfl, _, rfl, (by show 1 ≤ sizeLine; decide), fun l hl => ⟨_, rfl, l, _, _, rfl, rfl, upd_same, by omega, by omega, ?_, fun l2 hl2 => ?_⟩⟩
    · rw [Int.toNat_natCast, sizeLine_eq]
      show 1 * n ≤ _
      omega
    rw [rep_flat]
    have s7 := (same_new (o := .lst [V.int (s : Int)]) hl).trans (same_new (o := .lst ((List.replicate n s).map fun n : Nat => V.int n)) hl2)
    have ll : (leastO n (hungN s n as)).length = n := by unfold leastO; rw [List.length_map, List.length_range]
    have dl : Dp K H4 (.ref D) (.list ((leastO n (hungN s n as)).map oD)) := by
      unfold leastO
      rw [List.map_map]
      exact g4.dp
    refine ⟨_, rfl, va, .ref l2, .ref D, s, as, leastO n (hungN s n as), rfl, dp_same (s2'.trans (s4.trans s7)) da, ?_, .inl (dp_same s7 dl), by omega, s8, fun m hm => ?_, by rw [ll]; exact O.len, fun H8 v8 s8' d8 _ => ⟨(by show 2 ≤ sizeLine; decide), fun t ht => ?_⟩⟩
    · rw [ll]
      exact .lst (SqL.of upd_same) (dpAll_mkn _)
    · unfold leastO at hm
      obtain ⟨p, _, e⟩ := List.mem_map.mp hm
      split at e
      · cases e
      · cases e
        omega
    · have s10 := same_new (o := .tup [.ref ah, v8]) ht
      exact ok _ t _ v8 (s1.trans (s2'.trans (s4.trans (s7.trans (s8'.trans s10))))) upd_same (dp_same (s4.trans (s7.trans (s8'.trans s10))) (.tup qh rh)) (dp_same s10 d8)
end
end K02
/-! tables of as many places. -/
namespace K02
open PySem L2 FX SQ
def x0 (d : D) : D := (items d).getD 0 .none
def okTb (s : Int) (d x : D) : Bool := isTable s 0 6 x && decide (intV (x0 x) = intV (x0 (x0 d)))
section
variable {P : Program} {w : World} {K : PySem.W.Frag} {mg : Str → Option Value} {base : Heap} {B cB iB cO iO cV iV cS iS : Addr}
abbrev sNeedT : Stmt := top 33
def spNeedT (K : PySem.W.Frag) (cB : Addr) : Sp := fun vs H Q E => ∃ (s p : Int) (v : V) (d : D), vs = [.int s, .int p, v] ∧ 0 ≤ s ∧ s ≤ 8 ∧ Dp K H v d ∧ (isRow p d = false → Thr cB "at" (.int (-1)) H E) ∧
  (isRow p d = true → ∀ (i : Nat) x, (items d)[i]? = some x → okTb s d x = false → (∀ j : Nat, j < i → ∀ y, (items d)[j]? = some y → okTb s d y = true) → Thr cB "at" (.int (i : Nat)) H E) ∧
  (isRow p d = true → (∀ (j : Nat) y, (items d)[j]? = some y → okTb s d y = true) → ∀ H', Same H H' → Q .non H')
abbrev NNeedT : List Str := ["size", "many", "tables", "at", "table"]
theorem scNeedT : FnScope NNeedT ["size", "many", "tables"] (defScope sNeedT) := ⟨rfl, rfl, rfl, by decide +kernel, rfl, by decide +kernel, by decide +kernel⟩
theorem ok_needT {f fR fT : Addr} {fd fdR fdT : FuncData} (F : Fun K "need_tables" "need_tables" sNeedT f fd) (Z : Bi mg) (T : Ers K mg B cB iB cO iO cV iV cS iS) (FR : At K mg "is_row_of" sRowOf fR fdR ["many", "value"]) (GR : FnOk P w K mg base CX0 2 fR fdR ["many", "value"] (spB1 K isRow))
    (FT : At K mg "is_table" sTable fT fdT ["size", "least", "most", "value"]) (GT : FnOk P w K mg base CX0 4 fT fdT ["size", "least", "most", "value"] (spTable K)) :
    FnOk P w K mg base (L2.CX P w) 5 f fd ["size", "many", "tables"] (spNeedT K cB) := by
  refine F.okX scNeedT (fun vs H Q E h => ?_) (fun cdv A outer sh H vs Q E hr h => ?_)
  · obtain ⟨s, p, v, d, rfl, _⟩ := h
    rfl
  · obtain ⟨s, p, v, d, rfl, s0, s8, hd, k1, k2, k3⟩ := h
    refine ⟨_, pss_cons (ps_if (pt_not (pt_val (pe_call GR (hr.mono (by decide)) rfl FR.g FR.F.kp FR.b .nil pass0 (by exact (pa_cons (pv 1) (pa_cons (pv 2) pa_nil))))))
        (pss_one (ps_err rfl T.b.T T.b.U hr (takes_of rfl rfl rfl rfl) (by exact (pa_cons (pe_un un_neg pe_int) pa_nil)))) pss_nil)
      (pss_one (ps_for (passes_of rfl) rfl (pi_enum2 (by rfl) Z.enumerate (pa_cons (pv 2) pa_nil)) (pg_tup rfl (pgs_cons (pg_name (i := 3) scNeedT.nd rfl (Or.inl rfl)) (pgs_cons (pg_name (i := 4) scNeedT.nd rfl (Or.inl rfl)) pgs_nil)))
        (pss_one (ps_if (PW.pt (pw_or (pt_not (pt_val (pe_call GT hr rfl FT.g FT.F.kp FT.b .nil pass0 (by exact (pa_cons (pv 0) (pa_cons pe_int (pa_cons pe_int (pa_cons (pv 4) pa_nil)))))))) (pw_or1 (pt_cmpR op_ne (pe_ix ix_seq (pv 4) pe_int (fun _ _ => rfl)) (pe_ix ix_seq (pe_ix ix_seq (pv 2) pe_int (fun _ _ => rfl)) pe_int (fun _ _ => rfl)) (nomark _)))))
          (pss_one (ps_err rfl T.b.T T.b.U hr (takes_of rfl rfl rfl rfl) (by exact (pa_cons (pv 3) pa_nil)))) pss_nil)))), ?_⟩
    refine ⟨_, rfl, _, rfl, p, v, d, rfl, hd, fun H1 s1 => ⟨_, rfl, ?_⟩⟩
    by_cases hrow : isRow p d = true
    case neg =>
      have hf : isRow p d = false := by simpa using hrow
      refine go_t (by rw [hf]; rfl) ?_
      exact ⟨_, rfl, _, rfl, fun d' hd' => k1 hf H1 d' s1 hd'⟩
    refine go_f (by rw [hrow]; rfl) ?_
    have hsq : isSq d = true := by
      unfold isRow at hrow
      simp only [Bool.and_eq_true] at hrow
      exact hrow.1
    obtain ⟨a, xs, rfl, q, r⟩ := dp_seq (dp_same s1 hd) hsq
    obtain ⟨kd, qk⟩ : ∃ kd, SqK K H1 kd a xs := q.elim (fun q => ⟨.L, q⟩) fun q => ⟨.T, q⟩
    have lx : xs.length = (items d).length := dpAll_len r
    refine ⟨_, rfl, a, xs, kd, rfl, qk, for_it (walk_enum2 (k := kd) (a := a) (xs := xs) (n := xs.length) rfl)
      (fun i σ H' => ∃ u1 u2 : Option V, σ = [some (.int s), some (.int p), some (.ref a), u1, u2] ∧ Same H1 H' ∧ ∀ j, j < i → ∀ y, (items d)[j]? = some y → okTb s d y = true)
      ⟨none, none, rfl, Same.refl H1, fun j hj => by omega⟩ (fun i σ H' _ ⟨_, _, _, s2, _⟩ => sqK_same s2 qk) ?_ ?_⟩
    · rintro i x σ H2 H3 hi ⟨u1, u2, rfl, s2, hj⟩ ⟨t, x1, x2, rfl, ht, rfl, hx1, hx2⟩
      obtain rfl : x1 = .int (i : Nat) := (Option.some.inj hx1).symm
      obtain ⟨dx, hdx, hxd⟩ := dpAll_get r hx2
      have s3 := same_new (o := .tup [.int (i : Nat), x2]) ht
      refine ⟨t, _, rfl, SqT.of upd_same, rfl, _, _, rfl, _, _, rfl, rfl, _, rfl, _, rfl, s, 0, 6, x2, dx, rfl, s0, s8, by decide, by decide, dp_same (s2.trans s3) hxd, fun H4 s4 => ⟨_, rfl, ?_⟩⟩
      have s24 := (s2.trans s3).trans s4
      have ok : okTb s d dx = true → ∀ j, j < i + 1 → ∀ y, (items d)[j]? = some y → okTb s d y = true := fun ho j hj' y hy => by
        by_cases e : j = i
        · subst e
          rw [hdx] at hy
          cases hy
          exact ho
        · exact hj j (by omega) y hy
      have bad : okTb s d dx = false → Thr cB "at" (.int (i : Nat)) H E := fun hb => k2 hrow i dx hdx hb hj
      by_cases hT : isTable s 0 6 dx = true
      case neg =>
        have hT' : isTable s 0 6 dx = false := by simpa using hT
        refine go_t (by rw [hT']; rfl) ?_
        refine go_t rfl ?_
        refine ⟨_, rfl, _, rfl, fun d' hd' => ?_⟩
        exact bad (and_f hT') H4 d' (s1.trans s24) hd'
      refine go_f (by rw [hT]; rfl) ?_
      obtain ⟨hsx, n, d1, hit, _, _, _, _, _⟩ := table_is hT
      have e0 : (items dx)[0]? = some (.int n) := by rw [hit]; rfl
      obtain ⟨u0, hu0, kk0⟩ := ixS (i := 0) (dp_same s24 hxd) hsx e0
      obtain rfl : u0 = .int n := by cases hu0; rfl
      obtain ⟨df, hdf⟩ : ∃ df, (items d)[0]? = some df := by
        have : 0 < (items d).length := by rw [← lx]; omega
        exact ⟨_, List.getElem?_eq_getElem this⟩
      have hTf : isTable s 0 6 df = true := by
        by_cases hi0 : i = 0
        · subst hi0
          rw [hdx] at hdf
          cases hdf
          exact hT
        · have := hj 0 (by omega) df hdf
          unfold okTb at this
          rw [Bool.and_eq_true] at this
          exact this.1
      obtain ⟨hsf, m, d2, hitf, _, _, _, _, _⟩ := table_is hTf
      have ef : (items df)[0]? = some (.int m) := by rw [hitf]; rfl
      obtain ⟨vf, hvf, kf⟩ := ixS (i := 0) (dp_same (s1.trans s24) hd) hsq hdf
      obtain ⟨um, hum, km⟩ := ixS (i := 0) hvf hsf ef
      obtain rfl : um = .int m := by cases hum; rfl
      have exx : x0 dx = .int n := by unfold x0; rw [hit]; rfl
      have exd : x0 (x0 d) = .int m := by
        have : x0 d = df := by unfold x0; rw [List.getD_eq_getElem?_getD, hdf]; rfl
        rw [this]
        unfold x0
        rw [hitf]
        rfl
      have eok : okTb s d dx = decide (n = m) := by
        unfold okTb
        rw [hT, exx, exd]
        rfl
      refine ⟨_, rfl, kk0 _ ⟨_, rfl, kf _ (km _ ⟨rfl, _, rfl, ?_⟩)⟩⟩
      by_cases hnm : n = m
      · refine go_f (by rw [hnm]; simp) ?_
        exact ⟨_, _, rfl, s24, ok (by rw [eok]; exact decide_eq_true hnm)⟩
      · refine go_t (by simp [hnm]) ?_
        refine ⟨_, rfl, _, rfl, fun d' hd' => ?_⟩
        exact bad (by rw [eok]; exact decide_eq_false hnm) H4 d' (s1.trans s24) hd'
    · rintro σ H2 ⟨u1, u2, rfl, s2, hj⟩
      refine k3 hrow (fun j y hy => hj j ?_ y hy) H2 (s1.trans s2)
      rw [lx]
      exact (List.getElem?_eq_some_iff.mp hy).1
end
end K02
/-! the answers of answers, row by row. -/
namespace K02
open PySem L2 FX SQ
def stepS (s : Nat) (sp t : List Nat) : List Nat := List.zipWith (fun a b => a * s + b) sp t
def spotsN (s : Nat) (ts : List (List Nat)) : List Nat := match ts with
  | [] => []
  | t :: r => r.foldl (stepS s) t
def ansN (s : Nat) (as : List Nat) (ts : List (List Nat)) : List Nat := (spotsN s ts).map fun i => as.getD i 0
/-- a list or a tuple of numbers -/
def sqD (d : D) (t : List Nat) : Prop := isSq d = true ∧ items d = t.map nD
theorem spots_len {s L : Nat} : ∀ (r : List (List Nat)) (t : List Nat), t.length = L → (∀ u ∈ r, u.length = L) → (r.foldl (stepS s) t).length = L
  | [], t, h, _ => h
  | u :: r, t, h, hr => by
    refine spots_len r _ ?_ fun v hv => hr v (List.mem_cons_of_mem _ hv)
    unfold stepS
    rw [List.length_zipWith, h, hr u (List.mem_cons_self ..), Nat.min_self]
theorem stepS_lt {s k : Nat} {t u : List Nat} (h : ∀ x ∈ t, x < s ^ k) (hu : ∀ x ∈ u, x < s) : ∀ x ∈ stepS s t u, x < s ^ (k + 1) := by
  intro x hx
  obtain ⟨i, hi, rfl⟩ := List.mem_iff_getElem.mp hx
  unfold stepS at hi ⊢
  rw [List.length_zipWith] at hi
  rw [List.getElem_zipWith]
  have h1 := h _ (List.getElem_mem (show i < t.length by omega))
  have h2 := hu _ (List.getElem_mem (show i < u.length by omega))
  have : (t[i] + 1) * s ≤ s ^ k * s := Nat.mul_le_mul_right _ h1
  rw [Nat.add_mul, Nat.one_mul] at this
  rw [Nat.pow_succ]
  omega
theorem spots_lt {s : Nat} : ∀ (r : List (List Nat)) (t : List Nat) (k : Nat), (∀ x ∈ t, x < s ^ k) → (∀ u ∈ r, ∀ x ∈ u, x < s) → ∀ x ∈ r.foldl (stepS s) t, x < s ^ (k + r.length)
  | [], t, k, h, _ => h
  | u :: r, t, k, h, hr => by
    intro x hx
    have := spots_lt r (stepS s t u) (k + 1) (stepS_lt h (hr u (List.mem_cons_self ..))) (fun v hv => hr v (List.mem_cons_of_mem _ hv)) x hx
    rw [List.length_cons]
    rw [show k + (r.length + 1) = k + 1 + r.length from by omega]
    exact this
theorem spots_snoc {s : Nat} {ts : List (List Nat)} {i : Nat} {u : List Nat} (hi : ts[i + 1]? = some u) : spotsN s (ts.take (i + 2)) = stepS s (spotsN s (ts.take (i + 1))) u := by
  cases ts with
  | nil => simp at hi
  | cons t r =>
    have hr : r[i]? = some u := by simpa using hi
    show (r.take (i + 1)).foldl (stepS s) t = stepS s ((r.take i).foldl (stepS s) t) u
    rw [take_more hr, List.foldl_append]
    rfl
section
variable {P : Program} {w : World} {K : PySem.W.Frag} {mg : Str → Option Value} {base : Heap}
abbrev sAns : Stmt := top 11
def spAns (K : PySem.W.Frag) : Sp := fun vs H Q _ => ∃ (va vz vr : V) (s L : Nat) (as : List Nat) (ts : List (List Nat)) (dts : List D), vs = [va, vz, vr] ∧ Dp K H va (.tuple (as.map nD)) ∧ Dp K H vz (.list ((List.replicate ts.length s).map nD)) ∧ Dp K H vr (.list dts) ∧
  dts.length = ts.length ∧ (∀ (i : Nat) (d : D) (t : List Nat), dts[i]? = some d → ts[i]? = some t → sqD d t) ∧ 1 ≤ ts.length ∧ ts.length ≤ 3 ∧ s ≤ 4 ∧ L ≤ 300 ∧ (∀ t ∈ ts, t.length = L ∧ ∀ x ∈ t, x < s) ∧ as.length = s ^ ts.length ∧
  ∀ H' v, Same H H' → Dp K H' v (.tuple ((ansN s as ts).map nD)) → Q v H'
abbrev NAns : List Str := ["answers", "sizes", "rows", "spots", "at", "size", "spot", "value"]
theorem scAns : FnScope NAns ["answers", "sizes", "rows"] (defScope sAns) := ⟨rfl, rfl, rfl, by decide +kernel, rfl, by decide +kernel, by decide +kernel⟩
theorem ok_ans {f : Addr} {fd : FuncData} (F : Fun K "answered" "answered" sAns f fd) (Z : Bi mg) : FnOk P w K mg base CX0 1 f fd ["answers", "sizes", "rows"] (spAns K) := by
  refine F.ok scAns (fun vs H Q E h => ?_) (fun cdv A outer sh H vs Q E hr h => ?_)
  · obtain ⟨va, vz, vr, s, L, as, ts, dts, rfl, _⟩ := h
    rfl
  · obtain ⟨va, vz, vr, s, L, as, ts, dts, rfl, ha, hz, hrw, hl, hq, n1, n3, s4, l3, ht, la, k⟩ := h
    refine ⟨_, pss_cons (ps_set (i := 3) scAns.nd rfl (Or.inl rfl) (pe_ix ix_list (pv 2) pe_int (fun _ _ => rfl)))
      (pss_cons (ps_for PassesOwn.never rfl (pi_range2 (by rfl) Z.range (pa_cons pe_int (pa_cons (pe_callB call_len_seq (by rfl) Z.len PySem.boot_len (pa_cons (pv 2) pa_nil)) pa_nil))) (pg_name (i := 4) scAns.nd rfl (Or.inl rfl))
        (pss_cons (ps_set (i := 5) scAns.nd rfl (Or.inr rfl) (pe_ix ix_list (pv 1) (pv 4) (fun _ _ => rfl)))
        (pss_one (ps_setLc (i := 3) (own := [("spot", 6), ("value", 7)]) (g := gTup K 2 (gCons (gName 6) (gCons (gName 7) gNil))) (tt := tYes) (wi := iZip2 K (tCons (tVar 3) (tCons (tOp (rIxL K) (tVar 2) (tVar 4)) tNil)))
          (te := tOp (rI0 fun i j => .int (i + j)) (tOp (rI CMul fun i j => .int (i * j)) (tVar 6) (tVar 5)) (tVar 7)) rfl scAns.nd rfl rfl (sw_true rfl rfl rfl (by decide +kernel)) (pi_zip2 (by rfl) Z.zip (pa_cons (pv 3) (pa_cons (pe_ix ix_list (pv 2) (pv 4) (fun _ _ => rfl)) pa_nil))) (blkOk_by (N := NAns) (sc := defScope sAns) (by decide +kernel))
          (fun _ _ _ _ _ => pg_tup rfl (pgs_cons (pg_name (i := 6) scAns.nd rfl (Or.inl rfl)) (pgs_cons (pg_name (i := 7) scAns.nd rfl (Or.inl rfl)) pgs_nil))) (fun _ _ _ _ _ => pts_nil)
          (fun _ _ _ _ _ => pe_op op_add (pe_op op_mul (pv 6) (pv 5)) (pv 7))))))
      (pss_one (ps_ret (pe_tupleF (by rfl) Z.tuple (pe_lc (own := [("spot", 6)]) (g := gName 6) (tt := tYes) (wi := iSq K (tVar 3)) (te := tOp (rIxT K) (tVar 0) (tVar 6)) rfl scAns.nd (pi_sq (pv 3))
        (blkOk_by (N := NAns) (sc := defScope sAns) (by decide +kernel)) (fun _ _ _ _ _ => pg_name (i := 6) scAns.nd rfl (Or.inl rfl)) (fun _ _ _ _ _ => pts_nil)
        (fun _ _ _ _ _ => pe_ix ix_tup (pv 0) (pv 6) (fun _ _ => rfl))))))), ?_⟩
    obtain ⟨ar, xr, rfl, qr, rr⟩ := dp_list hrw
    obtain ⟨az, xz, rfl, qz, rz⟩ := dp_list hz
    obtain ⟨aa, xa, rfl, qa, ra⟩ := dp_tup ha
    obtain rfl : xz = (List.replicate ts.length s).map fun n : Nat => V.int n := dpAll_eqn rz
    obtain rfl : xa = as.map fun n : Nat => V.int n := dpAll_eqn ra
    have lxr : xr.length = ts.length := by rw [dpAll_len rr, hl]
    have row : ∀ i t, ts[i]? = some t → ∃ v d, xr[i]? = some v ∧ Dp K H v d ∧ sqD d t := fun i t e => by
      have hi : i < dts.length := by rw [hl]; exact (List.getElem?_eq_some_iff.mp e).1
      obtain ⟨v, h1, h2⟩ := dpAll_at (i := i) (d := dts[i]) rr (List.getElem?_eq_getElem hi)
      exact ⟨v, _, h1, h2, hq i _ t (List.getElem?_eq_getElem hi) e⟩
    have sq2 : ∀ {H' : Hp} {v : V} {d : D} {t : List Nat}, Dp K H' v d → sqD d t → ∃ a kd, v = .ref a ∧ SqK K H' kd a (t.map fun n : Nat => V.int n) := fun hd hs => by
      obtain ⟨a, xs, rfl, q, r⟩ := dp_seq hd hs.1
      rw [hs.2] at r
      rw [dpAll_eqn r] at q
      rcases q with q | q
      · exact ⟨a, .L, rfl, q⟩
      · exact ⟨a, .T, rfl, q⟩
    obtain ⟨t0, e0⟩ : ∃ t0, ts[0]? = some t0 := ⟨_, List.getElem?_eq_getElem (by omega)⟩
    obtain ⟨v0, d0, ev0, hd0, sq0⟩ := row 0 t0 e0
    have sp1 : spotsN s (ts.take 1) = t0 := by
      cases ts with
      | nil => simp at e0
      | cons t r =>
        simp at e0
        exact e0
    have slen : ∀ i, 1 ≤ i → i ≤ ts.length → (spotsN s (ts.take i)).length = L := fun i h1 h2 => by
      cases ts with
      | nil => simp at h2; omega
      | cons t r =>
        obtain ⟨j, rfl⟩ : ∃ j, i = j + 1 := ⟨i - 1, by omega⟩
        exact spots_len (r.take j) t (ht t (List.mem_cons_self ..)).1 fun u hu => (ht u (List.mem_cons_of_mem _ (List.mem_of_mem_take hu))).1
    have slt : ∀ i, 1 ≤ i → i ≤ ts.length → ∀ x ∈ spotsN s (ts.take i), x < s ^ i := fun i h1 h2 => by
      cases ts with
      | nil => simp at h2; omega
      | cons t r =>
        obtain ⟨j, rfl⟩ : ∃ j, i = j + 1 := ⟨i - 1, by omega⟩
        have h := spots_lt (r.take j) t 1 (fun x hx => by rw [Nat.pow_one]; exact (ht t (List.mem_cons_self ..)).2 x hx) fun u hu => (ht u (List.mem_cons_of_mem _ (List.mem_of_mem_take hu))).2
        rw [List.length_take, Nat.min_eq_left (by simpa using h2), Nat.add_comm] at h
        exact h
    have p64 : ∀ i, i ≤ 3 → s ^ i ≤ 64 := fun i hi => by
      have h1 : s ^ i ≤ 4 ^ i := Nat.pow_le_pow_left s4 i
      have h2 : 4 ^ i ≤ 4 ^ 3 := Nat.pow_le_pow_right (by decide) hi
      omega
    refine ⟨_, rfl, ar, xr, _, v0, rfl, rfl, qr, atI_nat (j := 0) ev0, ?_⟩
    refine ⟨_, rfl, ar, xr, rfl, .inl qr, 1, (xr.length : Int), rfl, ⟨by omega, by omega, by omega, by omega⟩, ?_⟩
    rw [show ((xr.length : Int) - 1).toNat = ts.length - 1 from by omega]
    refine for_range (n := ts.length - 1) (fun i σ H' => ∃ (spv : V) (dsp : D) (u4 u5 : Option V), σ = [some (.ref aa), some (.ref az), some (.ref ar), some spv, u4, u5, none, none] ∧ Same H H' ∧ Dp K H' spv dsp ∧ sqD dsp (spotsN s (ts.take (i + 1))))
      ⟨v0, d0, none, none, rfl, Same.refl H, hd0, by rw [sp1]; exact sq0⟩ ?_ ?_
    · rintro i σ H2 hi ⟨spv, dsp, u4, u5, rfl, s2, dsv, sqs⟩
      rw [show (1 + (i : Int)) = ((i + 1 : Nat) : Int) from by omega]
      obtain ⟨u, eu⟩ : ∃ u, ts[i + 1]? = some u := ⟨_, List.getElem?_eq_getElem (by omega)⟩
      obtain ⟨vi, di, evi, hdi, sqi⟩ := row (i + 1) u eu
      obtain ⟨a1, k1, rfl, q1⟩ := sq2 dsv sqs
      obtain ⟨a2, k2, rfl, q2⟩ := sq2 (dp_same s2 hdi) sqi
      have hu := ht u (List.mem_of_getElem? eu)
      have l1 := slen (i + 1) (by omega) (by omega)
      have lt1 := slt (i + 1) (by omega) (by omega)
      have es := spots_snoc (s := s) eu
      generalize spotsN s (ts.take (i + 1)) = sp at *
      refine ⟨_, rfl, _, rfl, az, _, _, .int (s : Nat), rfl, rfl, s2.seq qz, atI_nat (by rw [List.getElem?_map, List.getElem?_replicate, if_pos (by omega)]; rfl), ?_⟩
      refine ⟨_, rfl, _, rfl, _, rfl, ar, xr, _, .ref a2, rfl, rfl, s2.seq qr, atI_nat evi, a1, a2, _, _, k1, k2, rfl, q1, q2, fun D hD => walk_it (walk_zip2 (k := k1) (k' := k2) (a := a1) (b := a2) (n := L) (by rw [List.length_map, List.length_map, l1, hu.1]; exact (Nat.min_self L).symm))
        (fun j H' => Same H2 H' ∧ H' D = some (.lst (((stepS s sp u).take j).map fun n : Nat => V.int n))) ⟨same_new hD, upd_same⟩ (fun j H' _ p => ⟨sqK_same p.1 q1, sqK_same p.1 q2⟩) ?_ ?_⟩
      · rintro j x H3 H4 hj ⟨s3, eD⟩ ⟨T, x1, x2, rfl, hT, rfl, hx1, hx2⟩
        have j1 : j < sp.length := by omega
        have j2 : j < u.length := by omega
        obtain rfl : x1 = .int (sp[j] : Nat) := by
          have hx1 : (sp.map fun n : Nat => V.int n)[j]? = some x1 := hx1
          rw [List.getElem?_map, List.getElem?_eq_getElem j1] at hx1
          exact (Option.some.inj hx1).symm
        obtain rfl : x2 = .int (u[j] : Nat) := by
          have hx2 : (u.map fun n : Nat => V.int n)[j]? = some x2 := hx2
          rw [List.getElem?_map, List.getElem?_eq_getElem j2] at hx2
          exact (Option.some.inj hx2).symm
        have b1 := lt1 _ (List.getElem_mem j1)
        have b2 := p64 (i + 1) (by omega)
        have nT := ne_of_none eD hT
        have ej : (stepS s sp u)[j]? = some (sp[j] * s + u[j]) := by
          unfold stepS
          rw [List.getElem?_zipWith, List.getElem?_eq_getElem j1, List.getElem?_eq_getElem j2]
        refine ⟨T, _, rfl, SqT.of upd_same, rfl, _, _, rfl, _, _, rfl, rfl, rfl, ?_⟩
        refine ⟨_, rfl, _, rfl, _, _, rfl, rfl, .inr ⟨by omega, by omega⟩, _, rfl, _, _, rfl, rfl, ?_⟩
        refine ⟨_, by rw [upd_ne nT]; exact eD, ?_, same_of (s3.trans (same_new hT)) hD, ?_⟩
        · rw [List.length_map, List.length_take, sizeLine_eq]
          omega
        · rw [upd_same, take_more ej, List.map_append]
          congr 3
      · rintro H3 ⟨s3, eD⟩
        have le : (stepS s sp u).length = L := by unfold stepS; rw [List.length_zipWith, l1, hu.1, Nat.min_self]
        rw [show (stepS s sp u).take L = stepS s sp u from List.take_of_length_le (by omega)] at eD
        exact ⟨.ref D, .list ((stepS s sp u).map nD), _, _, rfl, s2.trans s3, .lst (SqL.of eD) (dpAll_mkn _), rfl, by rw [es]; rfl⟩
    · rintro σ H2 ⟨spv, dsp, u4, u5, rfl, s2, dsv, sqs⟩
      rw [show ts.length - 1 + 1 = ts.length from by omega, List.take_length] at sqs
      have lt1 := slt ts.length n1 (Nat.le_refl _)
      have l1 := slen ts.length n1 (Nat.le_refl _)
      rw [List.take_length] at lt1 l1
      unfold ansN at k
      generalize spotsN s ts = sp at *
      obtain ⟨a1, k1, rfl, q1⟩ := sq2 dsv sqs
      refine iSq_var (k := k1) rfl q1 fun D hD => walk_it (walk_sq (n := L) (by rw [List.length_map, l1])) (fun j H' => Same H2 H' ∧ H' D = some (.lst (((sp.take j).map fun i => as.getD i 0).map fun n : Nat => V.int n))) ⟨same_new hD, upd_same⟩ (fun i H' _ p => sqK_same p.1 q1) ?_ ?_
      · rintro j x _ H3 hj ⟨s3, eD⟩ ⟨rfl, hx⟩
        refine ⟨rfl, ?_⟩
        have j1 : j < sp.length := by omega
        obtain rfl : x = .int (sp[j] : Nat) := by
          rw [List.getElem?_map, List.getElem?_eq_getElem j1] at hx
          exact (Option.some.inj hx).symm
        have b1 := lt1 _ (List.getElem_mem j1)
        rw [← la] at b1
        refine ⟨_, rfl, _, rfl, aa, _, _, .int (as[sp[j]] : Nat), rfl, rfl, seqT (s2.trans s3) qa, atI_nat (by rw [List.getElem?_map, List.getElem?_eq_getElem b1]; rfl), ?_⟩
        refine ⟨_, eD, ?_, same_of s3 hD, ?_⟩
        · rw [List.length_map, List.length_map, List.length_take, sizeLine_eq]
          omega
        · rw [upd_same, take_more (List.getElem?_eq_getElem j1), List.map_append, List.map_append]
          congr 3
          show [V.int (as[sp[j]] : Nat)] = [V.int (as.getD sp[j] 0 : Nat)]
          rw [List.getD_eq_getElem?_getD, List.getElem?_eq_getElem b1]
          rfl
      · rintro H3 ⟨s3, eD⟩
        rw [List.take_of_length_le (show sp.length ≤ L by omega)] at eD
        refine ⟨D, _, rfl, SqL.of eD, fun q o hq' ho => ?_⟩
        have s6 := same_new (o := .frz o (.tup ((sp.map fun i => as.getD i 0).map fun n : Nat => V.int n))) hq'
        exact k _ _ (s2.trans (s3.trans s6)) (.tup (.inl (.inr ⟨o, upd_same⟩)) (dpAll_mkn _))
end
end K02
/-! operations of tables. -/
namespace K02
open PySem L2 FX SQ
/-- tables that are right: places, answers -/
def tabD (m : Nat) (d : D) (t : List Nat) : Prop := ∃ d1, isSq d = true ∧ items d = [nD m, d1] ∧ sqD d1 t
theorem ixS2 {K : PySem.W.Frag} {H : Hp} {v : V} {d x : D} {i : Nat} (h : Dp K H v d) (hs : isSq d = true) (e : (items d)[i]? = some x) : ∃ u, Dp K H u x ∧ ∀ H', Same H H' → ∀ Q : VK, Q u H' → rIx K v (.int (i : Nat)) H' Q := by
  obtain ⟨a, xs, rfl, q, r⟩ := dp_seq h hs
  obtain ⟨u, eu, hu⟩ := dpAll_at (i := i) r e
  refine ⟨u, hu, fun H' s Q k => ?_⟩
  rcases q with q | q
  · exact .inl ⟨a, xs, _, u, rfl, rfl, s.seq q, atI_nat eu, k⟩
  · exact .inr (.inl ⟨a, xs, _, u, rfl, rfl, seqT s q, atI_nat eu, k⟩)
section
variable {P : Program} {w : World} {K : PySem.W.Frag} {mg : Str → Option Value} {base : Heap} {cB cO cS : Addr}
abbrev sJoin : Stmt := top 34
/-- no sequence of so many; or the first one that is none; or all right -/
def JSc (cB : Addr) (s n : Nat) (as : List Nat) (vt : V) (dt : D) (H : Hp) (E : XK) (OK : Nat → List (List Nat) → Prop) : Prop :=
  (isRow n dt = false ∧ Thr cB "at" (.int (-1)) H E) ∨
  (isRow n dt = true ∧ ∃ (i : Nat) (x : D), (items dt)[i]? = some x ∧ okTb s dt x = false ∧ (∀ j : Nat, j < i → ∀ y, (items dt)[j]? = some y → okTb s dt y = true) ∧ Thr cB "at" (.int (i : Nat)) H E) ∨
  ∃ (m : Nat) (ts : List (List Nat)), isSq dt = true ∧ (items dt).length = n ∧ ts.length = n ∧ m ≤ 2 ∧ (∀ (i : Nat) d t, (items dt)[i]? = some d → ts[i]? = some t → tabD m d t) ∧ (∀ t ∈ ts, t.length = s ^ m ∧ ∀ x ∈ t, x < s) ∧ OK m ts
theorem tabD_ok {s m : Nat} {d : D} {t : List Nat} (h : tabD m d t) (m2 : m ≤ 2) (lt : t.length = s ^ m) (ht : ∀ x ∈ t, x < s) : isTable s 0 6 d = true ∧ x0 d = nD m := by
  obtain ⟨d1, h1, h2, h3, h4⟩ := h
  have e0 : x0 d = nD m := by unfold x0; rw [h2]; rfl
  refine ⟨?_, e0⟩
  unfold isTable
  have hr : isRow 2 d = true := by unfold isRow; rw [h1, h2]; rfl
  rw [and_t hr, h2]
  show (isBt 0 6 (nD m) && (isRow (pow' s (intV (nD m)).toNat) d1 && (items d1).all (isB s))) = true
  have hb : isBt 0 6 (nD m) = true := by
    show (true && (decide ((0 : Int) ≤ (m : Int)) && decide ((m : Int) ≤ 6))) = true
    rw [decide_eq_true (show (0 : Int) ≤ (m : Int) by omega), decide_eq_true (show (m : Int) ≤ 6 by omega)]
    rfl
  rw [and_t hb]
  show (isRow (pow' s m) d1 && (items d1).all (isB s)) = true
  rw [pow_nat]
  have hr1 : isRow ((s ^ m : Nat) : Int) d1 = true := by
    unfold isRow
    rw [h3, h4, List.length_map, lt]
    exact decide_eq_true rfl
  rw [and_t hr1, h4, List.all_map, List.all_eq_true]
  intro x hx
  show isB s (nD x) = true
  rw [isB_nat]
  exact decide_eq_true (ht x hx)
def spJoin (K : PySem.W.Frag) (cB cO : Addr) : Sp := fun vs H Q E => ∃ (vo vt : V) (d dt : D) (s : Nat), vs = [.int s, vo, vt] ∧ Dp K H vo d ∧ Dp K H vt dt ∧ 2 ≤ s ∧ s ≤ 4 ∧ ∃ n as, OpIs s n as d ∧ (∀ ds, dt ≠ .tuple ds) ∧
  JSc cB s n as vt dt H E fun m ts => ∀ H' t va, Same H H' → H' t = some (.tup [.int (m : Nat), va]) → Dp K H' va (.tuple ((ansN s as ts).map nD)) → Q (.ref t) H'
abbrev NJoin : List Str := ["size", "operation", "tables", "places", "answers", "table"]
theorem scJoin : FnScope NJoin ["size", "operation", "tables"] (defScope sJoin) := ⟨rfl, rfl, rfl, by decide +kernel, rfl, by decide +kernel, by decide +kernel⟩
theorem ok_join {f fO fT fA : Addr} {fd fdO fdT fdA : FuncData} (F : Fun K "joined_table" "joined_table" sJoin f fd) (Z : Bi mg) (FO : At K mg "need_operation" sNeedOp fO fdO ["size", "value"]) (GO : FnOk P w K mg base (L2.CX P w) 6 fO fdO ["size", "value"] (spNeedOp K cO cS))
    (FT : At K mg "need_tables" sNeedT fT fdT ["size", "many", "tables"]) (GT : FnOk P w K mg base (L2.CX P w) 5 fT fdT ["size", "many", "tables"] (spNeedT K cB)) (FA : At K mg "answered" sAns fA fdA ["answers", "sizes", "rows"]) :
    FnOk P w K mg base (L2.CX P w) 7 f fd ["size", "operation", "tables"] (spJoin K cB cO) := by
  have GA : FnOk P w K mg base CX0 1 fA fdA ["answers", "sizes", "rows"] (spAns K) := ok_ans FA.F Z
  refine F.okX scJoin (fun vs H Q E h => ?_) (fun cdv A outer sh H vs Q E hr h => ?_)
  · obtain ⟨vo, vt, d, dt, s, rfl, _⟩ := h
    rfl
  · obtain ⟨vo, vt, d, dt, s, rfl, hd, hdt, s2, s4, n, as, O, ntp, sc⟩ := h
    refine ⟨_, pss_cons (ps_asg (pe_callS GO (hr.mono (by decide)) rfl FO.g FO.F.kp FO.b (fun σ => passAt (takes_of rfl rfl rfl rfl) σ) (by exact (pa_cons (pv 0) (pa_cons (pv 1) pa_nil)))) (pg_tup rfl (pgs_cons (pg_name (i := 3) scJoin.nd rfl (Or.inl rfl)) (pgs_cons (pg_name (i := 4) scJoin.nd rfl (Or.inl rfl)) pgs_nil))))
      (pss_cons (ps_expr (pe_callS GT (hr.mono (by decide)) rfl FT.g FT.F.kp FT.b (fun σ => passAt (takes_of rfl rfl rfl rfl) σ) (by exact (pa_cons (pv 0) (pa_cons (pv 3) (pa_cons (pv 2) pa_nil))))))
      (pss_one (ps_ret (pe_tup (by exact (pa_cons (pe_ix ix_seq (pe_ix ix_seq (pv 2) pe_int (fun _ _ => rfl)) pe_int (fun _ _ => rfl))
        (pa_cons (pe_call GA (hr.mono (by decide)) rfl FA.g FA.F.kp FA.b .nil pass0 (by exact (pa_cons (pv 4) (pa_cons (pe_op op_rep (pe_lst (by exact (pa_cons (pv 0) pa_nil))) (pv 3))
          (pa_cons (pe_lc (own := [("table", 5)]) (g := gName 5) (tt := tYes) (wi := iSq K (tVar 2)) (te := tOp (rIx K) (tVar 5) (tC (.int 1))) rfl scJoin.nd (pi_sq (pv 2)) (blkOk_by (N := NJoin) (sc := defScope sJoin) (by decide +kernel)) (fun _ _ _ _ _ => pg_name (i := 5) scJoin.nd rfl (Or.inl rfl)) (fun _ _ _ _ _ => pts_nil)
            (fun _ _ _ _ _ => pe_ix ix_seq (pv 5) pe_int (fun _ _ => rfl))) pa_nil))))) pa_nil))))))), ?_⟩
    refine ⟨_, rfl, _, rfl, op_pre (OK := fun n' as' => n' = n ∧ as' = as) s2 (by omega) hd (.inr ⟨n, as, O, rfl, rfl⟩) fun n' as' O' ok H1 ap va s1 qp da => ?_⟩
    obtain ⟨rfl, rfl⟩ := ok
    refine ⟨ap, _, rfl, qp, rfl, _, _, rfl, _, _, rfl, rfl, ?_⟩
    have n1 := O.n1
    have n3 := O.n3
    refine ⟨_, rfl, _, rfl, _, rfl, s, n', vt, dt, rfl, by omega, by omega, dp_same s1 hdt, fun e => ?_, fun e i x hx hb hj => ?_, fun e hall H2 s2' => ?_⟩
    · rcases sc with ⟨_, k⟩ | ⟨e', _⟩ | ⟨m, ts, hs, hl, _⟩
      · exact k.same s1
      · rw [e'] at e
        cases e
      · have : isRow (n' : Int) dt = true := by unfold isRow; rw [hs, hl]; exact decide_eq_true rfl
        rw [this] at e
        cases e
    · rcases sc with ⟨e', _⟩ | ⟨_, i', x', hx', hb', hj', k⟩ | ⟨m, ts, hs, hl, hlt, m2, htab, hts, _⟩
      · rw [e'] at e
        cases e
      · have : i = i' := by
          rcases Nat.lt_trichotomy i i' with h | h | h
          · rw [hj' i h x hx] at hb
            cases hb
          · exact h
          · rw [hj i' h x' hx'] at hb'
            cases hb'
        subst this
        exact k.same s1
      · exfalso
        have okk : ∀ (j : Nat) y, (items dt)[j]? = some y → isTable s 0 6 y = true ∧ x0 y = nD m := fun j y hy => by
          have hj := (List.getElem?_eq_some_iff.mp hy).1
          have hj2 : j < ts.length := by omega
          have hh := hts _ (List.getElem_mem hj2)
          exact tabD_ok (htab j y _ hy (List.getElem?_eq_getElem hj2)) m2 hh.1 hh.2
        have h0 : x0 (x0 dt) = nD m := by
          have : (items dt)[0]? = some ((items dt)[0]'(by omega)) := List.getElem?_eq_getElem (by omega)
          have e0 : x0 dt = (items dt)[0]'(by omega) := by unfold x0; rw [List.getD_eq_getElem?_getD, this]; rfl
          rw [e0]
          exact (okk 0 _ this).2
        have := okk i x hx
        unfold okTb at hb
        rw [this.1, this.2, h0] at hb
        simp at hb
    · rcases sc with ⟨e', _⟩ | ⟨_, i', x', hx', hb', hj', k⟩ | ⟨m, ts, hs, hl, hlt, m2, htab, hts, k⟩
      · rw [e'] at e
        cases e
      · rw [hall i' x' hx'] at hb'
        cases hb'
      have s02 := s1.trans s2'
      obtain ⟨dx, hdx⟩ : ∃ dx, (items dt)[0]? = some dx := ⟨_, List.getElem?_eq_getElem (by omega)⟩
      obtain ⟨dx1, hsx, hix, hsq1⟩ := htab 0 dx _ hdx (List.getElem?_eq_getElem (by omega))
      obtain ⟨u0, hu0, kk0⟩ := ixS (i := 0) (dp_same s02 hdt) hs hdx
      obtain ⟨u1, hu1, kk1⟩ := ixS (i := 0) (x := nD m) hu0 hsx (by rw [hix]; rfl)
      obtain rfl : u1 = .int (m : Nat) := by cases hu1; rfl
      refine ⟨_, rfl, kk0 _ (kk1 _ ?_)⟩
      refine ⟨_, rfl, _, rfl, (by show 1 ≤ sizeLine; decide), fun l hl1 => ⟨_, rfl, l, _, _, rfl, rfl, upd_same, by omega, by omega, ?_, fun l2 hl2 => ?_⟩⟩
      · rw [Int.toNat_natCast, sizeLine_eq]
        show 1 * n' ≤ _
        omega
      rw [rep_flat]
      have s7 := (same_new (o := .lst [V.int (s : Int)]) hl1).trans (same_new (o := .lst ((List.replicate n' s).map fun n : Nat => V.int n)) hl2)
      have dz := (Dp.lst (K := K) (SqL.of (upd_same (H := upd H2 l (.lst [V.int (s : Int)])) (a := l2) (o := .lst ((List.replicate n' s).map fun n : Nat => V.int n)))) (dpAll_mkn _) : Dp K _ (.ref l2) (.list ((List.replicate n' s).map nD)))
      generalize upd (upd H2 l (.lst [V.int (s : Int)])) l2 (.lst ((List.replicate n' s).map fun n : Nat => V.int n)) = H3 at s7 dz
      have s03 := s02.trans s7
      obtain ⟨a, xs, rfl, q, r⟩ := dp_seq (dp_same s03 hdt) hs
      obtain ⟨kd, qk⟩ : ∃ kd, SqK K H3 kd a xs := q.elim (fun q => ⟨.L, q⟩) fun q => ⟨.T, q⟩
      have lx : xs.length = (items dt).length := dpAll_len r
      refine iSq_var (k := kd) rfl qk fun D hD => walk_it (walk_sq (n := xs.length) rfl) (fun j H' => Same H3 H' ∧ Grow K H' D (((items dt).take j).map fun d => (items d).getD 1 .none)) ⟨same_new hD, Grow.nil⟩ (fun i H' _ p => sqK_same p.1 qk) ?_ ?_
      · rintro j x _ H4 hj ⟨s4', g4⟩ ⟨rfl, hx⟩
        refine ⟨rfl, ?_⟩
        obtain ⟨dj, hdj, hxd⟩ := dpAll_get r hx
        obtain ⟨dj1, hsj, hij, hsqj⟩ := htab j dj _ hdj (List.getElem?_eq_getElem (by omega))
        obtain ⟨u, hu, ku⟩ := ixS2 (i := 1) (x := dj1) hxd hsj (by rw [hij]; rfl)
        obtain ⟨acc, eD, _⟩ := id g4
        have lacc := g4.len eD
        rw [List.length_map, List.length_take] at lacc
        refine ⟨_, rfl, ku H4 s4' _ ⟨acc, eD, by rw [lacc, sizeLine_eq]; omega, same_of s4' hD, ?_⟩⟩
        rw [take_more hdj, List.map_append]
        have e1 : (items dj).getD 1 .none = dj1 := by rw [hij]; rfl
        have hv : Dp K (off H4 D) u dj1 := dp_off hu s4' hD
        show Grow K _ D (_ ++ [(items dj).getD 1 .none])
        rw [e1]
        exact g4.put eD hv
      · rintro H4 ⟨s4', g4⟩
        rw [lx, List.take_length] at g4
        refine ⟨va, .ref l2, .ref D, s, s ^ m, as', ts, _, rfl, dp_same (s2'.trans (s7.trans s4')) da, ?_, g4.dp, ?_, ?_, by omega, by omega, s4, ?_, hts, by rw [hlt]; exact O.len, fun H5 v5 s5 d5 => ⟨(by show 2 ≤ sizeLine; decide), fun t ht => ?_⟩⟩
        · rw [hlt]
          exact dp_same s4' dz
        · rw [List.length_map]
          omega
        · intro i d t hd hti
          rw [List.getElem?_map] at hd
          cases e : (items dt)[i]? with
          | none =>
            rw [e] at hd
            cases hd
          | some y =>
            rw [e] at hd
            obtain ⟨d1, _, h2, h3⟩ := htab i y t e hti
            obtain rfl : d1 = d := by
              have this : (items y).getD 1 .none = d := Option.some.inj hd
              rw [h2] at this
              exact this
            exact h3
        · have h1 : s ^ m ≤ 4 ^ m := Nat.pow_le_pow_left s4 m
          have h2 : 4 ^ m ≤ 4 ^ 2 := Nat.pow_le_pow_right (by decide) m2
          omega
        · have s6 := same_new (o := .tup [.int (m : Nat), v5]) ht
          exact k _ t v5 (s03.trans (s4'.trans (s5.trans s6))) upd_same (dp_same s6 d5)
end
end K02
namespace K02
open PySem L2 FX SQ LamX
/-- all but lists and tables is kept -/
def NL (H H' : Hp) : Prop := ∀ a o, H a = some o → (∀ xs, o ≠ .lst xs) → (∀ ps, o ≠ .tbl ps) → H' a = some o
theorem NL.of {H H' : Hp} (s : Same H H') : NL H H' := fun a o e _ _ => s a o e
theorem NL.ext {H H' : Hp} (s : ExtN H H') : NL H H' := fun a o e _ n => s a o e n
theorem NL.but {p : Addr} {H H' : Hp} (b : Box H p) (s : But p H H') : NL H H' := fun a o e n _ => by
  obtain ⟨x, y, z, q⟩ := b
  exact s a o e fun h => by
    rw [h, q] at e
    exact n _ (Option.some.inj e).symm
theorem NL.put {H : Hp} {a : Addr} {xs : List V} {o : HO} (e : H a = some (.lst xs)) : NL H (upd H a o) := fun b u q n _ => by
  rw [upd_ne fun h => by
    rw [h, e] at q
    exact n _ (Option.some.inj q).symm]
  exact q
theorem NL.trans {H H1 H2 : Hp} (a : NL H H1) (b : NL H1 H2) : NL H H2 := fun c o e n t => b c o (a c o e n t) n t
/-- a kept work: the pair at w, what is told at t, the lambda at f -/
structure Stored (q : Str) (H : Hp) (w f c t : Addr) (told : List V) (params : Arguments) (body : Expr) (scope : Scope) (clo : List (Str × Addr)) : Prop where
  w : H w = some (.tup [.ref f, .ref t])
  t : H t = some (.tup told)
  f : H f = some (LamO f c q params body scope clo)
  c : H c = some (CodeO c q)
theorem Keep.put {p a : Addr} {H0 H : Hp} {o : HO} (k : Keep p H0 H) (n : ∀ u, H0 a = some u → (∀ ps, u ≠ .tbl ps) → False) : Keep p H0 (upd H a o) := fun c u e n1 n2 n3 => by
  rw [upd_ne fun z => by
    rw [z] at e
    exact n u e n2]
  exact k c u e n1 n2 n3
theorem none_ext {H H' : Hp} {a : Addr} (x : ExtN H H') (h : H' a = none) : ∀ u, H a = some u → (∀ ps, u ≠ .tbl ps) → False := fun u e n => by
  rw [x a u e n] at h
  cases h
variable {q : Str} {H H' : Hp} {w f c t : Addr} {told : List V} {params : Arguments} {body : Expr} {scope : Scope} {clo : List (Str × Addr)}
theorem lamO_lst (xs : List V) : LamO f c q params body scope clo ≠ .lst xs := fun z => by unfold LamO at z; cases z
theorem lamO_tbl (xs : Array Value) : LamO f c q params body scope clo ≠ .tbl xs := fun z => by unfold LamO at z; cases z
theorem codeO_lst (xs : List V) : CodeO c q ≠ .lst xs := fun z => by unfold CodeO at z; cases z
theorem Stored.nl (S : Stored q H w f c t told params body scope clo) (n : NL H H') : Stored q H' w f c t told params body scope clo :=
  ⟨n _ _ S.w (fun _ z => nomatch z) (fun _ z => nomatch z), n _ _ S.t (fun _ z => nomatch z) (fun _ z => nomatch z), n _ _ S.f lamO_lst lamO_tbl, n _ _ S.c codeO_lst codeO_ne⟩
theorem Stored.off {g : Addr} {φ : Heap → Prop} (S : Stored q H w f c t told params body scope clo) (e : H g = some (.ext φ)) (n1 : f ≠ g) (n2 : c ≠ g) : Stored q (offA H g) w f c t told params body scope clo :=
  ⟨by rw [offA_of fun z => by have h := S.w; rw [z, e] at h; cases h]; exact S.w, by rw [offA_of fun z => by have h := S.t; rw [z, e] at h; cases h]; exact S.t, by rw [offA_of n1]; exact S.f, by rw [offA_of n2]; exact S.c⟩
theorem tf_same {T : List (Addr × Str)} {fs : List Addr} (h : Tabs T (forg fs H)) (s : Same H H') : Tabs T (forg fs H') := h.ext fun b o e => forg_of (s _ _ (forg_le _ _ e)) (forg_not e)
theorem tf_off {T : List (Addr × Str)} {fs : List Addr} {g : Addr} (h : Tabs T (forg fs H)) (hg : g ∈ fs) : Tabs T (forg fs (offA H g)) := h.ext fun b o e => forg_of (by
  rw [offA_of fun z => forg_not e (by rw [z]; exact hg)]
  exact forg_le _ _ e) (forg_not e)
theorem tf_but {T : List (Addr × Str)} {fs : List Addr} {p : Addr} (h : Tabs T (forg fs H)) (b : Box H p) (s : But p H H') : Tabs T (forg fs H') := by
  obtain ⟨x, y, z, q⟩ := b
  intro u hu
  obtain ⟨ps, h1, h2, h3⟩ := h u hu
  have e1 := forg_le _ _ h1
  refine ⟨ps, forg_of (s _ _ e1 fun z => by rw [z, q] at e1; cases e1) (forg_not h1), h2, fun pos cv hc => ?_⟩
  obtain ⟨c, ec, e2⟩ := h3 pos cv hc
  have e3 := forg_le _ _ e2
  exact ⟨c, ec, forg_of (s _ _ e3 fun z => by rw [z, q] at e3; unfold CodeO at e3; cases e3) (forg_not e2)⟩
theorem tf_put {T : List (Addr × Str)} {fs : List Addr} {a : Addr} {xs : List V} {o : HO} (h : Tabs T (forg fs H)) (e : H a = some (.lst xs)) : Tabs T (forg fs (upd H a o)) := by
  intro u hu
  obtain ⟨ps, h1, h2, h3⟩ := h u hu
  have e1 := forg_le _ _ h1
  refine ⟨ps, forg_of (by rw [upd_ne fun z => by rw [z, e] at e1; cases e1]; exact e1) (forg_not h1), h2, fun pos cv hc => ?_⟩
  obtain ⟨c, ec, e2⟩ := h3 pos cv hc
  have e3 := forg_le _ _ e2
  exact ⟨c, ec, forg_of (by rw [upd_ne fun z => by rw [z, e] at e3; unfold CodeO at e3; cases e3]; exact e3) (forg_not e2)⟩
theorem tf_nil {T : List (Addr × Str)} (h : Tabs T H) : Tabs T (forg [] H) := h.ext fun b o e => forg_of e (by simp)
theorem tf_out {T : List (Addr × Str)} {fs : List Addr} (h : Tabs T (forg fs H)) : Tabs T H := h.ext fun b o e => forg_le _ _ e
theorem noPins {X : Cx} {pb : List (Addr × Obj)} {σ : L2.St} {H : Hp} {s : Shared} (I : Inv X pb σ H s) : Inv X [] σ H s := I.pins_of fun p hp => nomatch hp
/-- what stands at each turn, but the works -/
structure PvB (T : List (Addr × Str)) (fs : List Addr) (p Wl D : Addr) (ws : List V) (H0 H : Hp) : Prop where
  k : Keep p H0 H
  b : Box H p
  t : Tabs T (forg fs H)
  w : H Wl = some (.lst ws)
  d : H D = some (.lst [])
theorem PvB.step {T : List (Addr × Str)} {fs : List Addr} {p Wl D g : Addr} {ws : List V} {H0 H H' : Hp} {φ : Heap → Prop} (P : PvB T fs p Wl D ws H0 H) (e : H g = some (.ext φ)) (hg : g ∈ fs) (s : But p (offA H g) H') (b : Box H' p) (nW : Wl ≠ p) (nD : D ≠ p) : PvB T fs p Wl D ws H0 H' := by
  have nl : ∀ {a : Addr} {xs : List V}, H a = some (.lst xs) → a ≠ g := fun {a xs} h z => by rw [z, e] at h; cases h
  obtain ⟨x, y, z, q⟩ := P.b
  have b0 : Box (offA H g) p := ⟨x, y, z, by rw [offA_of (nl q)]; exact q⟩
  exact ⟨(P.k.trans (Keep.offA e)).trans (Keep.but s), b, tf_but (tf_off P.t hg) b0 s, s _ _ (by rw [offA_of (nl P.w)]; exact P.w) nW, s _ _ (by rw [offA_of (nl P.d)]; exact P.d) nD⟩
theorem Stored.step {p g : Addr} {φ : Heap → Prop} (S : Stored q H w f c t told params body scope clo) (b : Box H p) (e : H g = some (.ext φ)) (n1 : f ≠ g) (n2 : c ≠ g) (s : But p (offA H g) H') : Stored q H' w f c t told params body scope clo := by
  obtain ⟨x, y, z, h⟩ := b
  have b0 : Box (offA H g) p := ⟨x, y, z, by rw [offA_of fun z => by rw [z, e] at h; cases h]; exact h⟩
  exact (S.off e n1 n2).nl (NL.but b0 s)
theorem shaped_si {a : Str} (i : Int) (ha : PyData.strOk a = true) : SeqAt.shaped (.tuple [.str a, .int i]) = true := by
  unfold SeqAt.shaped
  simp [PyData.canLay0, PyData.canLayAll0, PyData.depth, PyData.depthAll, ha]
theorem shaped_ss {a b : Str} (ha : PyData.strOk a = true) (hb : PyData.strOk b = true) : SeqAt.shaped (.tuple [.str a, .str b]) = true := by
  unfold SeqAt.shaped
  simp [PyData.canLay0, PyData.canLayAll0, PyData.depth, PyData.depthAll, ha, hb]
theorem told_eq {a : Str} (i : Int) (ha : PyData.strOk a = true) : PyData.eqv (.tuple [.str a, .int i]) (.tuple [.str a, .int i]) = true := SeqAt.eqv_refl _ (SeqAt.canLay_of_shaped (shaped_si i ha))
theorem told_eqs {a b : Str} (ha : PyData.strOk a = true) (hb : PyData.strOk b = true) : PyData.eqv (.tuple [.str a, .str b]) (.tuple [.str a, .str b]) = true := SeqAt.eqv_refl _ (SeqAt.canLay_of_shaped (shaped_ss ha hb))
theorem okS1 : PyData.strOk "values" = true := by decide +kernel
theorem okS2 : PyData.strOk "size" = true := by decide +kernel
theorem okS3 : PyData.strOk "operation" = true := by decide +kernel
theorem okS4 : PyData.strOk "book" = true := by decide +kernel
end K02
/-! the law's own answer of a table at a row. -/
namespace K02
open PySem L2 FX SQ
theorem mem_grid {s : Nat} : ∀ {m : Nat} {as : List Nat}, as.length = m → (∀ a ∈ as, a < s) → as ∈ gridN s m
  | 0, [], _, _ => List.mem_singleton.mpr rfl
  | m + 1, as, l, h => by
    rw [gridN_succ]
    have ne : as ≠ [] := fun z => by rw [z] at l; cases l
    have e := List.dropLast_concat_getLast ne
    have ld : as.dropLast.length = m := by rw [List.length_dropLast]; omega
    have h1 := mem_grid (s := s) ld fun a ha => h a ((List.dropLast_subset as) ha)
    rw [← e]
    unfold stepN
    exact List.mem_flatMap.mpr ⟨_, h1, List.mem_map.mpr ⟨_, List.mem_range.mpr (h _ (List.getLast_mem ne)), rfl⟩⟩
theorem eqv_all : ∀ a b : List Nat, PyData.eqvAll (a.map nD) (b.map nD) = decide (a = b)
  | [], [] => rfl
  | [], _ :: _ => rfl
  | _ :: _, [] => rfl
  | x :: a, y :: b => by
    have ih := eqv_all a b
    rw [List.map_cons, List.map_cons]
    show (PyData.eqv (nD x) (nD y) && PyData.eqvAll (a.map nD) (b.map nD)) = _
    rw [ih]
    have e : PyData.eqv (nD x) (nD y) = decide (x = y) := by
      show decide ((x : Int) = (y : Int)) = decide (x = y)
      exact decide_eq_decide.mpr (by omega)
    rw [e]
    by_cases h : x = y
    · subst h
      simp
    · simp [h]
theorem eqv_row (a b : List Nat) : PyData.eqv (rowT a) (rowT b) = decide (a = b) := eqv_all a b
theorem shaped_row (r : List Nat) : SeqAt.shaped (rowT r) = true := by
  unfold SeqAt.shaped
  rw [Bool.and_eq_true]
  refine ⟨lay_n r, decide_eq_true ?_⟩
  have := depth_n r
  show PyData.depth (.tuple (r.map nD)) ≤ 64
  simp only [PyData.depth]
  omega
theorem lay_rows : ∀ rs : List (List Nat), PyData.canLayAll0 (rs.map rowT) = true
  | [] => rfl
  | r :: rs => by
    have h := lay_n r
    show (PyData.canLay0 (rowT r) && PyData.canLayAll0 (rs.map rowT)) = true
    rw [lay_rows rs, Bool.and_true]
    exact h
theorem depth_rows : ∀ rs : List (List Nat), PyData.depthAll (rs.map rowT) ≤ 2
  | [] => by decide
  | r :: rs => by
    have h := depth_rows rs
    have h2 := depth_n r
    show max (PyData.depth (rowT r)) (PyData.depthAll (rs.map rowT)) ≤ 2
    refine Nat.max_le.mpr ⟨?_, h⟩
    show PyData.depth (.tuple (r.map nD)) ≤ 2
    simp only [PyData.depth]
    omega
theorem shaped_rows (rs : List (List Nat)) : SeqAt.shaped (.list (rs.map rowT)) = true := by
  unfold SeqAt.shaped
  rw [Bool.and_eq_true]
  refine ⟨lay_rows rs, decide_eq_true ?_⟩
  have := depth_rows rs
  show PyData.depth (.list (rs.map rowT)) ≤ 64
  simp only [PyData.depth]
  omega
section
variable {P : Program} {w : World} {K : PySem.W.Frag} {mg : Str → Option Value} {base : Heap}
abbrev sAtL : Stmt := top 41
def spAtL (K : PySem.W.Frag) : Sp := fun vs H Q _ => ∃ (s n : Nat) (vt vr : V) (as r : List Nat), vs = [.int s, vt, vr] ∧ Dp K H vt (opT (n, as)) ∧ Dp K H vr (.list (r.map nD)) ∧ 1 ≤ s ∧ s ≤ 4 ∧ n ≤ 3 ∧ as.length = s ^ n ∧ r.length = n ∧ (∀ x ∈ r, x < s) ∧
  ∀ H', Same H H' → Q (.int (as.getD (spotN s r) 0 : Nat)) H'
abbrev NAtL : List Str := ["size", "table", "row"]
theorem scAtL : FnScope NAtL ["size", "table", "row"] (defScope sAtL) := ⟨rfl, rfl, rfl, by decide +kernel, rfl, by decide +kernel, by decide +kernel⟩
theorem ok_atL {f fG : Addr} {fd fdG : FuncData} (F : Fun K "_law_at" "_law_at" sAtL f fd) (Z : Bi mg) (FG : At K mg "_law_grid" sGrid fG fdG ["size", "many"]) : FnOk P w K mg base CX0 2 f fd ["size", "table", "row"] (spAtL K) := by
  have GG : FnOk P w K mg base CX0 1 fG fdG ["size", "many"] (spGrid K) := ok_grid FG.F Z
  refine F.ok scAtL (fun vs H Q E h => ?_) (fun cdv A outer sh H vs Q E hr h => ?_)
  · obtain ⟨s, n, vt, vr, as, r, rfl, _⟩ := h
    rfl
  · obtain ⟨s, n, vt, vr, as, r, rfl, ht, hrw, s1, s4, n3, la, lr, hlt, k⟩ := h
    have hu := hr65 hr
    refine ⟨_, pss_one (ps_ret (pe_ix ix_tup (pe_ix ix_tup (pv 1) pe_int (fun _ _ => rfl)) (pe_bm PySem.F.plainAttrs_list PySem.F.slot_list_index PySem.F.type_list_index (mt_indexD hu)
      (pe_call GG hr rfl FG.g FG.F.kp FG.b .nil pass0 (by exact (pa_cons (pv 0) (pa_cons (pe_ix ix_tup (pv 1) pe_int (fun _ _ => rfl)) pa_nil)))) (pa_cons (pe_tupleOf (by rfl) Z.tuple (pv 2)) pa_nil)) (fun _ _ => rfl))), ?_⟩
    obtain ⟨a, xs, rfl, q, r0⟩ := dp_tup ht
    obtain ⟨va, rfl, da⟩ : ∃ va, xs = [.int (n : Int), va] ∧ Dp K H va (.tuple (as.map nD)) := by
      cases r0 with
      | cons h0 r => cases r with
        | cons h1 r => cases r with
          | nil =>
            cases h0
            exact ⟨_, rfl, h1⟩
    obtain ⟨aa, xa, rfl, qa, ra⟩ := dp_tup da
    obtain rfl : xa = as.map fun n : Nat => V.int n := dpAll_eqn ra
    obtain ⟨ar, xr, rfl, qr, rr⟩ := dp_list hrw
    obtain ⟨i, hi, ei⟩ := List.mem_iff_getElem.mp (mem_grid (s := s) lr hlt)
    have gi : (gridN s n)[i]? = some r := by rw [List.getElem?_eq_getElem hi, ei]
    have si := grid_spot gi
    have la' : spotN s r < as.length := by
      rw [si, la, ← gridN_len]
      exact hi
    refine ⟨_, rfl, a, _, _, .ref aa, rfl, rfl, q, atI_nat (j := 1) rfl, ?_⟩
    refine ⟨_, rfl, _, rfl, a, _, _, .int (n : Int), rfl, rfl, q, atI_nat (j := 0) rfl, s, n, rfl, by omega, by omega, fun H1 vg s1' fg => ?_⟩
    have dg := fg.dp
    obtain ⟨ag, xg, rfl, _, eg, _⟩ := fg
    refine ⟨.inl ⟨rfl, _, SqL.of eg⟩, _, rfl, .inl ⟨ar, xr, rfl, s1'.seq qr, fun t ht2 => ?_⟩⟩
    have s3 := same_new (o := .tup xr) ht2
    refine ⟨ag, .ref t, rowT r, _, i, rowT r, rfl, rfl, dp_same s3 dg, .tup (SqT.of upd_same) (dpAll_same (s1'.trans s3) rr), shaped_rows _, shaped_row r, by rw [List.getElem?_map, gi]; rfl, by rw [eqv_row]; exact decide_eq_true rfl, fun m z' hm hz => ?_, ?_⟩
    · rw [List.getElem?_map] at hz
      cases e : (gridN s n)[m]? with
      | none =>
        rw [e] at hz
        cases hz
      | some y =>
        rw [e] at hz
        obtain rfl : rowT y = z' := Option.some.inj hz
        have sm := grid_spot e
        rw [eqv_row]
        refine decide_eq_false fun z => ?_
        rw [z] at sm
        omega
    · have kk := k _ (s1'.trans s3)
      rw [si, List.getD_eq_getElem?_getD, List.getElem?_eq_getElem (by rw [← si]; exact la')] at kk
      exact ⟨aa, _, _, _, rfl, rfl, seqT (s1'.trans s3) qa, atI_nat (j := i) (by rw [List.getElem?_map, List.getElem?_eq_getElem (by rw [← si]; exact la')]; rfl), kk⟩
end
end K02
/-! dicts whose keys are tuples: setdefault; a walk over their values. -/
namespace SQ
open PySem PySem.Spec PyProof.Rows L2
section
variable {X : Cx}
/-- d.setdefault(k, y) -/
def rSetdT : V → List V → Hp → VK → Prop := fun x xs H Q => ∃ (a : Addr) (kvs : List (List Key × V)) (k : List Key) (b : Addr) (y : V), x = .ref a ∧ xs = [.ref b, y] ∧ H a = some (.dT kvs) ∧ H b = some (.tup (k.map kV)) ∧ kvs.length < sizeLine ∧
  (∀ v, valV kvs k = some v → Q v H) ∧ (valV kvs k = none → Q y (upd H a (.dT (putK kvs k y))))
theorem mt_setdT (hu : X.A.units + 1 < cLine) : MtR X "dict.setdefault" rSetdT := by
  intro pins s σ H x xs v us Q I rx rxs h
  obtain ⟨a, kvs, k, b, y, rfl, rfl, hH, hb, hz, q1, q2⟩ := h
  obtain ⟨u0, u, rfl, r0, ru⟩ := vals2 rxs
  obtain rfl : v = .ref a := rx
  obtain rfl : u0 = .ref b := r0
  obtain ⟨_, hsys, ys, kt, hd⟩ := dt_of I.hok hH
  have hk := key_of I.hok hb
  have ly : ys.length = kvs.length := (Paired.length kt).symm
  have kv := KT.val kt k
  refine call_setdefault_heap (knd := tupleKind (mixKind X.prog X.w)) (tupleKind_room_in1 hu) hk hsys hd (fun p hp => ?_) (fun hn h' hm' hs => ?_) (by rw [ly]; omega)
  · rw [hp] at kv
    cases e : valV kvs k with
    | none =>
      rw [e] at kv
      exact kv.elim
    | some v =>
      rw [e] at kv
      exact ⟨v, H, I.tok _, kv, q1 v e⟩
  · rw [hn] at kv
    have e : valV kvs k = none := by
      cases e : valV kvs k with
      | none => rfl
      | some v =>
        rw [e] at kv
        exact kv.elim
    have nn : ∀ {c : Addr} {zs : List V}, H c = some (.tup zs) → c ≠ a := fun hc e => by
      rw [e, hH] at hc
      cases hc
    have kt' : KT (upd H a (.dT (putK kvs k y))) (putK kvs k y) (storedH ys k b u) := by
      refine KT.keeps (KT.put kt k hb ru) fun c zs hc => ?_
      rw [upd_ne (nn hc)]
      exact hc
    refine ⟨y, _, d_write I (by rw [hH]; trivial) hs ?_ ?_, ru, q2 e⟩
    · obtain ⟨o, es, ep, e1, _⟩ := hm'
      exact ⟨o, e1⟩
    · obtain ⟨o, es, ep, e1, e2, e3, e4, e5, e6⟩ := hm'
      have lp : (putK kvs k y).length ≤ kvs.length + 1 := by
        unfold putK
        split
        · rw [List.length_map]
          omega
        · rw [List.length_append]
          exact Nat.le_refl _
      exact ⟨by omega, hsys, _, kt', o, es, ep, e1, e2, e3, e4, e6⟩
theorem frzV {pins : List (Addr × Obj)} {σ : L2.St} {H : Hp} {s : Shared} {d : Addr} {o : Obj} {kvs : List (List Key × V)} (I : Inv X pins σ H s) (h : H d = some (.frz o (.dT kvs))) :
    (d == sysModules) = false ∧ ∃ es ep, s.heap.get? d = some o ∧ o.ExactDict ∧ o.data = Data.dict es ep ∧ es.size = kvs.length ∧ ∀ (i : Nat) (k : List Key) (v : V), kvs[i]? = some (k, v) → ∃ en : DictEntry, es[i]? = some en ∧ L2.RelV v en.val := by
  obtain ⟨e0, hok⟩ := I.hok d _ h
  obtain ⟨_, hsys, xs, pr, o', es, ep, e1, e2, e3, e4, _⟩ := hok
  rw [e0] at e1
  cases e1
  have lx : es.size = kvs.length := by
    rw [← Array.length_toList, e4, List.length_map]
    exact (Paired.length pr).symm
  refine ⟨hsys, es, ep, e0, e2, e3, lx, ?_⟩
  have hp : ∀ {kvs : List (List Key × V)} {xs : List (List Key × Addr × Value)}, Paired (fun p q => p.1 = q.1 ∧ H q.2.1 = some (.tup (p.1.map kV)) ∧ L2.RelV p.2 q.2.2) kvs xs → ∀ (i : Nat) (k : List Key) (v : V), kvs[i]? = some (k, v) → ∃ x : List Key × Addr × Value, xs[i]? = some x ∧ L2.RelV v x.2.2 := by
    intro kvs xs pr
    induction pr with
    | nil => exact fun i k v e => by simp at e
    | cons h _ ih =>
      intro i k v e
      cases i with
      | zero =>
        simp at e
        subst e
        exact ⟨_, rfl, h.2.2⟩
      | succ i =>
        obtain ⟨x, ex, r⟩ := ih i k v (by simpa using e)
        exact ⟨x, by simpa using ex, r⟩
  intro i k v e
  obtain ⟨x, ex, r⟩ := hp pr i k v e
  refine ⟨entryOfKey (tupleKind (mixKind X.prog X.w)) x, ?_, r⟩
  rw [← Array.getElem?_toList, e4, List.getElem?_map, ex]
  rfl
def ItdT : Addr → Obj → List (List Key × V) → It := fun d o kvs =>
  ⟨fun i H => H d = some (.frz o (.dT kvs)) ∧ i < kvs.length, fun i H x H' => H' = H ∧ ∃ k, kvs[i]? = some (k, x), fun i H => H d = some (.frz o (.dT kvs)) ∧ kvs.length ≤ i⟩
theorem walk_valuesT {d : Addr} {o : Obj} {kvs : List (List Key × V)} : Walk (ItdT d o kvs) kvs.length (fun H => H d = some (.frz o (.dT kvs))) (fun i H x H' => H' = H ∧ ∃ k, kvs[i]? = some (k, x)) :=
  ⟨fun i _ hi q => ⟨q, hi⟩, fun _ q => ⟨q, Nat.le_refl _⟩, fun i H v H' _ q y => y⟩
theorem turn_valsT {P : Program} {w : World} {K : PySem.W.Frag} {tg : Expr} {d : Addr} {o : Obj} {es : Array DictEntry} {ep : Nat} {kvs : List (List Key × V)} (it : Addr) (he : o.data = Data.dict es ep) :
    Turn P w K tg (ItdT d o kvs) [it] it fun i h => h.IsValIter it d i kvs.length ep where
  mem := by simp
  obj := fun i h st c hc => by
    obtain rfl : c = it := by simpa using hc
    obtain ⟨o, e1, e2, e3⟩ := st
    exact ⟨o, e1, fun v q => by rw [e3] at q; cases q⟩
  keep := fun i h h' st kp => st.at fun o q => kp it (by simp) o q
  item := by
    intro X hP hw hK hc i pins s σ H E I hf st hg
    subst hP hw hK
    obtain ⟨hd, hi⟩ := hg
    obtain ⟨_, es', ep', e0, e1, e2, e3, e4⟩ := frzV I hd
    obtain ⟨rfl, rfl⟩ := dict_ep he e2
    have hi' : i < es'.size := by rw [e3]; exact hi
    obtain ⟨en, en1, r⟩ := e4 i kvs[i].1 kvs[i].2 (List.getElem?_eq_getElem hi)
    have een : es'[i] = en := by
      rw [Array.getElem?_eq_getElem hi'] at en1
      exact Option.some.inj en1
    rw [← e3] at st
    refine wpAny_pyNext_values_item_raw st ⟨o, e0, e1, e2⟩ hi' fun h' st' sb => ⟨_, rfl, ?_⟩
    rw [een]
    have F := hf it (by simp)
    have I1 : Inv X pins σ H { s with heap := h' } := I.turned (t' := s.toks) (it := it) (fun b o hb e => by rw [sb.2 b hb]; exact e) F.1 F.2.1 F.2.2.2.1 F.2.2.2.2.1 F.2.2.2.2.2
    obtain ⟨o', e1', e2', e3'⟩ := id st'
    refine go_of e1' e2' e3' (by decide) ⟨kvs[i].2, H, I1, r, ⟨rfl, kvs[i].1, List.getElem?_eq_getElem hi⟩, ?_, fun c hc' => (hf c hc').1⟩
    rw [e3] at st'
    exact st'
  done := by
    intro X hP hw hK hc i pins s σ H E I hf st hg
    subst hP hw hK
    obtain ⟨hd, hi⟩ := hg
    obtain ⟨_, es', ep', e0, e1, e2, e3, e4⟩ := frzV I hd
    obtain ⟨rfl, rfl⟩ := dict_ep he e2
    rw [← e3] at st
    have F := hf it (by simp)
    exact wpAny_pyNext_values_end_raw (I.ok.hd hc) st ⟨o, e0, e1, e2⟩ (by rw [e3]; exact hi) fun h' sb => ⟨rfl, I.turned (t' := s.toks) (it := it) sb F.1 F.2.1 F.2.2.2.1 F.2.2.2.2.1 F.2.2.2.2.2⟩
  self := fun A i s Q E st h => wpAny_pyIter_valiter st h
def iValsT (td : TE) : TI := fun σ H R => td σ H fun x H1 => ∃ d o kvs, x = .ref d ∧ H1 d = some (.frz o (.dT kvs)) ∧ R (ItdT d o kvs) H1
theorem pi_valuesT {tg e : Expr} {td : TE} {apos cpos : Pos} (h : PE X e td) (hb : attributeBase e "values" X.env (eval e X.env) = eval e X.env := by rfl) (hl : (apos.endLine == cpos.line) = true := by rfl) :
    PI X tg (.Call (.Attribute e "values" apos) [] [] cpos) (iValsT td) := by
  refine ⟨fun pins s σ H R I hw => wpAny_Call_method hb rfl hl PySem.F.plainAttrs_dict PySem.F.slot_dict_values PySem.F.type_dict_values (thn (h.run pins s σ H _ I hw) fun v s1 ⟨x, H1, I1, r1, q1⟩ => ?_)⟩
  obtain ⟨d, o, kvs, rfl, hd, q⟩ := q1
  obtain rfl : v = .ref d := r1
  obtain ⟨hsys, es, ep, e0, e1, e2, e3, e4⟩ := frzV I1 hd
  have raw : s1.heap.DictRaw d es ep := ⟨o, e0, e1, e2⟩
  refine ⟨raw.typeIs, fun a ha => ?_, ?_⟩
  · cases ha
    exact ⟨o, e0, e1.2.1⟩
  refine method_meetsIn PySem.F.slot_dict_values PySem.F.entry_dict_values rfl (PySem.evalArgs_none ⟨rfl, raw.typeIs, PySem.F.args_dict_values_1 _, _, meets_dict_values_raw d hsys, ⟨es, ep, raw⟩, ?_⟩)
  show wpAny (model X.prog X.w) X.A (pyIter (.ref s1.heap.objs.size)) _ _ _
  have I2 : Inv X pins σ H1 { s1 with heap := s1.heap.push { cls := .type "dict_values", data := .fields #[.ref d] } } := I1.kept (t' := s1.toks) fun b o e => Heap.get?_push_of_some _ e
  refine wpAny_pyIter_values_raw ⟨_, Heap.get?_push_size _ rfl, rfl, rfl⟩ (show Heap.DictRaw _ d es ep from ⟨o, Heap.get?_push_of_some _ e0, e1, e2⟩) ?_
  refine pi_one I2 _ (turn_valsT (es := es) (ep := ep) _ e2) ?_ q
  rw [← e3]
  exact ⟨_, Heap.get?_push_size _ rfl, rfl, rfl⟩
end
end SQ
/-! two places on both of which an operation hangs. -/
namespace K02
open PySem L2 FX SQ
def stepG {α : Type} (acc : List (List α)) (c : List α) : List (List α) := acc.flatMap fun r => c.map fun x => r ++ [x]
def rowsG {α : Type} (css : List (List α)) : List (List α) := css.foldl stepG [[]]
theorem rows_oD (css : List (List (Option Nat))) : rowsOf (css.map fun c => c.map oD) = (rowsG css).map fun r => r.map oD := by
  suffices h : ∀ acc : List (List (Option Nat)), (css.map fun c => c.map oD).foldl stepRows (acc.map fun r => r.map oD) = (css.foldl stepG acc).map fun r => r.map oD from h [[]]
  induction css with
  | nil => exact fun acc => rfl
  | cons c css ih =>
    intro acc
    rw [List.map_cons, List.foldl_cons, List.foldl_cons, ← ih]
    congr 1
    unfold stepRows stepG
    rw [List.flatMap_map, List.map_flatMap]
    congr 1
    funext r
    rw [List.map_map, List.map_map]
    congr 1
    funext x
    simp
def choiceO (s p o a : Nat) : List (Option Nat) := if a = p ∨ a = o then [none] else (List.range s).map some
def heldsO (s n p o : Nat) : List (List (Option Nat)) := rowsG ((List.range n).map (choiceO s p o))
def goodO (s : Nat) (as : List Nat) (c : Nat × Nat × List (Option Nat)) : Bool := decide ((hungN s 2 (heldAns s as c.2.2)).length = 2)
def candR (s n o p : Nat) : List (Nat × Nat × List (Option Nat)) := (heldsO s n p o).map fun h => (p, o, h)
def candP (s n o : Nat) : List (Nat × Nat × List (Option Nat)) := (List.range o).flatMap (candR s n o)
def twoN (s n : Nat) (as : List Nat) : Option (Nat × Nat × List (Option Nat)) := ((List.range n).flatMap (candP s n)).find? (goodO s as)
theorem flat_split {α : Type} (f : Nat → List α) {i n : Nat} (h : i < n) : ∃ rest, (List.range n).flatMap f = (List.range i).flatMap f ++ (f i ++ rest) := by
  obtain ⟨m, rfl⟩ : ∃ m, n = i + 1 + m := ⟨n - (i + 1), by omega⟩
  refine ⟨((List.range m).map (fun x => i + 1 + x)).flatMap f, ?_⟩
  rw [List.range_add, List.flatMap_append, List.range_succ, List.flatMap_append, List.append_assoc]
  congr 1
  simp
theorem flat_none {α : Type} (f : Nat → List α) (g : α → Bool) {i : Nat} (h1 : ((List.range i).flatMap f).find? g = none) (h2 : (f i).find? g = none) : ((List.range (i + 1)).flatMap f).find? g = none := by
  rw [List.range_succ, List.flatMap_append, List.find?_append, h1]
  simpa using h2
theorem find_at {α : Type} {g : α → Bool} {l1 l2 : List α} {x : α} (h : l1.find? g = none) (hx : g x = true) : (l1 ++ x :: l2).find? g = some x := by
  rw [List.find?_append, h, List.find?_cons, hx]
  rfl
theorem two_at {s n : Nat} {as : List Nat} {i j k : Nat} {h : List (Option Nat)} (hi : i < n) (hj : j < i) (hk : (heldsO s n j i)[k]? = some h) (g1 : ((List.range i).flatMap (candP s n)).find? (goodO s as) = none) (g2 : ((List.range j).flatMap (candR s n i)).find? (goodO s as) = none)
    (g3 : (((heldsO s n j i).take k).map fun h => (j, i, h)).find? (goodO s as) = none) (gd : goodO s as (j, i, h) = true) : twoN s n as = some (j, i, h) := by
  unfold twoN
  obtain ⟨r1, e1⟩ := flat_split (candP s n) hi
  obtain ⟨r2, e2⟩ := flat_split (candR s n i) hj
  have e3 : candR s n i j = (((heldsO s n j i).take k).map fun h => (j, i, h)) ++ (j, i, h) :: (((heldsO s n j i).drop (k + 1)).map fun h => (j, i, h)) := by
    unfold candR
    have : heldsO s n j i = (heldsO s n j i).take k ++ h :: (heldsO s n j i).drop (k + 1) := by
      obtain ⟨hlt, hh⟩ := List.getElem?_eq_some_iff.mp hk
      rw [← hh, ← List.drop_eq_getElem_cons hlt, List.take_append_drop]
    conv => lhs; rw [this]
    rw [List.map_append, List.map_cons]
  have e4 : candP s n i = (List.range j).flatMap (candR s n i) ++ (candR s n i j ++ r2) := e2
  rw [e1, e4, e3]
  rw [show ∀ (A B C R2 R1 : List (Nat × Nat × List (Option Nat))) (x : Nat × Nat × List (Option Nat)) (T : List (Nat × Nat × List (Option Nat))), A ++ (B ++ ((C ++ x :: T) ++ R2) ++ R1) = (A ++ (B ++ C)) ++ x :: (T ++ R2 ++ R1) from fun A B C R2 R1 x T => by simp]
  refine find_at ?_ gd
  rw [List.find?_append, g1, List.find?_append, g2, g3]
  rfl
/-- what is held: nothing at the two, values elsewhere -/
theorem all_lt {n : Nat} {p : Nat → Bool} (h : (List.range n).all p = true) {i : Nat} (hi : i < n) : p i = true := List.all_eq_true.mp h i (List.mem_range.mpr hi)
theorem helds_all : ((List.range 5).all fun s => (List.range 4).all fun n => (List.range n).all fun o => (List.range o).all fun p => decide ((heldsO s n p o).length ≤ 100) && (((List.range n).map (choiceO s p o)).all fun c => decide (c.length ≤ 8)) && ((heldsO s n p o).all fun h => decide (h.length = n) && decide ((rowsN (h.map (choiceN s))).length = s ^ 2))) = true := by decide +kernel
theorem helds_at {s n o p : Nat} (s5 : s < 5) (n4 : n < 4) (ho : o < n) (hp : p < o) : (heldsO s n p o).length ≤ 100 ∧ (∀ c ∈ (List.range n).map (choiceO s p o), c.length ≤ 8) ∧ ∀ h ∈ heldsO s n p o, h.length = n ∧ (rowsN (h.map (choiceN s))).length = s ^ 2 := by
  have h := all_lt (all_lt (all_lt (all_lt helds_all s5) n4) ho) hp
  simp only [Bool.and_eq_true, decide_eq_true_eq, List.all_eq_true] at h
  exact ⟨h.1.1, h.1.2, h.2⟩
theorem helds_lt {s n o p : Nat} {h : List (Option Nat)} (hh : h ∈ heldsO s n p o) : ∀ m, some m ∈ h → m < s := by
  unfold heldsO rowsG at hh
  suffices q : ∀ (css : List (List (Option Nat))) (acc : List (List (Option Nat))), (∀ c ∈ css, ∀ m, some m ∈ c → m < s) → (∀ r ∈ acc, ∀ m, some m ∈ r → m < s) → ∀ r ∈ css.foldl stepG acc, ∀ m, some m ∈ r → m < s by
    refine q _ _ (fun c hc m hm => ?_) (fun r hr m hm => ?_) h hh
    · obtain ⟨a, _, rfl⟩ := List.mem_map.mp hc
      unfold choiceO at hm
      split at hm
      · rw [List.mem_singleton] at hm
        cases hm
      · obtain ⟨b, hb, e⟩ := List.mem_map.mp hm
        cases e
        exact List.mem_range.mp hb
    · rw [List.mem_singleton] at hr
      subst hr
      cases hm
  intro css
  induction css with
  | nil => exact fun acc _ ha => ha
  | cons c css ih =>
    intro acc hc ha
    refine ih (stepG acc c) (fun c' h' => hc c' (List.mem_cons_of_mem _ h')) fun r hr m hm => ?_
    obtain ⟨r0, h0, h1⟩ := List.mem_flatMap.mp hr
    obtain ⟨x, hx, rfl⟩ := List.mem_map.mp h1
    rcases List.mem_append.mp hm with h2 | h2
    · exact ha r0 h0 m h2
    · rw [List.mem_singleton] at h2
      exact hc c (List.mem_cons_self ..) m (by rw [h2]; exact hx)
end K02
/-! rows by what is left of them without a place. -/
namespace K02
open PySem L2 FX SQ
def addG : List (List Nat × List Nat) → List Nat → Nat → List (List Nat × List Nat)
  | [], k, v => [(k, [v])]
  | (k', vs) :: r, k, v => if k' = k then (k', vs ++ [v]) :: r else (k', vs) :: addG r k v
def keyK (k : List Nat) : List Key := k.map fun n : Nat => Sum.inl (n : Int)
theorem keyK_inj : ∀ {a b : List Nat}, keyK a = keyK b → a = b
  | [], [], _ => rfl
  | [], _ :: _, h => by cases h
  | _ :: _, [], h => by cases h
  | x :: a, y :: b, h => by
    unfold keyK at h
    rw [List.map_cons, List.map_cons] at h
    injection h with h1 h2
    injection h1 with h1
    rw [keyK_inj (a := a) (b := b) h2]
    congr 1
    omega
theorem keyK_V (k : List Nat) : (keyK k).map kV = k.map fun n : Nat => V.int n := by
  unfold keyK
  rw [List.map_map]
  rfl
inductive GRel (H : Hp) : List (List Key × V) → List (List Nat × List Nat) → List Addr → Prop
  | nil : GRel H [] [] []
  | cons {k : List Nat} {l : Addr} {vs : List Nat} {kvs : List (List Key × V)} {gs : List (List Nat × List Nat)} {ls : List Addr} (h : H l = some (.lst (vs.map fun n : Nat => V.int n))) (n : l ∉ ls) (r : GRel H kvs gs ls) : GRel H ((keyK k, .ref l) :: kvs) ((k, vs) :: gs) (l :: ls)
theorem GRel.len {H : Hp} {kvs : List (List Key × V)} {gs : List (List Nat × List Nat)} {ls : List Addr} (g : GRel H kvs gs ls) : kvs.length = gs.length := by
  induction g with
  | nil => rfl
  | cons h n r ih => rw [List.length_cons, List.length_cons, ih]
theorem GRel.at {H H' : Hp} {kvs : List (List Key × V)} {gs : List (List Nat × List Nat)} {ls : List Addr} (g : GRel H kvs gs ls) (s : ∀ l ∈ ls, H' l = H l) : GRel H' kvs gs ls := by
  induction g with
  | nil => exact .nil
  | cons h n r ih => exact .cons (by rw [s _ (List.mem_cons_self ..)]; exact h) n (ih fun l hl => s l (List.mem_cons_of_mem _ hl))
theorem GRel.lst {H : Hp} {kvs : List (List Key × V)} {gs : List (List Nat × List Nat)} {ls : List Addr} (g : GRel H kvs gs ls) : ∀ l ∈ ls, ∃ xs, H l = some (.lst xs) := by
  induction g with
  | nil => exact fun l hl => by cases hl
  | cons h n r ih =>
    intro l hl
    rcases List.mem_cons.mp hl with rfl | hl
    · exact ⟨_, h⟩
    · exact ih l hl
theorem GRel.same {H H' : Hp} {kvs : List (List Key × V)} {gs : List (List Nat × List Nat)} {ls : List Addr} (g : GRel H kvs gs ls) (s : Same H H') : GRel H' kvs gs ls :=
  g.at fun l hl => by
    obtain ⟨xs, e⟩ := g.lst l hl
    rw [e]
    exact s _ _ e
theorem GRel.off {H : Hp} {a : Addr} {o : HO} {kvs : List (List Key × V)} {gs : List (List Nat × List Nat)} {ls : List Addr} (g : GRel H kvs gs ls) (n : a ∉ ls) : GRel (upd H a o) kvs gs ls :=
  g.at fun l hl => upd_ne fun e => n (e ▸ hl)
/-- the key is there -/
theorem GRel.hit {H : Hp} {kvs : List (List Key × V)} {gs : List (List Nat × List Nat)} {ls : List Addr} (g : GRel H kvs gs ls) {k : List Nat} {w : V} (v : Nat) : valV kvs (keyK k) = some w →
    ∃ l vs, w = .ref l ∧ l ∈ ls ∧ H l = some (.lst (vs.map fun n : Nat => V.int n)) ∧ (∃ g ∈ gs, g.2 = vs) ∧ GRel (upd H l (.lst ((vs ++ [v]).map fun n : Nat => V.int n))) kvs (addG gs k v) ls := by
  induction g with
  | nil => exact fun h => nomatch h
  | @cons k' l vs kvs gs ls h n r ih =>
    intro e
    unfold valV at e
    rw [List.find?_cons] at e
    by_cases hk : keyK k' = keyK k
    · have hk' := keyK_inj hk
      subst hk'
      simp at e
      refine ⟨l, vs, e.symm, List.mem_cons_self .., h, ⟨_, List.mem_cons_self .., rfl⟩, ?_⟩
      show GRel _ _ (if k' = k' then _ else _) _
      rw [if_pos rfl]
      exact .cons upd_same n (r.off n)
    · have hk' : k' ≠ k := fun z => hk (by rw [z])
      simp [hk] at e
      obtain ⟨l', vs', e1, e2, e3, ⟨g', hg, hg2⟩, e4⟩ := ih (by unfold valV; simpa using e)
      refine ⟨l', vs', e1, List.mem_cons_of_mem _ e2, e3, ⟨g', List.mem_cons_of_mem _ hg, hg2⟩, ?_⟩
      show GRel _ _ (if k' = k then _ else _) _
      rw [if_neg hk']
      exact .cons (by rw [upd_ne (show l ≠ l' from fun z => n (by rw [z]; exact e2))]; exact h) n e4
/-- the key is new -/
theorem GRel.miss {H : Hp} {kvs : List (List Key × V)} {gs : List (List Nat × List Nat)} {ls : List Addr} (g : GRel H kvs gs ls) {k : List Nat} {l : Addr} (v : Nat) (hl : H l = some (.lst [.int (v : Nat)])) (n : l ∉ ls) : valV kvs (keyK k) = none → GRel H (putK kvs (keyK k) (.ref l)) (addG gs k v) (ls ++ [l]) := by
  intro e
  have ea : (kvs.any fun kv => decide (kv.1 = keyK k)) = false := by
    unfold valV at e
    rw [Option.map_eq_none_iff, List.find?_eq_none] at e
    rw [List.any_eq_false]
    exact e
  unfold putK
  rw [ea]
  show GRel H (kvs ++ _) _ _
  clear e
  induction g with
  | nil => exact .cons (vs := [v]) hl (by simp) .nil
  | @cons k' l' vs kvs gs ls h n' r ih =>
    rw [List.any_cons, Bool.or_eq_false_iff] at ea
    have hk' : k' ≠ k := fun z => by
      have := of_decide_eq_false ea.1
      exact this (by rw [z])
    show GRel _ _ (if k' = k then _ else _) _
    rw [if_neg hk']
    refine .cons h (fun hm => ?_) (ih (fun hm => n (List.mem_cons_of_mem _ hm)) ea.2)
    rcases List.mem_append.mp hm with hm | hm
    · exact n' hm
    · rw [List.mem_singleton] at hm
      exact n (by rw [hm]; exact List.mem_cons_self ..)
theorem addG_len : ∀ (gs : List (List Nat × List Nat)) (k : List Nat) (v : Nat), (addG gs k v).length ≤ gs.length + 1
  | [], k, v => Nat.le_refl _
  | (k', vs) :: r, k, v => by
    have := addG_len r k v
    show (if k' = k then _ else _ : List (List Nat × List Nat)).length ≤ _
    split
    · rw [List.length_cons, List.length_cons]
      omega
    · rw [List.length_cons, List.length_cons]
      omega
theorem addG_vals {m : Nat} : ∀ (gs : List (List Nat × List Nat)) (k : List Nat) (v : Nat), (∀ g ∈ gs, g.2.length ≤ m) → ∀ g ∈ addG gs k v, g.2.length ≤ m + 1
  | [], k, v, _, g, hg => by
    have : g = (k, [v]) := List.mem_singleton.mp hg
    subst this
    show 1 ≤ m + 1
    omega
  | (k', vs) :: r, k, v, h, g, hg => by
    have h0 := h (k', vs) (List.mem_cons_self ..)
    have hr : ∀ g ∈ r, g.2.length ≤ m := fun g hg => h g (List.mem_cons_of_mem _ hg)
    have hg : g ∈ (if k' = k then (k', vs ++ [v]) :: r else (k', vs) :: addG r k v) := hg
    split at hg
    · rcases List.mem_cons.mp hg with rfl | hg
      · show (vs ++ [v]).length ≤ m + 1
        rw [List.length_append]
        exact Nat.succ_le_succ h0
      · have := hr g hg
        omega
    · rcases List.mem_cons.mp hg with rfl | hg
      · show vs.length ≤ m + 1
        have : vs.length ≤ m := h0
        omega
      · exact addG_vals r k v hr g hg
theorem addG_ne : ∀ (gs : List (List Nat × List Nat)) (k : List Nat) (v : Nat), (∀ g ∈ gs, g.2 ≠ []) → ∀ g ∈ addG gs k v, g.2 ≠ []
  | [], k, v, _, g, hg => by
    have : g = (k, [v]) := List.mem_singleton.mp hg
    subst this
    exact List.cons_ne_nil _ _
  | (k', vs) :: r, k, v, h, g, hg => by
    have hr : ∀ g ∈ r, g.2 ≠ [] := fun g hg => h g (List.mem_cons_of_mem _ hg)
    have hg : g ∈ (if k' = k then (k', vs ++ [v]) :: r else (k', vs) :: addG r k v) := hg
    split at hg
    · rcases List.mem_cons.mp hg with rfl | hg
      · show vs ++ [v] ≠ []
        simp
      · exact hr g hg
    · rcases List.mem_cons.mp hg with rfl | hg
      · exact h _ (List.mem_cons_self ..)
      · exact addG_ne r k v hr g hg
def mapG (f : Nat → Nat) (gs : List (List Nat × List Nat)) : List (List Nat × List Nat) := gs.map fun g => (g.1, g.2.map f)
theorem addG_map (f : Nat → Nat) : ∀ (gs : List (List Nat × List Nat)) (k : List Nat) (v : Nat), addG (mapG f gs) k (f v) = mapG f (addG gs k v)
  | [], k, v => rfl
  | (k', vs) :: r, k, v => by
    have ih := addG_map f r k v
    show (if k' = k then (k', vs.map f ++ [f v]) :: mapG f r else (k', vs.map f) :: addG (mapG f r) k (f v)) = mapG f (if k' = k then (k', vs ++ [v]) :: r else (k', vs) :: addG r k v)
    rw [ih]
    split
    · show _ = (k', (vs ++ [v]).map f) :: mapG f r
      rw [List.map_append]
      rfl
    · rfl
def keyN (p : Nat) (r : List Nat) : List Nat := r.take p ++ r.drop (p + 1)
def grpJ (s n p j : Nat) : List (List Nat × List Nat) := (List.range j).foldl (fun g i => addG g (keyN p ((gridN s n).getD i [])) i) []
theorem grpJ_succ (s n p j : Nat) : grpJ s n p (j + 1) = addG (grpJ s n p j) (keyN p ((gridN s n).getD j [])) j := by
  unfold grpJ
  rw [List.range_succ, List.foldl_append]
  rfl
def spreadN (vs : List Nat) : Bool := vs.any fun x => vs.any fun y => decide (x < y)
def hungG (s n : Nat) (as : List Nat) (p : Nat) : Bool := (mapG (fun i => as.getD i 0) (grpJ s n p (s ^ n))).any fun g => spreadN g.2
/-- the sizes and places that are drawn -/
def SN (s n : Nat) : Prop := 1 ≤ n ∧ (((s = 2 ∨ s = 3) ∧ n ≤ 3) ∨ (s = 4 ∧ n ≤ 2))
theorem SN.all {f : Nat → Nat → Bool} (h : ((f 2 1 && f 2 2 && f 2 3) && (f 3 1 && f 3 2 && f 3 3) && (f 4 1 && f 4 2)) = true) {s n : Nat} (hh : SN s n) : f s n = true := by
  simp only [Bool.and_eq_true] at h
  obtain ⟨⟨⟨⟨h1, h2⟩, h3⟩, ⟨h4, h5⟩, h6⟩, h7, h8⟩ := h
  obtain ⟨n1, ⟨rfl | rfl, n3⟩ | ⟨rfl, n2⟩⟩ := hh
  · obtain rfl | rfl | rfl : n = 1 ∨ n = 2 ∨ n = 3 := by omega
    · exact h1
    · exact h2
    · exact h3
  · obtain rfl | rfl | rfl : n = 1 ∨ n = 2 ∨ n = 3 := by omega
    · exact h4
    · exact h5
    · exact h6
  · obtain rfl | rfl : n = 1 ∨ n = 2 := by omega
    · exact h7
    · exact h8
theorem SN.s2 {s n : Nat} (h : SN s n) : 2 ≤ s ∧ s ≤ 4 ∧ n ≤ 3 := by
  obtain ⟨_, ⟨rfl | rfl, _⟩ | ⟨rfl, _⟩⟩ := h <;> omega
def g1 (s n : Nat) : Bool := (List.range n).all fun p =>
  ((List.range (s ^ n)).all fun i => (grpJ s n p (s ^ n)).any fun g => g.2.contains i && g.2.contains (lowI s (stO s n p) i)) &&
  ((grpJ s n p (s ^ n)).all fun g => g.2.all fun i => decide (i < s ^ n) && g.2.all fun j => decide (lowI s (stO s n p) i = lowI s (stO s n p) j))
theorem g1_ok {s n : Nat} (h : SN s n) : g1 s n = true := SN.all (f := g1) (by decide +kernel) h
theorem hung_same {s n p : Nat} {as : List Nat} (h : SN s n) (hp : p < n) : hungG s n as p = hangsA s n as p := by
  have h1 := all_lt (g1_ok h) hp
  simp only [Bool.and_eq_true, List.all_eq_true, List.any_eq_true, decide_eq_true_eq, List.mem_range] at h1
  obtain ⟨ha, hb⟩ := h1
  refine Bool.eq_iff_iff.mpr ?_
  unfold hungG hangsA mapG
  rw [List.any_map]
  simp only [List.any_eq_true, Function.comp, spreadN, List.mem_map, decide_eq_true_eq, List.mem_range, Bool.not_eq_true', decide_eq_false_iff_not]
  constructor
  · rintro ⟨g, hg, x, ⟨i, hi, rfl⟩, y, ⟨j, hj, rfl⟩, hlt⟩
    obtain ⟨bi, bij⟩ := hb g hg i hi
    obtain ⟨bj, _⟩ := hb g hg j hj
    have el := bij j hj
    by_cases hq : as.getD i 0 = as.getD (lowI s (stO s n p) i) 0
    · refine ⟨j, bj, fun z => ?_⟩
      rw [z, ← el, ← hq] at hlt
      omega
    · exact ⟨i, bi, hq⟩
  · rintro ⟨i, hi, hne⟩
    obtain ⟨g, hg, h2⟩ := ha i hi
    have m1 : i ∈ g.2 := by simpa using h2.1
    have m2 : lowI s (stO s n p) i ∈ g.2 := by simpa using h2.2
    rcases Nat.lt_or_gt_of_ne hne with h | h
    · exact ⟨g, hg, _, ⟨i, m1, rfl⟩, _, ⟨_, m2, rfl⟩, h⟩
    · exact ⟨g, hg, _, ⟨_, m2, rfl⟩, _, ⟨i, m1, rfl⟩, h⟩
end K02
/-! the law's own places on which a table hangs. -/
namespace K02
open PySem L2 FX SQ
theorem cat_key {K : PySem.W.Frag} {H : Hp} {Q : VK} {a b : Addr} {xs ys : List V} (ha : H a = some (.tup xs)) (hb : H b = some (.tup ys)) (hz : xs.length + ys.length ≤ sizeLine) (k : ∀ H' c, Same H H' → H' c = some (.tup (xs ++ ys)) → Q (.ref c) H') : rCatA K (.ref a) (.ref b) H Q :=
  ⟨a, b, xs, ys, rfl, rfl, SqT.of ha, SqT.of hb, hz, fun e => by
    subst e
    exact k H b (Same.refl _) hb, fun _ e => by
    subst e
    exact k H a (Same.refl _) (by rw [List.append_nil]; exact ha), fun _ _ p hp => k _ p (same_new hp) upd_same⟩
theorem off_upd_ne {H : Hp} {a b : Addr} {o : HO} (n : b ≠ a) : upd (off H a) b o = off (upd H b o) a := by
  funext c
  by_cases h1 : c = b
  · subst h1
    rw [upd_same, off_ne n, upd_same]
  · rw [upd_ne h1]
    by_cases h2 : c = a
    · subst h2
      rw [off_same, off_same]
    · rw [off_ne h2, off_ne h2, upd_ne h1]
theorem same_off_upd {H : Hp} {a : Addr} {o : HO} : Same (off H a) (upd H a o) := fun c u e => by
  by_cases h : c = a
  · rw [h, off_same] at e
    cases e
  · rw [off_ne h] at e
    rw [upd_ne h]
    exact e
theorem eqv_nil2 (ds : List D) : PyData.eqv (.list ds) (.list []) = ds.isEmpty := by
  cases ds <;> rfl
def listT (r : List Nat) : D := .list (r.map nD)
theorem lay_lists : ∀ rs : List (List Nat), PyData.canLayAll0 (rs.map listT) = true
  | [] => rfl
  | r :: rs => by
    have h := lay_n r
    show (PyData.canLay0 (listT r) && PyData.canLayAll0 (rs.map listT)) = true
    rw [lay_lists rs, Bool.and_true]
    exact h
theorem depth_lists : ∀ rs : List (List Nat), PyData.depthAll (rs.map listT) ≤ 2
  | [] => by decide
  | r :: rs => by
    have h := depth_lists rs
    have h2 := depth_n r
    show max (PyData.depth (listT r)) (PyData.depthAll (rs.map listT)) ≤ 2
    refine Nat.max_le.mpr ⟨?_, h⟩
    show PyData.depth (.list (r.map nD)) ≤ 2
    simp only [PyData.depth]
    omega
theorem shaped_lists (rs : List (List Nat)) : SeqAt.shaped (.list (rs.map listT)) = true := by
  unfold SeqAt.shaped
  rw [Bool.and_eq_true]
  refine ⟨lay_lists rs, decide_eq_true ?_⟩
  have := depth_lists rs
  show PyData.depth (.list (rs.map listT)) ≤ 64
  simp only [PyData.depth]
  omega
theorem GRel.get {H : Hp} {kvs : List (List Key × V)} {gs : List (List Nat × List Nat)} {ls : List Addr} (g : GRel H kvs gs ls) : ∀ (m : Nat) (k : List Key) (x : V), kvs[m]? = some (k, x) → ∃ e l, gs[m]? = some e ∧ x = .ref l ∧ l ∈ ls ∧ H l = some (.lst (e.2.map fun n : Nat => V.int n)) := by
  induction g with
  | nil => exact fun m k x h => by simp at h
  | cons h n r ih =>
    intro m k x e
    cases m with
    | zero =>
      simp at e
      exact ⟨_, _, rfl, e.2.symm, List.mem_cons_self .., h⟩
    | succ m =>
      obtain ⟨e', l', h1, h2, h3, h4⟩ := ih m k x (by simpa using e)
      exact ⟨e', l', by simpa using h1, h2, List.mem_cons_of_mem _ h3, h4⟩
/-- what stands while the rows are gone through -/
structure ZI (H1 H : Hp) (L T : Addr) (F : List V) (kvs : List (List Key × V)) (gs : List (List Nat × List Nat)) (ls : List Addr) : Prop where
  s : Same H1 H
  f : H L = some (.lst F)
  t : H T = some (.dT kvs)
  g : GRel H kvs gs ls
  n : L ∉ ls
  o : ∀ l ∈ ls, H1 l = none
theorem ZI.same {H1 H H' : Hp} {L T : Addr} {F : List V} {kvs : List (List Key × V)} {gs : List (List Nat × List Nat)} {ls : List Addr} (z : ZI H1 H L T F kvs gs ls) (s : Same H H') : ZI H1 H' L T F kvs gs ls :=
  ⟨z.s.trans s, s _ _ z.f, s _ _ z.t, z.g.same s, z.n, z.o⟩
theorem ZI.tn {H1 H : Hp} {L T : Addr} {F : List V} {kvs : List (List Key × V)} {gs : List (List Nat × List Nat)} {ls : List Addr} (z : ZI H1 H L T F kvs gs ls) : T ∉ ls := fun h => by
  obtain ⟨xs, e⟩ := z.g.lst T h
  rw [z.t] at e
  cases e
theorem spread_is {vs : List Nat} {m M : Int} (h1 : m ∈ vs.map fun n : Nat => (n : Int)) (h2 : ∀ y ∈ vs.map fun n : Nat => (n : Int), m ≤ y) (h3 : M ∈ vs.map fun n : Nat => (n : Int)) (h4 : ∀ y ∈ vs.map fun n : Nat => (n : Int), y ≤ M) : decide (m < M) = spreadN vs := by
  obtain ⟨a, ha, rfl⟩ := List.mem_map.mp h1
  obtain ⟨b, hb, rfl⟩ := List.mem_map.mp h3
  refine Bool.eq_iff_iff.mpr ?_
  unfold spreadN
  simp only [decide_eq_true_eq, List.any_eq_true]
  constructor
  · exact fun h => ⟨a, ha, b, hb, by omega⟩
  · rintro ⟨x, hx, y, hy, hxy⟩
    have := h2 x (List.mem_map.mpr ⟨x, hx, rfl⟩)
    have := h4 y (List.mem_map.mpr ⟨y, hy, rfl⟩)
    omega
theorem grpJ_facts (s n p : Nat) : ∀ j, (grpJ s n p j).length ≤ j ∧ (∀ g ∈ grpJ s n p j, g.2.length ≤ j) ∧ ∀ g ∈ grpJ s n p j, g.2 ≠ []
  | 0 => ⟨Nat.le_refl _, fun g hg => (by cases hg), fun g hg => by cases hg⟩
  | j + 1 => by
    obtain ⟨h1, h2, h3⟩ := grpJ_facts s n p j
    rw [grpJ_succ]
    exact ⟨Nat.le_trans (addG_len _ _ _) (Nat.succ_le_succ h1), addG_vals _ _ _ h2, addG_ne _ _ _ h3⟩
section
variable {P : Program} {w : World} {K : PySem.W.Frag} {mg : Str → Option Value} {base : Heap}
abbrev sHungL : Stmt := top 42
def spHungL (K : PySem.W.Frag) : Sp := fun vs H Q _ => ∃ (s n : Nat) (vt : V) (as : List Nat), vs = [.int s, vt] ∧ Dp K H vt (opT (n, as)) ∧ SN s n ∧ as.length = s ^ n ∧
  ∀ H' v, Same H H' → Dp K H' v (.tuple ((hungN s n as).map nD)) → Q v H'
abbrev NHungL : List Str := ["size", "table", "rows", "found", "place", "told", "at", "row", "answers"]
theorem scHungL : FnScope NHungL ["size", "table"] (defScope sHungL) := ⟨rfl, rfl, rfl, by decide +kernel, rfl, by decide +kernel, by decide +kernel⟩
abbrev ttS (K : PySem.W.Frag) : TT := tTest (tOp (rI0 fun i j => .bl (decide (i < j))) (tCB (rMin K) (tCons (tVar 8) tNil)) (tCB (rMax K) (tCons (tVar 8) tNil)))
theorem ok_hungL {f fG : Addr} {fd fdG : FuncData} (F : Fun K "_law_hung" "_law_hung" sHungL f fd) (Z : Bi mg) (FG : At K mg "_law_grid" sGrid fG fdG ["size", "many"]) : FnOk P w K mg base CX0 2 f fd ["size", "table"] (spHungL K) := by
  have GG : FnOk P w K mg base CX0 1 fG fdG ["size", "many"] (spGrid K) := ok_grid FG.F Z
  refine F.ok scHungL (fun vs H Q E h => ?_) (fun cdv A outer sh H vs Q E hr h => ?_)
  · obtain ⟨s, n, vt, as, rfl, _⟩ := h
    rfl
  · obtain ⟨s, n, vt, as, rfl, ht, hsn, la, k⟩ := h
    have hu := hr.units
    have hu65 := hr65 hr
    have hu1 := Nat.lt_of_le_of_lt (Nat.add_le_add_left (by decide : 1 ≤ 65) _) hu65
    refine ⟨_, pss_cons (ps_par rfl scHungL.nd (i := 2) (j := 3) rfl rfl (by decide) rfl rfl (by exact (pa_cons (pe_call GG hr rfl FG.g FG.F.kp FG.b .nil pass0 (by exact (pa_cons (pv 0) (pa_cons (pe_ix ix_tup (pv 1) pe_int (fun _ _ => rfl)) pa_nil)))) (pa_cons (pe_lst pa_nil) pa_nil))) (by rfl))
      (pss_cons (ps_for PassesOwn.never rfl (pi_range1 rfl Z.range (pa_cons (pe_ix ix_tup (pv 1) pe_int (fun _ _ => rfl)) pa_nil)) (pg_name (i := 4) scHungL.nd rfl (Or.inl rfl))
        (pss_cons (ps_set (i := 5) scHungL.nd rfl (Or.inl rfl) pe_dnewT)
        (pss_cons (ps_for PassesOwn.never rfl (pi_enum2 (by rfl) Z.enumerate (pa_cons (pv 2) pa_nil)) (pg_tup rfl (pgs_cons (pg_name (i := 6) scHungL.nd rfl (Or.inl rfl)) (pgs_cons (pg_name (i := 7) scHungL.nd rfl (Or.inl rfl)) pgs_nil)))
          (pss_one (ps_expr (pe_bm PySem.F.plainAttrs_list PySem.F.slot_list_append PySem.F.type_list_append mt_append
            (pe_bm PySem.F.plainAttrs_dict PySem.F.slot_dict_setdefault PySem.F.type_dict_setdefault (mt_setdT hu1) (pv 5)
              (pa_cons (pe_op op_catA (pe_slice sl_tup (pv 7) po_none (po_some (pv 4))) (pe_slice sl_tup (pv 7) (po_some (pe_op op_add (pv 4) pe_int)) po_none)) (pa_cons (pe_lst pa_nil) pa_nil)))
            (pa_cons (pe_ix ix_tup (pe_ix ix_tup (pv 1) pe_int (fun _ _ => rfl)) (pv 6) (fun _ _ => rfl)) pa_nil)))))
        (pss_one (ps_if (pt_cmpR (op_neD hu) (pe_lock (pe_lc (own := [("answers", 8)]) (g := gName 8) (tt := ttS K) (wi := iValsT (tVar 5)) (te := tVar 8) rfl scHungL.nd (pi_valuesT (pv 5)) (blkOk_by (N := NHungL) (sc := defScope sHungL) (by decide +kernel))
              (fun _ _ _ _ _ => pg_name (i := 8) scHungL.nd rfl (Or.inl rfl)) (fun _ _ _ _ _ => pts_one (pt_cmpR op_lt (pe_callB (cr_min rfl) (by rfl) Z.min (by decide +kernel) (pa_cons (pv 8) pa_nil)) (pe_callB (cr_max rfl) (by rfl) Z.max (by decide +kernel) (pa_cons (pv 8) pa_nil)) (nomark _))) (fun _ _ _ _ _ => pv 8))) (pe_lst pa_nil) (nomark _))
          (pss_one (ps_expr (pe_bm PySem.F.plainAttrs_list PySem.F.slot_list_append PySem.F.type_list_append mt_append (pv 3) (pa_cons (pv 4) pa_nil)))) pss_nil)))))
      (pss_one (ps_ret (pe_tupleOf (by rfl) Z.tuple (pv 3))))), ?_⟩
    obtain ⟨s2, s4, n3⟩ := hsn.s2
    have n1 := hsn.1
    have hsz : s ^ n ≤ 64 := by
      have h1 : s ^ n ≤ 4 ^ n := Nat.pow_le_pow_left s4 n
      have h2 : 4 ^ n ≤ 4 ^ 3 := Nat.pow_le_pow_right (by decide) n3
      omega
    obtain ⟨a, xs, rfl, q, r0⟩ := dp_tup ht
    obtain ⟨va, rfl, da⟩ : ∃ va, xs = [.int (n : Int), va] ∧ Dp K H va (.tuple (as.map nD)) := by
      cases r0 with
      | cons h0 r => cases r with
        | cons h1 r => cases r with
          | nil =>
            cases h0
            exact ⟨_, rfl, h1⟩
    obtain ⟨aa, xa, rfl, qa, ra⟩ := dp_tup da
    obtain rfl : xa = as.map fun n : Nat => V.int n := dpAll_eqn ra
    refine ⟨_, rfl, _, rfl, a, _, _, .int (n : Int), rfl, rfl, q, atI_nat (j := 0) rfl, s, n, rfl, by omega, by omega, fun H1 vg s1 fg => ?_⟩
    obtain ⟨ag, xg, rfl, _, eg, rg⟩ := fg
    have lg : xg.length = s ^ n := by rw [dpAll_len rg, List.length_map, gridN_len]
    refine ⟨(by show 0 ≤ sizeLine; decide), fun L hL => ⟨_, _, rfl, ?_⟩⟩
    refine ⟨_, rfl, a, _, _, .int (n : Int), rfl, rfl, seqT (s1.trans (same_new hL)) q, atI_nat (j := 0) rfl, n, rfl, by omega, by omega, ?_⟩
    rw [Int.toNat_natCast]
    refine for_range (n := n) (fun i σ H' => ∃ u4 u5 u6 u7 : Option V, σ = [some (.int s), some (.ref a), some (.ref ag), some (.ref L), u4, u5, u6, u7, none] ∧ Same H1 H' ∧ H' L = some (.lst (((List.range i).filter (hangsA s n as)).map fun n : Nat => V.int n)))
      ⟨none, none, none, none, rfl, same_new hL, upd_same⟩ ?_ ?_
    · rintro i σ H2 hi ⟨u4, u5, u6, u7, rfl, s2', eL⟩
      rw [Int.zero_add]
      intro T hT
      have nTL : L ≠ T := ne_of_none eL hT
      have lF := List.length_filter_le (hangsA s n as) (List.range i)
      rw [List.length_range] at lF
      generalize hF : ((List.range i).filter (hangsA s n as)).map (fun n : Nat => V.int n) = F at eL
      have z0 : ZI H1 (upd H2 T (.dT [])) L T F [] (mapG (fun i => as.getD i 0) (grpJ s n i 0)) [] := ⟨s2'.trans (same_new hT), (same_new hT) _ _ eL, upd_same, .nil, by simp, fun l hl => by cases hl⟩
      refine ⟨_, rfl, ag, xg, .L, rfl, SqL.of ((s2'.trans (same_new hT)) _ _ eg), for_it (walk_enum2 (k := .L) (a := ag) (xs := xg) (n := xg.length) rfl)
        (fun j σ H' => ∃ (u6 u7 : Option V) (kvs : List (List Key × V)) (ls : List Addr), σ = [some (.int s), some (.ref a), some (.ref ag), some (.ref L), some (.int (i : Int)), some (.ref T), u6, u7, none] ∧ ZI H1 H' L T F kvs (mapG (fun i => as.getD i 0) (grpJ s n i j)) ls)
        ⟨u6, u7, [], [], rfl, z0⟩ (fun j σ H' _ ⟨_, _, _, _, _, z⟩ => SqL.of (z.s _ _ eg)) ?_ ?_⟩
      · rintro j x σ H3 H4 hj ⟨u6, u7, kvs, ls, rfl, z⟩ ⟨t, x1, x2, rfl, ht, rfl, hx1, hx2⟩
        rw [lg] at hj
        obtain rfl : x1 = .int (j : Nat) := (Option.some.inj hx1).symm
        have hja : j < as.length := by omega
        obtain ⟨dr, hdr, hxd⟩ := dpAll_get rg hx2
        obtain ⟨r, hr', rfl⟩ : ∃ r, (gridN s n)[j]? = some r ∧ dr = rowT r := by
          rw [List.getElem?_map] at hdr
          cases e : (gridN s n)[j]? with
          | none =>
            rw [e] at hdr
            cases hdr
          | some r =>
            rw [e] at hdr
            exact ⟨r, rfl, (Option.some.inj hdr).symm⟩
        have lr := (gridN_row r (List.mem_of_getElem? hr')).1
        obtain ⟨ar, xr, rfl, qr, rr⟩ := dp_tup hxd
        obtain rfl : xr = r.map fun n : Nat => V.int n := dpAll_eqn rr
        have s3 := same_new (o := .tup [.int (j : Nat), .ref ar]) ht
        have z4 := z.same s3
        refine ⟨t, _, rfl, SqT.of upd_same, rfl, _, _, rfl, _, _, rfl, rfl, ?_⟩
        generalize upd H3 t (.tup [.int (j : Nat), .ref ar]) = H4 at z4
        have qr4 := seqT z4.s qr
        refine ⟨_, rfl, .inr (.inr (.inl ⟨rfl, .inr ⟨kvs, z4.t⟩⟩)), ?_⟩
        refine ⟨_, rfl, _, rfl, (i : Int), rfl, ar, _, rfl, qr4, ?_, fun c1 hc1 => ?_⟩
        · rw [HT.sIx_none, HT.sIx_nat, List.length_map, lr]
          omega
        rw [cut_lo _ (by rw [List.length_map, lr]; omega)]
        have s5 := same_new (o := .tup ((r.map fun n : Nat => V.int n).take i)) hc1
        refine ⟨_, rfl, _, rfl, _, _, rfl, rfl, ((i + 1 : Nat) : Int), (by show V.int ((i : Int) + 1) = _; rfl), ar, _, rfl, seqT s5 qr4, ?_, fun c2 hc2 => ?_⟩
        · rw [HT.sIx_none, HT.sIx_nat, List.length_map, lr]
          omega
        rw [cut_hi]
        have s6 := same_new (o := .tup ((r.map fun n : Nat => V.int n).drop (i + 1))) hc2
        refine cat_key (s6 _ _ upd_same) upd_same (by rw [List.length_take, List.length_drop, List.length_map, lr, sizeLine_eq]; omega) fun H6 c s7 ec => ⟨(by show 0 ≤ sizeLine; decide), fun E hE => ?_⟩
        have s8 := same_new (o := .lst []) hE
        have z8 := z4.same (s5.trans (s6.trans (s7.trans s8)))
        have ek : (keyK (keyN i r)).map kV = (r.map fun n : Nat => V.int n).take i ++ (r.map fun n : Nat => V.int n).drop (i + 1) := by
          rw [keyK_V]
          unfold keyN
          rw [List.map_append, List.map_take, List.map_drop]
        have hEls : E ∉ ls := fun h => by
          obtain ⟨ys, e⟩ := (z4.same (s5.trans (s6.trans s7))).g.lst E h
          rw [hE] at e
          cases e
        have hE1 : H1 E = none := none_same (z4.same (s5.trans (s6.trans s7))).s hE
        have hET : E ≠ T := fun e => by
          have := (z4.same (s5.trans (s6.trans s7))).t
          rw [← e, hE] at this
          cases this
        have hEL : L ≠ E := ne_of_none (z4.same (s5.trans (s6.trans s7))).f hE
        obtain ⟨f1, f2, f3⟩ := grpJ_facts s n i j
        have lk : kvs.length = (grpJ s n i j).length := by rw [z8.g.len]; unfold mapG; rw [List.length_map]
        have eg1 : mapG (fun i => as.getD i 0) (grpJ s n i (j + 1)) = addG (mapG (fun i => as.getD i 0) (grpJ s n i j)) (keyN i r) (as.getD j 0) := by
          rw [grpJ_succ, List.getD_eq_getElem?_getD, hr']
          exact (addG_map (fun i => as.getD i 0) _ _ _).symm
        have ea : as.getD j 0 = as[j] := by rw [List.getD_eq_getElem?_getD, List.getElem?_eq_getElem hja]; rfl
        refine ⟨T, kvs, keyK (keyN i r), c, .ref E, rfl, rfl, z8.t, by rw [ek]; exact s8 _ _ ec, by rw [lk, sizeLine_eq]; omega, fun w hw => ?_, fun hw => ?_⟩
        · obtain ⟨l, vs, rfl, hl, el, ⟨g', hg', hg2⟩, gr⟩ := z8.g.hit (as.getD j 0) hw
          have hl1 := z8.o l hl
          have lvs : vs.length ≤ j := by
            rw [← hg2]
            obtain ⟨g0, hg0, rfl⟩ := List.mem_map.mp hg'
            rw [List.length_map]
            exact f2 g0 hg0
          refine ⟨.inl ⟨rfl, _, SqL.of el⟩, _, rfl, a, _, _, .ref aa, rfl, rfl, seqT (s1.trans z8.s) q, atI_nat (j := 1) rfl, _, rfl, aa, _, _, .int (as[j] : Nat), rfl, rfl, seqT (s1.trans z8.s) qa, atI_nat (by rw [List.getElem?_map, List.getElem?_eq_getElem hja]; rfl), l, _, _, rfl, rfl, el, by rw [List.length_map, sizeLine_eq]; omega, _, _, kvs, ls, rfl, ?_⟩
          have nlL : L ≠ l := fun e => z8.n (e ▸ hl)
          have nlT : T ≠ l := fun e => z8.tn (e ▸ hl)
          refine ⟨same_of z8.s hl1, by rw [upd_ne nlL]; exact z8.f, by rw [upd_ne nlT]; exact z8.t, ?_, z8.n, z8.o⟩
          rw [eg1]
          rw [List.map_append, ea] at gr
          rw [ea]
          exact gr
        · have nT : upd (upd H6 E (.lst [])) T (.dT (putK kvs (keyK (keyN i r)) (.ref E))) E = some (.lst []) := by rw [upd_ne hET]; exact upd_same
          have hT1 : H1 T = none := none_same s2' hT
          have sM : Same H1 (upd (upd H6 E (.lst [])) T (.dT (putK kvs (keyK (keyN i r)) (.ref E)))) := same_of z8.s hT1
          refine ⟨.inl ⟨rfl, _, SqL.of nT⟩, _, rfl, a, _, _, .ref aa, rfl, rfl, seqT (s1.trans sM) q, atI_nat (j := 1) rfl, _, rfl, aa, _, _, .int (as[j] : Nat), rfl, rfl, seqT (s1.trans sM) qa, atI_nat (by rw [List.getElem?_map, List.getElem?_eq_getElem hja]; rfl), E, _, _, rfl, rfl, nT, (by show 0 < sizeLine; decide), _, _, putK kvs (keyK (keyN i r)) (.ref E), ls ++ [E], rfl, ?_⟩
          have nl : ∀ l ∈ ls, l ≠ E ∧ l ≠ T := fun l hl => ⟨fun e => hEls (e ▸ hl), fun e => z8.tn (e ▸ hl)⟩
          refine ⟨same_of sM hE1, by rw [upd_ne hEL, upd_ne nTL]; exact z8.f, by rw [upd_ne (Ne.symm hET), upd_same], ?_, ?_, ?_⟩
          · rw [eg1]
            have g9 := z8.g.at (H' := upd (upd (upd H6 E (.lst [])) T (.dT (putK kvs (keyK (keyN i r)) (.ref E)))) E (.lst ([] ++ [.int (as[j] : Nat)]))) fun l hl => by rw [upd_ne (nl l hl).1, upd_ne (nl l hl).2]
            exact g9.miss (as.getD j 0) (by rw [upd_same, ea]; rfl) hEls hw
          · intro hm
            rcases List.mem_append.mp hm with hm | hm
            · exact z8.n hm
            · rw [List.mem_singleton] at hm
              exact hEL hm
          · intro l hm
            rcases List.mem_append.mp hm with hm | hm
            · exact z8.o l hm
            · rw [List.mem_singleton] at hm
              rw [hm]
              exact hE1
      · rintro σ H3 ⟨u6, u7, kvs, ls, rfl, z⟩
        rw [lg] at z
        obtain ⟨f1, f2, f3⟩ := grpJ_facts s n i (s ^ n)
        have hh : hungG s n as i = hangsA s n as i := hung_same hsn hi
        unfold hungG at hh
        have lgs : (mapG (fun i => as.getD i 0) (grpJ s n i (s ^ n))).length ≤ 64 := by unfold mapG; rw [List.length_map]; omega
        have ne : ∀ g ∈ mapG (fun i => as.getD i 0) (grpJ s n i (s ^ n)), g.2 ≠ [] := fun g hg => by
          obtain ⟨g0, hg0, rfl⟩ := List.mem_map.mp hg
          exact fun e => f3 g0 hg0 (List.map_eq_nil_iff.mp e)
        generalize mapG (fun i => as.getD i 0) (grpJ s n i (s ^ n)) = gs at z hh lgs ne
        have hT1 : H1 T = none := none_same s2' hT
        refine ⟨T, .dT kvs, z.t, trivial, fun od => ⟨_, rfl, T, od, kvs, rfl, upd_same, fun D hD => ?_⟩⟩
        have hDT : D ≠ T := fun e => by
          rw [e, upd_same] at hD
          cases hD
        have hD3 : H3 D = none := by rw [upd_ne hDT] at hD; exact hD
        have hT6 : ∀ l ∈ ls, upd H3 T (.frz od (.dT kvs)) l = H3 l := fun l hl => upd_ne fun e => z.tn (e ▸ hl)
        refine walk_it walk_valuesT (fun m H' => Same (upd H3 T (.frz od (.dT kvs))) H' ∧ Grow K (off H' T) D (((gs.take m).filter fun g => spreadN g.2).map fun g => listT g.2)) ⟨same_new hD, ⟨[], by rw [off_ne hDT, upd_same], .nil⟩⟩ (fun m H' _ p => p.1 _ _ upd_same) ?_ ?_
        · rintro m x _ H7 hm ⟨s7, g7⟩ ⟨rfl, kx, hx⟩
          obtain ⟨e, l, he, rfl, hl, el⟩ := z.g.get m kx x hx
          have el7 : H7 l = some (.lst (e.2.map fun n : Nat => V.int n)) := s7 _ _ (by rw [hT6 l hl]; exact el)
          have nlT : l ≠ T := fun q => z.tn (q ▸ hl)
          have ne' := ne e (List.mem_of_getElem? he)
          have el2 : SqL K H7 l ((e.2.map fun n : Nat => (n : Int)).map V.int) := by rw [List.map_map]; exact SqL.of el7
          have pos : 0 < (e.2.map fun n : Nat => (n : Int)).length := by
            rw [List.length_map]
            exact List.length_pos_iff.mpr ne'
          refine ⟨rfl, ?_⟩
          refine ⟨_, rfl, l, _, rfl, el2, pos, fun mn m1 m2 => ⟨_, rfl, l, _, rfl, el2, pos, fun mx m3 m4 => ⟨_, _, rfl, rfl, ?_⟩⟩⟩
          have hsp := spread_is m1 m2 m3 m4
          have et : (gs.take (m + 1)).filter (fun g => spreadN g.2) = (gs.take m).filter (fun g => spreadN g.2) ++ (if spreadN e.2 = true then [e] else []) := by
            rw [take_more he, List.filter_append, List.filter_cons]
            rfl
          by_cases hs : spreadN e.2 = true
          · refine ⟨_, rfl, go_t (hsp.trans hs) ?_⟩
            obtain ⟨acc, eD, _⟩ := id g7
            have lacc := g7.len eD
            have lf := List.length_filter_le (fun g : List Nat × List Nat => spreadN g.2) (gs.take m)
            rw [List.length_map] at lacc
            rw [List.length_take] at lf
            have eD7 : H7 D = some (.lst acc) := by rw [off_ne hDT] at eD; exact eD
            refine ⟨_, rfl, acc, eD7, by rw [lacc, sizeLine_eq]; omega, same_of s7 hD, ?_⟩
            rw [et, if_pos hs, List.map_append, ← off_upd_ne hDT]
            refine g7.put eD (.lst (SqL.of ?_) (dpAll_mkn _))
            have nlD : l ≠ D := fun q => by
              rw [q] at el
              rw [hD3] at el
              cases el
            rw [off_ne nlD, off_ne nlT]
            exact el7
          · refine ⟨_, rfl, go_f (hsp.trans (by simpa using hs)) ?_⟩
            refine ⟨s7, ?_⟩
            rw [et, if_neg hs, List.append_nil]
            exact g7
        · rintro H7 ⟨s7, g7⟩
          have lkv : kvs.length = gs.length := z.g.len
          rw [lkv, List.take_length] at g7
          refine ⟨s7 _ _ upd_same, ?_⟩
          have s8 : Same H1 (upd H7 T (.dT kvs)) := fun c o e => by
            have ncT : c ≠ T := fun q => by rw [q, hT1] at e; cases e
            rw [upd_ne ncT]
            exact s7 _ _ (by rw [upd_ne ncT]; exact z.s _ _ e)
          have eL8 : upd H7 T (.dT kvs) L = some (.lst F) := by
            rw [upd_ne nTL]
            exact s7 _ _ (by rw [upd_ne nTL]; exact z.f)
          have dD := dp_same (same_off_upd (o := .dT kvs)) g7.dp
          generalize upd H7 T (.dT kvs) = H8 at s8 eL8 dD
          refine ⟨(by show 0 ≤ sizeLine; decide), fun E hE => ?_⟩
          have s9 := same_new (o := .lst []) hE
          have em : (gs.filter fun g => spreadN g.2).map (fun g => listT g.2) = ((gs.filter fun g => spreadN g.2).map fun g => g.2).map listT := by rw [List.map_map]; rfl
          refine ⟨_, .list [], dp_same s9 dD, .lst (SqL.of upd_same) .nil, by rw [em]; exact shaped_lists _, by decide +kernel, _, rfl, ?_⟩
          rw [eqv_nil2]
          have eh : (((gs.filter fun g => spreadN g.2).map fun g => listT g.2).isEmpty) = !hangsA s n as i := by
            have im : ∀ (l : List (List Nat × List Nat)), (l.map fun g => listT g.2).isEmpty = l.isEmpty := fun l => by cases l <;> rfl
            rw [← hh, im, empty_all, List.not_any_eq_all_not]
          rw [eh, Bool.not_not]
          by_cases hb : hangsA s n as i = true
          · refine go_t hb ?_
            have hLE : L ≠ E := ne_of_none eL8 hE
            refine ⟨_, rfl, .inl ⟨rfl, _, SqL.of (s9 _ _ eL8)⟩, _, rfl, L, _, _, rfl, rfl, s9 _ _ eL8, by rw [← hF, List.length_map, sizeLine_eq]; omega, _, _, _, _, rfl, same_of (s8.trans s9) hL, ?_⟩
            rw [upd_same, range_fil, if_pos hb, List.map_append, hF]
            rfl
          · refine go_f (by simpa using hb) ?_
            refine ⟨_, _, _, _, rfl, s8.trans s9, ?_⟩
            rw [range_fil, if_neg hb, List.append_nil, hF]
            exact s9 _ _ eL8
    · rintro σ H2 ⟨u4, u5, u6, u7, rfl, s2', eL⟩
      refine ⟨_, rfl, .inl ⟨L, _, rfl, SqL.of eL, fun t ht => ?_⟩⟩
      exact k _ _ (s1.trans (s2'.trans (same_new ht))) (.tup (SqT.of upd_same) (dpAll_mkn _))
end
end K02
namespace K02
open PySem L2 FX SQ
section
variable {P : Program} {w : World} {K : PySem.W.Frag} {mg : Str → Option Value} {base : Heap} {cO cS : Addr}
abbrev sTwo : Stmt := top 32
def spTwo (K : PySem.W.Frag) (cO : Addr) : Sp := fun vs H Q E => ∃ (vo : V) (d : D) (s : Nat), vs = [.int s, vo] ∧ Dp K H vo d ∧ 2 ≤ s ∧ s < 5 ∧ OpSc cO s d H E fun n as =>
  (twoN s n as = none → ∀ H', Same H H' → Q .non H') ∧
  ∀ p o h, twoN s n as = some (p, o, h) → p < o → o < n → h ∈ heldsO s n p o → goodO s as (p, o, h) = true → ∀ H' t vh, Same H H' → H' t = some (.tup [.int (p : Nat), .int (o : Nat), vh]) → Dp K H' vh (.tuple (h.map oD)) → Nd K H' vh → Q (.ref t) H'
abbrev NTwo : List Str := ["size", "operation", "places", "answers", "other", "place", "choices", "held", "at"]
theorem scTwo : FnScope NTwo ["size", "operation"] (defScope sTwo) := ⟨rfl, rfl, rfl, by decide +kernel, rfl, by decide +kernel, by decide +kernel⟩
theorem ok_two {f fO fH fA fR : Addr} {fd fdO fdH fdA fdR : FuncData} (F : Fun K "two_places" "two_places" sTwo f fd) (Z : Bi mg) (FO : At K mg "need_operation" sNeedOp fO fdO ["size", "value"]) (GO : FnOk P w K mg base (L2.CX P w) 6 fO fdO ["size", "value"] (spNeedOp K cO cS))
    (FH : At K mg "hung_in" sHung fH fdH ["size", "places", "answers"]) (GH : FnOk P w K mg base CX0 3 fH fdH ["size", "places", "answers"] (spHung K)) (FA : At K mg "held_answers" sHeldA fA fdA ["answers", "sizes", "held"]) (GA : FnOk P w K mg base CX0 2 fA fdA ["answers", "sizes", "held"] (spHeldA K))
    (FR : At K mg "all_rows" sRows fR fdR ["choices"]) : FnOk P w K mg base (L2.CX P w) 7 f fd ["size", "operation"] (spTwo K cO) := by
  have GR : FnOk P w K mg base CX0 1 fR fdR ["choices"] (spRows K) := ok_rows FR.F
  refine F.okX scTwo (fun vs H Q E h => ?_) (fun cdv A outer sh H vs Q E hr h => ?_)
  · obtain ⟨vo, d, s, rfl, _⟩ := h
    rfl
  · obtain ⟨vo, d, s, rfl, hd, s2, s5, sc⟩ := h
    refine ⟨_, pss_cons (ps_asg (pe_callS GO (hr.mono (by decide)) rfl FO.g FO.F.kp FO.b (fun σ => passAt (takes_of rfl rfl rfl rfl) σ) (by exact (pa_cons (pv 0) (pa_cons (pv 1) pa_nil)))) (pg_tup rfl (pgs_cons (pg_name (i := 2) scTwo.nd rfl (Or.inl rfl)) (pgs_cons (pg_name (i := 3) scTwo.nd rfl (Or.inl rfl)) pgs_nil))))
      (pss_cons (ps_for (passes_of rfl) rfl (pi_range1 rfl Z.range (pa_cons (pv 2) pa_nil)) (pg_name (i := 4) scTwo.nd rfl (Or.inr rfl))
        (pss_one (ps_for (passes_of rfl) rfl (pi_range1 rfl Z.range (pa_cons (pv 4) pa_nil)) (pg_name (i := 5) scTwo.nd rfl (Or.inr rfl))
          (pss_cons (ps_setLc (i := 6) (own := [("at", 8)]) (g := gName 8) (tt := tYes) (te := tIf (tTest (tOp (rIn K false) (tVar 8) (tTup (tCons (tVar 5) (tCons (tVar 4) tNil))))) (tLst (tCons (tC .non) tNil)) (tLstRg (tRg1 (tVar 0)))) rfl scTwo.nd rfl rfl (sw_true rfl rfl rfl (by decide +kernel)) (pi_range1 (by rfl) Z.range (pa_cons (pv 2) pa_nil)) (blkOk_by (N := NTwo) (sc := defScope sTwo) (by decide +kernel))
              (fun _ _ _ _ _ => pg_name (i := 8) scTwo.nd rfl (Or.inl rfl)) (fun _ _ _ _ _ => pts_nil)
              (fun _ _ _ _ _ => pe_ifExp (pt_cmpR op_in_seq (pv 8) (pe_tup (pa_cons (pv 5) (pa_cons (pv 4) pa_nil))) (by with_unfolding_all rfl)) (pe_lst (pa_cons pe_non pa_nil)) (pe_listRg rfl (by rfl) Z.list (prg_1 (by rfl) Z.range (pv 0)))))
          (pss_one (ps_for (passes_of rfl) rfl (pi_list (pe_call GR (hr.mono (by decide)) rfl FR.g FR.F.kp FR.b .nil pass0 (by exact (pa_cons (pv 6) pa_nil)))) (pg_name (i := 7) scTwo.nd rfl (Or.inl rfl))
            (pss_one (ps_if (pt_cmpR op_eq (pe_callB call_len_seq (by rfl) Z.len PySem.boot_len (pa_cons (pe_call GH (hr.mono (by decide)) rfl FH.g FH.F.kp FH.b .nil pass0 (by exact (pa_cons (pv 0) (pa_cons pe_int (pa_cons (pe_call GA (hr.mono (by decide)) rfl FA.g FA.F.kp FA.b .nil pass0 (by exact (pa_cons (pv 3) (pa_cons (pe_op op_rep (pe_lst (by exact (pa_cons (pv 0) pa_nil))) (pv 2)) (pa_cons (pv 7) pa_nil))))) pa_nil))))) pa_nil)) pe_int (nomark _))
              (pss_one (ps_ret (pe_tup (by exact (pa_cons (pv 5) (pa_cons (pv 4) (pa_cons (pv 7) pa_nil))))))) pss_nil))))))))
      (pss_one (ps_ret pe_non))), ?_⟩
    refine ⟨_, rfl, _, rfl, op_pre s2 (by omega) hd sc fun n as O ok H1 ap va s1 qp da => ?_⟩
    obtain ⟨k0, k1⟩ := ok
    have n3 := O.n3
    have la := O.len
    refine ⟨ap, _, rfl, qp, rfl, _, _, rfl, _, _, rfl, rfl, ?_⟩
    refine ⟨_, rfl, n, rfl, by omega, by omega, ?_⟩
    rw [Int.toNat_natCast]
    refine for_range (n := n) (fun i σ H' => ∃ u4 u5 u6 u7 : Option V, σ = [some (.int s), some vo, some (.int (n : Nat)), some va, u4, u5, u6, u7, none] ∧ Same H1 H' ∧ ((List.range i).flatMap (candP s n)).find? (goodO s as) = none)
      ⟨none, none, none, none, rfl, Same.refl H1, rfl⟩ ?_ ?_
    · rintro i σ H2 hi ⟨u4, u5, u6, u7, rfl, s2', g1⟩
      refine ⟨_, rfl, (i : Int), by show [V.int (0 + (i : Int))] = [V.int (i : Int)]; rw [Int.zero_add], by omega, by omega, ?_⟩
      rw [Int.toNat_natCast]
      refine for_range (n := i) (fun j σ H' => ∃ u5 u6 u7 : Option V, σ = [some (.int s), some vo, some (.int (n : Nat)), some va, some (.int (0 + (i : Int))), u5, u6, u7, none] ∧ Same H1 H' ∧ ((List.range j).flatMap (candR s n i)).find? (goodO s as) = none)
        ⟨u5, u6, u7, rfl, s2', rfl⟩ ?_ ?_
      · rintro j σ H3 hj ⟨u5, u6, u7, rfl, s3, g2⟩
        obtain ⟨l100, c8, hh⟩ := helds_at s5 (by omega : n < 4) hi hj
        refine ⟨_, rfl, n, rfl, by omega, by omega, ?_⟩
        rw [Int.toNat_natCast]
        refine fun D hD => walk_it walk_range (fun a H' => Same H3 H' ∧ Grow K H' D ((List.range a).map fun a => .list ((choiceO s j i a).map oD))) ⟨same_new hD, Grow.nil⟩ (fun _ _ _ _ => trivial) ?_ ?_
        · rintro a x _ H4 ha ⟨s4, g4⟩ ⟨rfl, ex⟩
          obtain rfl := int_nat0 ex
          refine ⟨rfl, ?_⟩
          refine ⟨_, rfl, _, rfl, _, rfl, (by show 2 ≤ sizeLine; decide), fun t ht => ⟨t, _, rfl, .inr (SqT.of upd_same), rfl, rfl, _, rfl, ?_⟩⟩
          have s5' := same_new (o := .tup [.int (0 + (j : Int)), .int (0 + (i : Int))]) ht
          obtain ⟨acc, eD, _⟩ := id g4
          have lacc := g4.len eD
          rw [List.length_map, List.length_range] at lacc
          have nT := ne_of_none eD ht
          have eD2 := s5' _ _ eD
          have g5 := g4.keep s5'
          have et : (List.range (a + 1)).map (fun a => PyData.list ((choiceO s j i a).map oD)) = ((List.range a).map fun a => PyData.list ((choiceO s j i a).map oD)) ++ [.list ((choiceO s j i a).map oD)] := by
            rw [List.range_succ, List.map_append]
            rfl
          have fin : ∀ (L : Addr) (ys : List V), (upd H4 t (.tup [.int (0 + (j : Int)), .int (0 + (i : Int))])) L = none → (∀ H' : Hp, DpAll K H' ys ((choiceO s j i a).map oD)) →
              ∃ acc, (upd (upd H4 t (.tup [.int (0 + (j : Int)), .int (0 + (i : Int))])) L (.lst ys)) D = some (.lst acc) ∧ acc.length < sizeLine ∧ (Same H3 (upd (upd (upd H4 t (.tup [.int (0 + (j : Int)), .int (0 + (i : Int))])) L (.lst ys)) D (.lst (acc ++ [.ref L]))) ∧ Grow K (upd (upd (upd H4 t (.tup [.int (0 + (j : Int)), .int (0 + (i : Int))])) L (.lst ys)) D (.lst (acc ++ [.ref L]))) D ((List.range (a + 1)).map fun a => .list ((choiceO s j i a).map oD))) := by
            intro L ys hL hy
            have nL : D ≠ L := ne_of_none eD2 hL
            have eD3 : (upd (upd H4 t (.tup [.int (0 + (j : Int)), .int (0 + (i : Int))])) L (.lst ys)) D = some (.lst acc) := by rw [upd_ne nL]; exact eD2
            refine ⟨acc, eD3, by rw [lacc, sizeLine_eq]; omega, same_of (s4.trans (s5'.trans (same_new hL))) hD, ?_⟩
            rw [et]
            exact (g5.keep (same_new hL)).put eD3 (.lst (SqL.of (by rw [off_ne (Ne.symm nL), upd_same])) (hy _))
          by_cases hc : a = j ∨ a = i
          · refine go_t ?_ ?_
            · rcases hc with rfl | rfl <;> simp [inV, eqV]
            · refine ⟨(by show 1 ≤ sizeLine; decide), fun L hL => ?_⟩
              refine fin L _ hL fun H' => ?_
              have : choiceO s j i a = [none] := by unfold choiceO; rw [if_pos hc]
              rw [this]
              exact .cons .non .nil
          · refine go_f ?_ ?_
            · simp [inV, eqV]
              omega
            · refine ⟨_, rfl, _, rfl, RgOk.of_le (by omega) (by omega) (by omega) (by omega), fun L hL => ?_⟩
              have er : rgV 0 (s : Int) = (List.range s).map fun n : Nat => V.int n := by
                unfold rgV
                rw [Int.sub_zero, Int.toNat_natCast]
                exact List.map_congr_left fun n _ => by rw [Int.zero_add]
              rw [er]
              refine fin L _ hL fun H' => ?_
              have : choiceO s j i a = (List.range s).map some := by unfold choiceO; rw [if_neg hc]
              rw [this, List.map_map]
              exact dpAll_mkn _
        rintro H4 ⟨s4, g4⟩
        have dch : Dp K H4 (.ref D) (.list ((((List.range n).map (choiceO s j i)).map fun c => c.map oD).map .list)) := by
          rw [List.map_map, List.map_map]
          exact g4.dp
        refine ⟨_, rfl, .ref D, ((List.range n).map (choiceO s j i)).map (fun c => c.map oD), rfl, dch, by rw [List.length_map, List.length_map, List.length_range]; omega, fun c hc => ?_, fun H5 wv s5' dw ndw => ?_⟩
        · obtain ⟨c0, h0, rfl⟩ := List.mem_map.mp hc
          rw [List.length_map]
          exact c8 c0 h0
        obtain ⟨aw, xw, rfl, qw0, rw', ndx⟩ := ndw
        rw [rows_oD, List.map_map] at rw'
        have qw : SqL K H5 aw xw := SqL.of qw0
        have lw : xw.length = (heldsO s n j i).length := by rw [dpAll_len rw', List.length_map]; rfl
        have s05 := s3.trans (s4.trans s5')
        refine ⟨aw, rfl, ⟨_, qw⟩, for_list (K := K) (a := aw) (xs := xw) (fun k σ H' => ∃ u7 : Option V, σ = [some (.int s), some vo, some (.int (n : Nat)), some va, some (.int (0 + (i : Int))), some (.int (0 + (j : Int))), some (.ref D), u7, none] ∧ Same H5 H' ∧ (((heldsO s n j i).take k).map fun h => (j, i, h)).find? (goodO s as) = none)
          ⟨u7, rfl, Same.refl H5, rfl⟩ (fun k σ H' _ h => by obtain ⟨_, _, s', _⟩ := h; exact s'.seq qw) ?_ ?_⟩
        · rintro k x σ H6 hx ⟨u7, rfl, s6, g3⟩
          obtain ⟨dr, hr', hxd⟩ := dpAll_get rw' hx
          obtain ⟨h, hk, rfl⟩ : ∃ h, (heldsO s n j i)[k]? = some h ∧ dr = .tuple (h.map oD) := by
            rw [List.getElem?_map] at hr'
            unfold heldsO
            cases e : (rowsG ((List.range n).map (choiceO s j i)))[k]? with
            | none =>
              rw [e] at hr'
              cases hr'
            | some c =>
              rw [e] at hr'
              exact ⟨c, rfl, (Option.some.inj hr').symm⟩
          have hm := List.mem_of_getElem? hk
          obtain ⟨hn, h2⟩ := hh h hm
          have s06 := s05.trans s6
          refine ⟨_, rfl, _, rfl, _, rfl, (by show 1 ≤ sizeLine; decide), fun l hl => ⟨_, rfl, l, _, _, rfl, rfl, upd_same, by omega, by omega, ?_, fun l2 hl2 => ?_⟩⟩
          · rw [Int.toNat_natCast, sizeLine_eq]
            show 1 * n ≤ _
            omega
          rw [rep_flat]
          have s7 := (same_new (o := .lst [V.int (s : Int)]) hl).trans (same_new (o := .lst ((List.replicate n s).map fun n : Nat => V.int n)) hl2)
          have dz : Dp K (upd (upd H6 l (.lst [V.int (s : Int)])) l2 (.lst ((List.replicate n s).map fun n : Nat => V.int n))) (.ref l2) (.list ((List.replicate h.length s).map nD)) := by
            rw [hn]
            exact .lst (SqL.of upd_same) (dpAll_mkn _)
          refine ⟨_, rfl, va, .ref l2, x, s, as, h, rfl, dp_same (s06.trans s7) da, dz, .inr ⟨dp_same (s6.trans s7) hxd, (ndx x (List.mem_of_getElem? hx)).same (s6.trans s7)⟩, by omega, by omega, helds_lt hm, by rw [hn]; exact la, fun H8 v8 s8 d8 _ => ?_⟩
          refine ⟨v8, s, 2, heldAns s as h, rfl, d8, s2, by omega, by omega, by unfold heldAns; rw [List.length_map]; exact h2, fun H9 v9 s9 d9 => ?_⟩
          obtain ⟨a9, x9, rfl, q9, r9⟩ := dp_tup d9
          have l9 : x9.length = (hungN s 2 (heldAns s as h)).length := by rw [dpAll_len r9, List.length_map]
          have s69 := s7.trans (s8.trans s9)
          refine ⟨a9, x9, rfl, .inr q9, rfl, _, rfl, ?_⟩
          by_cases hg : (hungN s 2 (heldAns s as h)).length = 2
          · refine go_t (by rw [l9, hg]; rfl) ?_
            have gd : goodO s as (j, i, h) = true := decide_eq_true hg
            refine ⟨_, rfl, _, rfl, _, rfl, (by show 3 ≤ sizeLine; decide), fun t ht => ?_⟩
            have s10 := same_new (o := .tup [.int (0 + (j : Int)), .int (0 + (i : Int)), x]) ht
            refine k1 j i h (two_at hi hj hk g1 g2 g3 gd) hj hi hm gd _ t x (s1.trans (s06.trans (s69.trans s10))) ?_ (dp_same (s6.trans (s69.trans s10)) hxd) ((ndx x (List.mem_of_getElem? hx)).same (s6.trans (s69.trans s10)))
            rw [upd_same, Int.zero_add, Int.zero_add]
          · refine go_f (by rw [l9]; simp; omega) ?_
            refine ⟨_, rfl, s6.trans s69, ?_⟩
            rw [take_more hk, List.map_append, List.find?_append, g3]
            show (List.find? (goodO s as) [(j, i, h)]) = none
            rw [List.find?_cons]
            have : goodO s as (j, i, h) = false := decide_eq_false hg
            rw [this]
            rfl
        · rintro σ H6 ⟨u7, rfl, s6, g3⟩
          refine ⟨_, _, _, rfl, s05.trans s6, flat_none _ _ g2 ?_⟩
          rw [lw, List.take_length] at g3
          exact g3
      · rintro σ H3 ⟨u5, u6, u7, rfl, s3, g2⟩
        exact ⟨_, _, _, _, rfl, s3, flat_none _ _ g1 g2⟩
    · rintro σ H2 ⟨u4, u5, u6, u7, rfl, s2', g1⟩
      exact k0 g1 H2 (s1.trans s2')
end
end K02
/-! answers of answers; two places; least tables: facts about numbers. -/
namespace K02
open PySem L2 FX SQ
theorem getD_of {as : List Nat} {i : Nat} (h : i < as.length) : as.getD i 0 = as[i] := by rw [List.getD_eq_getElem?_getD, List.getElem?_eq_getElem h]; rfl
theorem getD_range {as : List Nat} {m : Nat} (l : as.length = m) : (List.range m).map (fun i => as.getD i 0) = as := by
  refine List.ext_getElem (by rw [List.length_map, List.length_range, l]) fun i h1 h2 => ?_
  rw [List.getElem_map, List.getElem_range, getD_of h2]
theorem spots_get {s L i : Nat} (hi : i < L) : ∀ (r : List (List Nat)) (t : List Nat), t.length = L → (∀ u ∈ r, u.length = L) → (r.foldl (stepS s) t).getD i 0 = (r.map fun u => u.getD i 0).foldl (fun a b => a * s + b) (t.getD i 0)
  | [], t, _, _ => rfl
  | u :: r, t, lt, hr => by
    have lu := hr u (List.mem_cons_self ..)
    have ls : (stepS s t u).length = L := by unfold stepS; rw [List.length_zipWith, lt, lu, Nat.min_self]
    have ih := spots_get (s := s) hi r (stepS s t u) ls fun v hv => hr v (List.mem_cons_of_mem _ hv)
    rw [List.foldl_cons, ih, List.map_cons, List.foldl_cons]
    congr 1
    rw [getD_of (by omega), getD_of (by omega), getD_of (by omega)]
    unfold stepS
    rw [List.getElem_zipWith]
theorem ansN_at {s L : Nat} {as : List Nat} {ts : List (List Nat)} (h1 : 1 ≤ ts.length) (h : ∀ t ∈ ts, t.length = L) : ansN s as ts = (List.range L).map fun i => as.getD (spotN s (ts.map fun t => t.getD i 0)) 0 := by
  cases ts with
  | nil => simp at h1
  | cons t r =>
    have lt := h t (List.mem_cons_self ..)
    have lr : ∀ u ∈ r, u.length = L := fun u hu => h u (List.mem_cons_of_mem _ hu)
    have ls := spots_len (s := s) r t lt lr
    unfold ansN spotsN
    refine List.ext_getElem (by rw [List.length_map, List.length_map, List.length_range]; exact ls) fun i i1 i2 => ?_
    rw [List.length_map, List.length_range] at i2
    rw [List.getElem_map, List.getElem_map, List.getElem_range]
    congr 1
    have e := spots_get (s := s) i2 r t lt lr
    rw [getD_of (by omega)] at e
    rw [e]
    unfold spotN
    rw [List.map_cons, List.foldl_cons, Nat.zero_mul, Nat.zero_add]
theorem ansN_get {s L j : Nat} {as : List Nat} {ts : List (List Nat)} (h1 : 1 ≤ ts.length) (h : ∀ t ∈ ts, t.length = L) (hj : j < L) : (ansN s as ts).getD j 0 = as.getD (spotN s (ts.map fun t => t.getD j 0)) 0 := by
  rw [ansN_at h1 h, List.getD_eq_getElem?_getD, List.getElem?_map, List.getElem?_range hj]
  rfl
theorem ansN_len {s L : Nat} {as : List Nat} {ts : List (List Nat)} (h1 : 1 ≤ ts.length) (h : ∀ t ∈ ts, t.length = L) : (ansN s as ts).length = L := by
  rw [ansN_at h1 h, List.length_map, List.length_range]
theorem col_ok {s n i L : Nat} {ts : List (List Nat)} (hi : i < L) (hn : ts.length = n) (h : ∀ t ∈ ts, t.length = L ∧ ∀ x ∈ t, x < s) : (ts.map fun t => t.getD i 0).length = n ∧ ∀ x ∈ ts.map fun t => t.getD i 0, x < s := by
  refine ⟨by rw [List.length_map, hn], fun x hx => ?_⟩
  obtain ⟨t, ht, rfl⟩ := List.mem_map.mp hx
  obtain ⟨h1, h2⟩ := h t ht
  rw [getD_of (by omega)]
  exact h2 _ (List.getElem_mem _)
theorem ansN_lt {s n L : Nat} {as : List Nat} {ts : List (List Nat)} (s8 : s ≤ 8) (n1 : 1 ≤ n) (hn : ts.length = n) (la : as.length = s ^ n) (hlt : ∀ a ∈ as, a < s) (h : ∀ t ∈ ts, t.length = L ∧ ∀ x ∈ t, x < s) : ∀ x ∈ ansN s as ts, x < s := by
  rw [ansN_at (by omega) fun t ht => (h t ht).1]
  intro x hx
  obtain ⟨i, hi, rfl⟩ := List.mem_map.mp hx
  obtain ⟨c1, c2⟩ := col_ok (List.mem_range.mp hi) hn h
  have := spot_lt' s8 c2
  rw [c1, ← la] at this
  rw [getD_of this]
  exact hlt _ (List.getElem_mem _)
def rowsIdx (s : Nat) (os : List (Option Nat)) : List Nat := (rowsN (os.map (choiceN s))).map (spotN s)
theorem heldAns_idx (s : Nat) (as : List Nat) (os : List (Option Nat)) : heldAns s as os = (rowsIdx s os).map fun i => as.getD i 0 := by
  unfold heldAns rowsIdx
  rw [List.map_map]
  rfl
theorem idx_lt {s m : Nat} {os : List (Option Nat)} (s8 : s ≤ 8) (lo : os.length = m) (ho : ∀ v, some v ∈ os → v < s) : ∀ i ∈ rowsIdx s os, i < s ^ m := by
  intro i hi
  unfold rowsIdx at hi
  obtain ⟨r, hr, rfl⟩ := List.mem_map.mp hi
  have := spot_lt' s8 (rowsN_lt (os.map (choiceN s)) (choice_lt ho) r hr)
  rw [rowsN_len (os.map (choiceN s)) r hr, List.length_map, lo] at this
  exact this
theorem flat_eq {α β : Type} {f : α → List β} {m : Nat} (h : ∀ r, (f r).length = m) : ∀ l : List α, (l.flatMap f).length = l.length * m
  | [] => by simp
  | r :: l => by
    rw [List.flatMap_cons, List.length_append, h r, flat_eq h l, List.length_cons, Nat.add_mul, Nat.one_mul, Nat.add_comm]
theorem rowsN_cnt {s : Nat} : ∀ os : List (Option Nat), ∀ acc : List (List Nat), ((os.map (choiceN s)).foldl stepN acc).length = acc.length * s ^ cntN os
  | [], acc => by simp [cntN]
  | o :: os, acc => by
    rw [List.map_cons, List.foldl_cons, rowsN_cnt os]
    have h1 : (stepN acc (choiceN s o)).length = acc.length * (choiceN s o).length := flat_eq (fun r => List.length_map _) acc
    rw [h1]
    unfold cntN
    rw [List.countP_cons]
    cases o with
    | none =>
      show acc.length * (List.range s).length * _ = _
      rw [List.length_range, Nat.mul_assoc]
      congr 1
      rw [show (if (Option.isNone (none : Option Nat)) = true then 1 else 0) = 1 from rfl, Nat.pow_succ, Nat.mul_comm]
    | some v =>
      show acc.length * 1 * _ = _
      rw [Nat.mul_one]
      rfl
theorem heldAns_len {s : Nat} (as : List Nat) (os : List (Option Nat)) : (heldAns s as os).length = s ^ cntN os := by
  unfold heldAns
  rw [List.length_map]
  show ((os.map (choiceN s)).foldl stepN [[]]).length = _
  rw [rowsN_cnt]
  show 1 * _ = _
  rw [Nat.one_mul]
theorem heldAns_lt {s m : Nat} {as : List Nat} {os : List (Option Nat)} (s8 : s ≤ 8) (lo : os.length = m) (ho : ∀ v, some v ∈ os → v < s) (la : as.length = s ^ m) (hlt : ∀ a ∈ as, a < s) : ∀ x ∈ heldAns s as os, x < s := by
  rw [heldAns_idx]
  intro x hx
  obtain ⟨i, hi, rfl⟩ := List.mem_map.mp hx
  have := idx_lt s8 lo ho i hi
  rw [getD_of (by omega)]
  exact hlt _ (List.getElem_mem _)
/-- held and put together, or put together and held -/
theorem ans_held {s n m : Nat} {as : List Nat} {ts : List (List Nat)} {os : List (Option Nat)} (s8 : s ≤ 8) (hn : ts.length = n) (n1 : 1 ≤ n) (lo : os.length = m) (ho : ∀ v, some v ∈ os → v < s) (h : ∀ t ∈ ts, t.length = s ^ m) : ansN s as (ts.map fun t => heldAns s t os) = heldAns s (ansN s as ts) os := by
  rw [ansN_at (L := s ^ cntN os) (by rw [List.length_map]; omega) fun t ht => by
    obtain ⟨u, _, rfl⟩ := List.mem_map.mp ht
    exact heldAns_len _ _]
  have lr : (rowsIdx s os).length = s ^ cntN os := by
    have := heldAns_len (s := s) [] os
    rw [heldAns_idx, List.length_map] at this
    exact this
  rw [heldAns_idx s (ansN s as ts) os]
  refine List.ext_getElem (by rw [List.length_map, List.length_range, List.length_map, lr]) fun i h1 h2 => ?_
  rw [List.length_map, List.length_range] at h1
  rw [List.getElem_map, List.getElem_range, List.getElem_map]
  have hx : i < (rowsIdx s os).length := by omega
  have hj := idx_lt s8 lo ho _ (List.getElem_mem hx)
  have key : ∀ j, j < s ^ m → (ansN s as ts).getD j 0 = as.getD (spotN s (ts.map fun t => t.getD j 0)) 0 := fun j hj => ansN_get (by omega) h hj
  have hg : ∀ t : List Nat, (heldAns s t os).getD i 0 = t.getD (rowsIdx s os)[i] 0 := fun t => by
    rw [heldAns_idx, List.getD_eq_getElem?_getD, List.getElem?_map, List.getElem?_eq_getElem hx]
    rfl
  rw [key _ hj, List.map_map]
  congr 2
  exact List.map_congr_left fun t _ => hg t
/-! ### the least table -/
def zeroI (s n : Nat) (hs : List Nat) (i : Nat) : Nat := (List.range n).foldl (fun i p => if p ∈ hs then i else lowI s (stO s n p) i) i
theorem hangs_no {s n p i : Nat} {as : List Nat} (h : hangsA s n as p = false) (hi : i < s ^ n) : as.getD i 0 = as.getD (lowI s (stO s n p) i) 0 := by
  unfold hangsA at h
  have := List.any_eq_false.mp h i (List.mem_range.mpr hi)
  simpa using this
theorem zero_as {s n : Nat} {as : List Nat} (i : Nat) (hi : i < s ^ n) : as.getD i 0 = as.getD (zeroI s n (hungN s n as) i) 0 := by
  unfold zeroI
  suffices h : ∀ (l : List Nat) (i : Nat), (∀ p ∈ l, p < n) → i < s ^ n → as.getD i 0 = as.getD (l.foldl (fun i p => if p ∈ hungN s n as then i else lowI s (stO s n p) i) i) 0 from h _ i (fun p hp => List.mem_range.mp hp) hi
  intro l
  induction l with
  | nil => exact fun i _ _ => rfl
  | cons p l ih =>
    intro i hl hi
    rw [List.foldl_cons]
    have hp := hl p (List.mem_cons_self ..)
    have hl' : ∀ q ∈ l, q < n := fun q hq => hl q (List.mem_cons_of_mem _ hq)
    by_cases hm : p ∈ hungN s n as
    · rw [if_pos hm]
      exact ih i hl' hi
    · rw [if_neg hm]
      have hf : hangsA s n as p = false := by
        cases e : hangsA s n as p with
        | false => rfl
        | true => exact absurd (List.mem_filter.mpr ⟨List.mem_range.mpr hp, e⟩) hm
      rw [hangs_no hf hi]
      exact ih _ hl' (Nat.lt_of_le_of_lt (Nat.sub_le _ _) hi)
def subs (n : Nat) : List (List Nat) := [false, true].flatMap fun a => [false, true].flatMap fun b => [false, true].map fun c => (List.range n).filter fun p => [a, b, c].getD p false
theorem sub_mem {n : Nat} (n3 : n ≤ 3) (f : Nat → Bool) : (List.range n).filter f ∈ subs n := by
  have e : (List.range n).filter f = (List.range n).filter fun p => [f 0, f 1, f 2].getD p false := by
    refine List.filter_congr fun p hp => ?_
    have := List.mem_range.mp hp
    obtain rfl | rfl | rfl : p = 0 ∨ p = 1 ∨ p = 2 := by omega
    · rfl
    · rfl
    · rfl
  rw [e]
  unfold subs
  refine List.mem_flatMap.mpr ⟨f 0, by cases f 0 <;> simp, List.mem_flatMap.mpr ⟨f 1, by cases f 1 <;> simp, List.mem_map.mpr ⟨f 2, by cases f 2 <;> simp, rfl⟩⟩⟩
def g2 (s n : Nat) : Bool := (subs n).all fun hs => decide ((rowsIdx s (leastO n hs)).length = s ^ hs.length) && (List.range (s ^ n)).all fun i => decide (spotN s (hs.map fun p => ((gridN s n).getD i []).getD p 0) < s ^ hs.length) && decide ((rowsIdx s (leastO n hs)).getD (spotN s (hs.map fun p => ((gridN s n).getD i []).getD p 0)) 0 = zeroI s n hs i)
theorem g2_ok {s n : Nat} (h : SN s n) : g2 s n = true := SN.all (f := g2) (by decide +kernel) h
theorem least_len {s n : Nat} (as : List Nat) (h : SN s n) : (heldAns s as (leastO n (hungN s n as))).length = s ^ (hungN s n as).length := by
  have h1 := List.all_eq_true.mp (g2_ok h) (hungN s n as) (sub_mem h.s2.2.2 _)
  rw [Bool.and_eq_true] at h1
  rw [heldAns_idx, List.length_map]
  exact of_decide_eq_true h1.1
theorem least_at {s n i : Nat} {as r : List Nat} (h : SN s n) (hr : (gridN s n)[i]? = some r) : as.getD i 0 = (heldAns s as (leastO n (hungN s n as))).getD (spotN s ((hungN s n as).map fun p => r.getD p 0)) 0 := by
  have hi : i < s ^ n := by rw [← gridN_len]; exact (List.getElem?_eq_some_iff.mp hr).1
  have h1 := List.all_eq_true.mp (g2_ok h) (hungN s n as) (sub_mem h.s2.2.2 _)
  rw [Bool.and_eq_true] at h1
  have h2 := List.all_eq_true.mp h1.2 i (List.mem_range.mpr hi)
  simp only [Bool.and_eq_true, decide_eq_true_eq] at h2
  have er : (gridN s n).getD i [] = r := by rw [List.getD_eq_getElem?_getD, hr]; rfl
  rw [er] at h2
  have h3 := of_decide_eq_true h1.1
  rw [zero_as i hi, ← h2.2, heldAns_idx]
  generalize spotN s ((hungN s n as).map fun p => r.getD p 0) = k at h2 ⊢
  have hk : k < (rowsIdx s (leastO n (hungN s n as))).length := by omega
  rw [List.getD_eq_getElem?_getD (l := List.map _ _), List.getElem?_map, List.getElem?_eq_getElem hk, List.getD_eq_getElem?_getD (l := rowsIdx s _), List.getElem?_eq_getElem hk]
  rfl
end K02
/-! two places on both of which an operation hangs are there just if it hangs on two. -/
namespace K02
open PySem L2 FX SQ
theorem hungN_mem {s n p : Nat} {as : List Nat} : p ∈ hungN s n as ↔ p < n ∧ hangsA s n as p = true := by
  unfold hungN
  rw [List.mem_filter, List.mem_range]
theorem hungN_two {s : Nat} {as : List Nat} (h : (hungN s 2 as).length = 2) : hungN s 2 as = [0, 1] ∧ hangsA s 2 as 0 = true ∧ hangsA s 2 as 1 = true := by
  unfold hungN at h ⊢
  rw [show List.range 2 = [0, 1] from rfl] at h ⊢
  cases e0 : hangsA s 2 as 0 <;> cases e1 : hangsA s 2 as 1 <;> simp [List.filter_cons, e0, e1] at h ⊢
theorem two_of_two {s n p o : Nat} {as : List Nat} (hpo : p < o) (ho : o < n) (h1 : hangsA s n as p = true) (h2 : hangsA s n as o = true) : 2 ≤ (hungN s n as).length := by
  have m1 : p ∈ hungN s n as := hungN_mem.mpr ⟨by omega, h1⟩
  have m2 : o ∈ hungN s n as := hungN_mem.mpr ⟨ho, h2⟩
  match e : hungN s n as with
  | [] => rw [e] at m1; cases m1
  | [q] =>
    rw [e, List.mem_singleton] at m1 m2
    omega
  | q :: r :: l => simp
/-- what is held: its rows, and how they differ at the two places -/
def m2 (s n : Nat) : Bool := (List.range n).all fun o => (List.range o).all fun p => (heldsO s n p o).all fun h =>
  ((List.range (s ^ 2)).all fun i => decide (i < (rowsIdx s h).length) && decide ((rowsIdx s h).getD i 0 < s ^ n) && decide (lowI s (stO s n p) ((rowsIdx s h).getD i 0) = (rowsIdx s h).getD (lowI s (stO s 2 0) i) 0) && decide (lowI s (stO s n o) ((rowsIdx s h).getD i 0) = (rowsIdx s h).getD (lowI s (stO s 2 1) i) 0)) &&
  decide (h.length = n) && ((List.range n).all fun a => (h.getD a (some 0)).isNone == (decide (a = p) || decide (a = o))) && decide (cntN h = 2)
theorem m2_ok {s n : Nat} (h : SN s n) : m2 s n = true := SN.all (f := m2) (by decide +kernel) h
theorem held_get {s i : Nat} {as : List Nat} {h : List (Option Nat)} (hi : i < (rowsIdx s h).length) : (heldAns s as h).getD i 0 = as.getD ((rowsIdx s h).getD i 0) 0 := by
  rw [heldAns_idx, List.getD_eq_getElem?_getD, List.getElem?_map, List.getElem?_eq_getElem hi, List.getD_eq_getElem?_getD (l := rowsIdx s h), List.getElem?_eq_getElem hi]
  rfl
theorem hangs_yes {s n p : Nat} {as : List Nat} (h : hangsA s n as p = true) : ∃ i, i < s ^ n ∧ as.getD i 0 ≠ as.getD (lowI s (stO s n p) i) 0 := by
  unfold hangsA at h
  obtain ⟨i, hi, h⟩ := List.any_eq_true.mp h
  exact ⟨i, List.mem_range.mp hi, by simpa using h⟩
theorem hangs_of {s n p i : Nat} {as : List Nat} (hi : i < s ^ n) (h : as.getD i 0 ≠ as.getD (lowI s (stO s n p) i) 0) : hangsA s n as p = true := by
  unfold hangsA
  exact List.any_eq_true.mpr ⟨i, List.mem_range.mpr hi, by simpa using h⟩
theorem two_right {s n o p : Nat} {as : List Nat} {h : List (Option Nat)} (hs : SN s n) (ho : o < n) (hp : p < o) (hh : h ∈ heldsO s n p o) (g : goodO s as (p, o, h) = true) :
    2 ≤ (hungN s n as).length ∧ hungN s 2 (heldAns s as h) = [0, 1] ∧ h.length = n ∧ cntN h = 2 ∧ ∀ a < n, (h.getD a (some 0)).isNone = (decide (a = p) || decide (a = o)) := by
  have h1 := List.all_eq_true.mp (all_lt (all_lt (m2_ok hs) ho) hp) h hh
  simp only [Bool.and_eq_true, decide_eq_true_eq, List.all_eq_true, List.mem_range] at h1
  obtain ⟨⟨⟨h1, h4⟩, h5⟩, h6⟩ := h1
  obtain ⟨g2, g0, g1⟩ := hungN_two (of_decide_eq_true g)
  refine ⟨two_of_two hp ho ?_ ?_, g2, h4, h6, fun a ha => by simpa using h5 a ha⟩
  · obtain ⟨i, hi, hn⟩ := hangs_yes g0
    obtain ⟨⟨⟨a1, a2⟩, a3⟩, a4⟩ := h1 i hi
    have hl : lowI s (stO s 2 0) i < s ^ 2 := Nat.lt_of_le_of_lt (Nat.sub_le _ _) hi
    rw [held_get a1, held_get (h1 _ hl).1.1.1, ← a3] at hn
    exact hangs_of a2 hn
  · obtain ⟨i, hi, hn⟩ := hangs_yes g1
    obtain ⟨⟨⟨a1, a2⟩, a3⟩, a4⟩ := h1 i hi
    have hl : lowI s (stO s 2 1) i < s ^ 2 := Nat.lt_of_le_of_lt (Nat.sub_le _ _) hi
    rw [held_get a1, held_get (h1 _ hl).1.1.1, ← a4] at hn
    exact hangs_of a2 hn
/-! ### three places -/
def ix (s x y z : Nat) : Nat := x * s * s + y * s + z
def t1 (s : Nat) : Bool := ((List.range (s ^ 3)).all fun i => decide (i / (s * s) < s) && decide (i / s % s < s) && decide (i % s < s) && decide (ix s (i / (s * s)) (i / s % s) (i % s) = i) &&
  decide (lowI s (stO s 3 0) i = ix s 0 (i / s % s) (i % s)) && decide (lowI s (stO s 3 1) i = ix s (i / (s * s)) 0 (i % s)) && decide (lowI s (stO s 3 2) i = ix s (i / (s * s)) (i / s % s) 0)) &&
  (List.range s).all fun v => (List.range s).all fun u => (List.range s).all fun w =>
    decide (u * s + w < s ^ 2) && decide (lowI s (stO s 2 0) (u * s + w) = w) && decide (lowI s (stO s 2 1) (u * s + w) = u * s) && decide (w < s ^ 2) && decide (u * s < s ^ 2) &&
    decide ((rowsIdx s [none, none, some v]).length = s ^ 2) && decide ((rowsIdx s [none, some v, none]).length = s ^ 2) && decide ((rowsIdx s [some v, none, none]).length = s ^ 2) &&
    decide ((rowsIdx s [none, none, some v]).getD (u * s + w) 0 = ix s u w v) && decide ((rowsIdx s [none, some v, none]).getD (u * s + w) 0 = ix s u v w) && decide ((rowsIdx s [some v, none, none]).getD (u * s + w) 0 = ix s v u w) &&
    ((List.range 3).flatMap (candP s 3)).contains (0, 1, [none, none, some v]) && ((List.range 3).flatMap (candP s 3)).contains (0, 2, [none, some v, none]) && ((List.range 3).flatMap (candP s 3)).contains (1, 2, [some v, none, none])
theorem t1_ok {s : Nat} (h : s = 2 ∨ s = 3) : t1 s = true := by
  rcases h with rfl | rfl <;> decide +kernel
theorem not_good {s : Nat} {as : List Nat} {c : Nat × Nat × List (Option Nat)} (h : goodO s as c = false) : hangsA s 2 (heldAns s as c.2.2) 0 = false ∨ hangsA s 2 (heldAns s as c.2.2) 1 = false := by
  have h := of_decide_eq_false h
  unfold hungN at h
  rw [show List.range 2 = [0, 1] from rfl] at h
  cases e0 : hangsA s 2 (heldAns s as c.2.2) 0 <;> cases e1 : hangsA s 2 (heldAns s as c.2.2) 1 <;> simp [List.filter_cons, e0, e1] at h ⊢
theorem three {s : Nat} {as : List Nat} (hs : s = 2 ∨ s = 3) (hn : twoN s 3 as = none) : (hungN s 3 as).length < 2 := by
  have t := t1_ok hs
  unfold t1 at t
  simp only [Bool.and_eq_true, decide_eq_true_eq, List.all_eq_true, List.mem_range, List.contains_iff_mem] at t
  obtain ⟨ti, tv⟩ := t
  have s0 : 0 < s := by omega
  unfold twoN at hn
  rw [List.find?_eq_none] at hn
  have ng : ∀ c ∈ (List.range 3).flatMap (candP s 3), goodO s as c = false := fun c hc => by simpa using hn c hc
  -- what no two places give
  have two : ∀ (h : List (Option Nat)) (f : Nat → Nat → Nat), (∀ u < s, ∀ w < s, u * s + w < (rowsIdx s h).length ∧ (rowsIdx s h).getD (u * s + w) 0 = f u w) → (hangsA s 2 (heldAns s as h) 0 = false ∨ hangsA s 2 (heldAns s as h) 1 = false) →
      (∀ u < s, ∀ w < s, as.getD (f u w) 0 = as.getD (f 0 w) 0) ∨ (∀ u < s, ∀ w < s, as.getD (f u w) 0 = as.getD (f u 0) 0) := fun h f hf hh => by
    rcases hh with hh | hh
    · refine .inl fun u hu w hw => ?_
      have tt := tv 0 s0 u hu w hw
      have q := hangs_no hh (i := u * s + w) (by omega)
      rw [show lowI s (stO s 2 0) (u * s + w) = 0 * s + w from by omega] at q
      have a1 := hf u hu w hw
      have a2 := hf 0 s0 w hw
      rw [held_get a1.1, held_get a2.1, a1.2, a2.2] at q
      exact q
    · refine .inr fun u hu w hw => ?_
      have tt := tv 0 s0 u hu w hw
      have q := hangs_no hh (i := u * s + w) (by omega)
      rw [show lowI s (stO s 2 1) (u * s + w) = u * s + 0 from by omega] at q
      have a1 := hf u hu w hw
      have a2 := hf u hu 0 s0
      rw [held_get a1.1, held_get a2.1, a1.2, a2.2] at q
      exact q
  have A01 : ∀ v < s, (∀ u < s, ∀ w < s, as.getD (ix s u w v) 0 = as.getD (ix s 0 w v) 0) ∨ (∀ u < s, ∀ w < s, as.getD (ix s u w v) 0 = as.getD (ix s u 0 v) 0) := fun v hv => by
    have tt := tv v hv 0 s0 0 s0
    exact two [none, none, some v] (fun u w => ix s u w v) (fun u hu w hw => by have := tv v hv u hu w hw; exact ⟨by omega, by omega⟩) (not_good (ng (0, 1, [none, none, some v]) tt.1.1.2))
  have A02 : ∀ v < s, (∀ u < s, ∀ w < s, as.getD (ix s u v w) 0 = as.getD (ix s 0 v w) 0) ∨ (∀ u < s, ∀ w < s, as.getD (ix s u v w) 0 = as.getD (ix s u v 0) 0) := fun v hv => by
    have tt := tv v hv 0 s0 0 s0
    exact two [none, some v, none] (fun u w => ix s u v w) (fun u hu w hw => by have := tv v hv u hu w hw; exact ⟨by omega, by omega⟩) (not_good (ng (0, 2, [none, some v, none]) tt.1.2))
  have A12 : ∀ v < s, (∀ u < s, ∀ w < s, as.getD (ix s v u w) 0 = as.getD (ix s v 0 w) 0) ∨ (∀ u < s, ∀ w < s, as.getD (ix s v u w) 0 = as.getD (ix s v u 0) 0) := fun v hv => by
    have tt := tv v hv 0 s0 0 s0
    exact two [some v, none, none] (fun u w => ix s v u w) (fun u hu w hw => by have := tv v hv u hu w hw; exact ⟨by omega, by omega⟩) (not_good (ng (1, 2, [some v, none, none]) tt.2))
  clear two tv ng hn
  generalize hF : (fun x y z => as.getD (ix s x y z) 0) = F
  have eF : ∀ x y z, as.getD (ix s x y z) 0 = F x y z := fun x y z => by rw [← hF]
  simp only [eF] at A01 A02 A12
  have D : ∀ p, p < 3 → hangsA s 3 as p = true → ∃ x y z, x < s ∧ y < s ∧ z < s ∧ F x y z ≠ F (if p = 0 then 0 else x) (if p = 1 then 0 else y) (if p = 2 then 0 else z) := fun p hp h => by
    obtain ⟨i, hi, hne⟩ := hangs_yes h
    obtain ⟨⟨⟨⟨⟨⟨c1, c2⟩, c3⟩, c4⟩, c5⟩, c6⟩, c7⟩ := ti i hi
    refine ⟨i / (s * s), i / s % s, i % s, c1, c2, c3, ?_⟩
    rw [← eF, ← eF, c4]
    obtain rfl | rfl | rfl : p = 0 ∨ p = 1 ∨ p = 2 := by omega
    · rw [c5] at hne
      exact hne
    · rw [c6] at hne
      exact hne
    · rw [c7] at hne
      exact hne
  have P0 : hangsA s 3 as 0 = true → (∀ x < s, ∀ y < s, ∀ z < s, F x y z = F x 0 z) ∧ ∀ x < s, ∀ y < s, ∀ z < s, F x y z = F x y 0 := fun h => by
    obtain ⟨a, y0, z0, ha, hy0, hz0, hne⟩ := D 0 (by decide) h
    have hne : F a y0 z0 ≠ F 0 y0 z0 := hne
    have B1 : ∀ u < s, ∀ w < s, F u w z0 = F u 0 z0 := by
      rcases A01 z0 hz0 with q | q
      · exact absurd (q a ha y0 hy0) hne
      · exact q
    have B2 : ∀ y < s, ∀ u < s, ∀ w < s, F u y w = F u y 0 := fun y hy => by
      rcases A02 y hy with q | q
      · refine absurd (q a ha z0 hz0) ?_
        rw [B1 a ha y hy, B1 0 s0 y hy, ← B1 a ha y0 hy0, ← B1 0 s0 y0 hy0]
        exact hne
      · exact q
    refine ⟨fun x hx y hy z hz => ?_, fun x hx y hy z hz => B2 y hy x hx z hz⟩
    rw [B2 y hy x hx z hz, B2 0 s0 x hx z hz, ← B2 y hy x hx z0 hz0, ← B2 0 s0 x hx z0 hz0]
    exact B1 x hx y hy
  have P1 : hangsA s 3 as 1 = true → ∀ x < s, ∀ y < s, ∀ z < s, F x y z = F x y 0 := fun h => by
    obtain ⟨x0, b, z0, hx0, hb, hz0, hne⟩ := D 1 (by decide) h
    have hne : F x0 b z0 ≠ F x0 0 z0 := hne
    have B1 : ∀ u < s, ∀ w < s, F u w z0 = F 0 w z0 := by
      rcases A01 z0 hz0 with q | q
      · exact q
      · exact absurd (q x0 hx0 b hb) hne
    intro x hx y hy z hz
    rcases A12 x hx with q | q
    · refine absurd (q b hb z0 hz0) ?_
      rw [B1 x hx b hb, B1 x hx 0 s0, ← B1 x0 hx0 b hb, ← B1 x0 hx0 0 s0]
      exact hne
    · exact q y hy z hz
  have no : ∀ p q, p < q → q < 3 → hangsA s 3 as p = true → hangsA s 3 as q = true → False := fun p q hpq hq hp hq' => by
    obtain ⟨x, y, z, hx, hy, hz, hne⟩ := D q hq hq'
    obtain rfl | rfl : p = 0 ∨ p = 1 := by omega
    · obtain ⟨e1, e2⟩ := P0 hp
      obtain rfl | rfl : q = 1 ∨ q = 2 := by omega
      · exact hne (e1 x hx y hy z hz)
      · exact hne (e2 x hx y hy z hz)
    · obtain rfl : q = 2 := by omega
      exact hne (P1 hp x hx y hy z hz)
  unfold hungN
  rw [show List.range 3 = [0, 1, 2] from rfl]
  cases e0 : hangsA s 3 as 0 <;> cases e1 : hangsA s 3 as 1 <;> cases e2 : hangsA s 3 as 2 <;> simp [List.filter_cons, e0, e1, e2]
  · exact no 1 2 (by decide) (by decide) e1 e2
  · exact no 0 2 (by decide) (by decide) e0 e2
  · exact no 0 1 (by decide) (by decide) e0 e1
  · exact no 0 1 (by decide) (by decide) e0 e1
theorem hung_few {s n : Nat} {as : List Nat} : (hungN s n as).length ≤ n := by
  unfold hungN
  have := List.length_filter_le (hangsA s n as) (List.range n)
  rw [List.length_range] at this
  exact this
theorem two_none {s n : Nat} {as : List Nat} (hs : SN s n) (la : as.length = s ^ n) (hn : twoN s n as = none) : (hungN s n as).length < 2 := by
  obtain ⟨n1, h⟩ := id hs
  obtain rfl | rfl | rfl : n = 1 ∨ n = 2 ∨ n = 3 := by omega
  · have := hung_few (s := s) (n := 1) (as := as)
    omega
  · have hs3 : s = 2 ∨ s = 3 ∨ s = 4 := by omega
    have e : (List.range 2).flatMap (candP s 2) = [(0, 1, [none, none])] := by rcases hs3 with rfl | rfl | rfl <;> decide +kernel
    have ei : rowsIdx s [none, none] = List.range (s ^ 2) := by rcases hs3 with rfl | rfl | rfl <;> decide +kernel
    have eh : heldAns s as [none, none] = as := by
      rw [heldAns_idx, ei]
      exact getD_range la
    unfold twoN at hn
    rw [e, List.find?_eq_none] at hn
    have g := hn (0, 1, [none, none]) (List.mem_singleton.mpr rfl)
    unfold goodO at g
    rw [eh] at g
    have hf := hung_few (s := s) (n := 2) (as := as)
    have : ¬ (hungN s 2 as).length = 2 := by simpa using g
    omega
  · exact three (by omega) hn
end K02
/-! A tuple so many times, once too (then it is itself). -/
namespace SQ
open PySem PySem.Spec PyProof.Rows L2 K02
theorem tuple_mul1 (l : Addr) (items : Array Value) (n : Nat) (dd : Option Addr) (sl : Array (Option Value)) (u : Tok) :
    Meets (Builtin.«tuple.__mul__» ⟨[.ref l, .int 1 u], []⟩) (fun _ R s => s.heap.get? l = some { cls := .type "tuple", dict := dd, data := .seq items n, slots := sl } ∧ R (.ok (.ret (Value.ref l))) s) :=
  .of_wp fun prog w A R s h => by
    obtain ⟨hp, g, d, tk, os⟩ := s
    obtain ⟨hl, h⟩ := h
    have f1 := AutoSeq1.idx_int
    wp_walk using wpAny_loadPart' hl
    exact ⟨_, rfl, h⟩
def rRepA (K : PySem.W.Frag) : R2 := fun x y H Q => ∃ l k xs, x = .ref l ∧ y = .int k ∧ SqT K H l xs ∧ xs ≠ [] ∧ 1 ≤ k ∧ k ≤ 1000 ∧ xs.length ≤ 1000 ∧ ∀ H' c, Same H H' → SqT K H' c (List.replicate k.toNat xs).flatten → Q (.ref c) H'
theorem op_repA {X : Cx} : OpR X (binaryOp .Mult) (rRepA X.K) := by
  intro pins s σ H x y v u Q I rx ry h
  obtain ⟨l, k, xs, rfl, rfl, hT, hne, h1, h2, hz, q⟩ := h
  by_cases hk : k = 1
  · subst hk
    cases rx
    obtain ⟨t, rfl⟩ := ry
    obtain ⟨its, r, ⟨⟨cls, dd, data, sl⟩, ho, hc, n, hd⟩, hs⟩ := I.tuple hT
    simp only at hc hd
    subst hc hd
    refine wpAny_binaryOp_repeat_ref (T := "tuple") (U := "int") (by decide) ⟨_, ho, rfl⟩ (fun s' => typeIs_int s' 1 t) noFill_tuple_mul F.fills_int_mul F.slot_int_rmul repeat_tuple F.slot_int_index.lookup
      (call_meets F.slot_int_rmul (typeIs_int s 1 t) F.entry_int_rmul (F.args_int_rmul_2 _ _) (int_rmul_tuple 1 t l its.toArray n dd sl)
        ⟨ho, rfl, ⟨_, ho, rfl⟩, call_meets F.slot_tuple_mul ⟨_, ho, rfl⟩ F.entry_tuple_mul (F.args_tuple_mul_2 _ _) (tuple_mul1 l its.toArray n dd sl t) ⟨ho, ?_⟩⟩)
    refine ⟨.ref l, H, I, rfl, q H l (Same.refl H) ?_⟩
    show SqT _ H l (List.replicate 1 xs).flatten
    rw [List.replicate_one, List.flatten_singleton]
    exact hT
  · exact op_repT pins s σ H _ _ v u Q I rx ry ⟨l, k, xs, rfl, rfl, hT, hne, by omega, h2, hz, fun p hp => q _ p (same_new hp) (SqT.of upd_same)⟩
end SQ
/-! tuples put together, and parts of them: whatever comes. -/
namespace SQ
open PySem PySem.Spec PyProof.Rows L2 FX K02
theorem cat_any {K : PySem.W.Frag} {H : Hp} {Q : VK} {a b : Addr} {xs ys : List V} (ha : SqT K H a xs) (hb : SqT K H b ys) (hz : xs.length + ys.length ≤ sizeLine) (k : ∀ H' c, Same H H' → SqT K H' c (xs ++ ys) → Q (.ref c) H') : rCatA K (.ref a) (.ref b) H Q :=
  ⟨a, b, xs, ys, rfl, rfl, ha, hb, hz, fun e => by
    subst e
    exact k H b (Same.refl _) hb, fun _ e => by
    subst e
    exact k H a (Same.refl _) (by rw [List.append_nil]; exact ha), fun _ _ p hp => k _ p (same_new hp) (SqT.of upd_same)⟩
theorem sl_any {K : PySem.W.Frag} {H : Hp} {Q : VK} {a : Addr} {xs : List V} {lo hi : Option Int} (ha : SqT K H a xs) (k : ∀ H' c, Same H H' → SqT K H' c (cutV xs lo hi) → Q (.ref c) H') : rSlA K (.ref a) lo hi H Q :=
  ⟨a, xs, rfl, ha, fun h => k H a (Same.refl _) (by
    unfold cutV
    rw [h.1, h.2, List.drop_zero, Nat.sub_zero, List.take_length]
    exact ha), fun _ p hp => k _ p (same_new hp) (SqT.of upd_same)⟩
end SQ
/-! operations put together are right. -/
namespace K02
open PySem L2 FX SQ LamX
abbrev sJR : Stmt := top 44
abbrev NJR : List Str := ["box", "size", "operation", "many", "tables", "given", "told", "due", "held", "parts", "at", "bad", "wide", "turn", "row", "places", "answers", "table"]
theorem scJR : FnScope NJR ["box", "size", "operation"] (defScope sJR) := ⟨rfl, rfl, rfl, by decide +kernel, rfl, by decide +kernel, by decide +kernel⟩
def qJR : Str := (PyProof.Rows.envOfC "_law_joined_right" (defScope sJR) 0 0 .none).qual ++ "<lambda>"
theorem lk_relabel (c : Str → NameKind → Bool) (y : Str) : ∀ l : List (Str × NameKind), (List.lookup y l = some NameKind.cell ∨ List.lookup y l = some NameKind.free) →
    (List.lookup y (l.map fun x => if (x.2 == NameKind.free && c x.1 x.2) = true then (x.1, NameKind.cell) else x) = some NameKind.cell ∨ List.lookup y (l.map fun x => if (x.2 == NameKind.free && c x.1 x.2) = true then (x.1, NameKind.cell) else x) = some NameKind.free)
  | [], h => by simp at h
  | (n, k) :: l, h => by
    have ih := lk_relabel c y l
    rw [List.map_cons]
    by_cases e : y = n
    · subst e
      rw [List.lookup_cons_self] at h
      by_cases hc : (k == NameKind.free && c y k) = true
      · rw [if_pos hc, List.lookup_cons_self]
        exact .inl rfl
      · rw [if_neg hc, List.lookup_cons_self]
        exact h
    · have e' : (y == n) = false := by simpa using e
      rw [List.lookup_cons, e'] at h
      have h2 := ih h
      by_cases hc : (k == NameKind.free && c n k) = true
      · rw [if_pos hc, List.lookup_cons, e']
        exact h2
      · rw [if_neg hc, List.lookup_cons, e']
        exact h2
theorem blkIn {N : List Str} {scope s2 : Scope} {own : List (Str × Nat)} {cl : Addr} {C : List (Str × Addr)} {env : Env} (h : BlkOk N scope s2 own) : BlkOk N (PySem.compEnvC scope C cl env).scope s2 own := by
  refine ⟨h.kind, h.uniq, h.ix, fun y hy hk => ?_, h.own⟩
  have q := lk_relabel (fun n _ => env.scope.kind == ScopeKind.function && env.kindOf n == some NameKind.cell) y.1 scope.names (h.free y hy hk)
  have e : (PySem.compEnvC scope C cl env).scope.names = scope.names.map fun x => if (x.2 == NameKind.free && (env.scope.kind == ScopeKind.function && env.kindOf x.1 == some NameKind.cell)) = true then (x.1, NameKind.cell) else x := by
    show (PySem.relabel scope env).names = _
    unfold PySem.relabel
    show List.map _ scope.names = _
    refine List.map_congr_left fun x _ => ?_
    obtain ⟨n, k⟩ := x
    show (if _ then _ else _) = _
    rw [Bool.and_assoc]
  rw [e]
  exact q
/-- a drawn table: it and its answers are tuples, the answers without a dict -/
def TV (H : Hp) (m : Nat) (v : V) (t : List Nat) : Prop := ∃ a q o, v = .ref a ∧ H a = some (.tup [.int (m : Nat), .ref q]) ∧ H q = some (.frz o (.tup (t.map fun n : Nat => V.int n)))
theorem TV.nl {H H' : Hp} {m : Nat} {v : V} {t : List Nat} (n : NL H H') (h : TV H m v t) : TV H' m v t := by
  obtain ⟨a, q, o, e, h1, h2⟩ := h
  exact ⟨a, q, o, e, n _ _ h1 (fun _ z => nomatch z) (fun _ z => nomatch z), n _ _ h2 (fun _ z => nomatch z) (fun _ z => nomatch z)⟩
theorem TV.dp {K : PySem.W.Frag} {H : Hp} {m : Nat} {v : V} {t : List Nat} (h : TV H m v t) : Dp K H v (opT (m, t)) := by
  obtain ⟨a, q, o, rfl, h1, h2⟩ := h
  exact .tup (SqT.of h1) (.cons (.int _) (.cons (.tup (.inl (.inr ⟨o, h2⟩)) (dpAll_mkn t)) .nil))
def TVs (H : Hp) (m : Nat) (vs : List V) (ts : List (List Nat)) : Prop := vs.length = ts.length ∧ ∀ (i : Nat) v t, vs[i]? = some v → ts[i]? = some t → TV H m v t
theorem TVs.nl {H H' : Hp} {m : Nat} {vs : List V} {ts : List (List Nat)} (n : NL H H') (h : TVs H m vs ts) : TVs H' m vs ts := ⟨h.1, fun i v t a b => (h.2 i v t a b).nl n⟩
theorem TVs.snoc {H : Hp} {m : Nat} {vs : List V} {ts : List (List Nat)} {v : V} {t : List Nat} (h : TVs H m vs ts) (g : TV H m v t) : TVs H m (vs ++ [v]) (ts ++ [t]) := by
  refine ⟨by rw [List.length_append, List.length_append, h.1]; rfl, fun i v' o' a b => ?_⟩
  by_cases hi : i < vs.length
  · rw [List.getElem?_append_left hi] at a
    rw [List.getElem?_append_left (by rw [← h.1]; exact hi)] at b
    exact h.2 i v' o' a b
  · rw [List.getElem?_append_right (by omega)] at a
    rw [List.getElem?_append_right (by rw [← h.1]; omega), ← h.1] at b
    cases e : i - vs.length with
    | zero =>
      rw [e] at a b
      cases a
      cases b
      exact g
    | succ k =>
      rw [e] at a
      cases a
theorem TVs.get {H : Hp} {m : Nat} {vs : List V} {ts : List (List Nat)} (h : TVs H m vs ts) {i : Nat} {v : V} (hv : vs[i]? = some v) : ∃ t, ts[i]? = some t ∧ TV H m v t := by
  have hi : i < ts.length := by rw [← h.1]; exact (List.getElem?_eq_some_iff.mp hv).1
  exact ⟨ts[i], List.getElem?_eq_getElem hi, h.2 i v _ hv (List.getElem?_eq_getElem hi)⟩
theorem TVs.dps {K : PySem.W.Frag} {H : Hp} {m : Nat} : ∀ {vs : List V} {ts : List (List Nat)}, TVs H m vs ts → DpAll K H vs (ts.map fun t => opT (m, t))
  | [], [], _ => .nil
  | [], _ :: _, h => by cases h.1
  | _ :: _, [], h => by cases h.1
  | v :: vs, t :: ts, h => .cons (h.2 0 v t rfl rfl).dp (TVs.dps ⟨by have := h.1; simpa using this, fun i v' t' a b => h.2 (i + 1) v' t' (by simpa using a) (by simpa using b)⟩)
theorem sn_table {s m : Nat} (hs : 2 ≤ s ∧ s ≤ 4) (m2 : m ≤ 2) : s ^ m ≤ 16 := by
  have h1 : s ^ m ≤ 4 ^ m := Nat.pow_le_pow_left hs.2 m
  have h2 : 4 ^ m ≤ 4 ^ 2 := Nat.pow_le_pow_right (by decide) m2
  omega
theorem flat_core {K : PySem.W.Frag} {p : Addr} {H : Hp} {v : V} {ns : List Nat} (b : Box H p) (h : Dp K H v (.tuple (ns.map nD))) : Dp K (core p H) v (.tuple (ns.map nD)) := by
  obtain ⟨x, y, z, ep⟩ := b
  obtain ⟨a, xs, rfl, q, r⟩ := dp_tup h
  obtain rfl := dpAll_eqn r
  refine .tup ?_ (dpAll_mkn ns)
  rcases q with (q | ⟨o, q⟩) | q
  · have n : a ≠ p := fun z => by rw [z, ep] at q; cases q
    exact .inl (.inl (by unfold core; rw [if_neg n, q]))
  · have n : a ≠ p := fun z => by rw [z, ep] at q; cases q
    exact .inl (.inr ⟨o, by unfold core; rw [if_neg n, q]⟩)
  · exact .inr q
theorem flat_off {K : PySem.W.Frag} {D : Addr} {H : Hp} {v : V} {ns : List Nat} {ws : List V} (e : H D = some (.lst ws)) (h : Dp K H v (.tuple (ns.map nD))) : Dp K (off H D) v (.tuple (ns.map nD)) := by
  obtain ⟨a, xs, rfl, q, r⟩ := dp_tup h
  obtain rfl := dpAll_eqn r
  refine .tup ?_ (dpAll_mkn ns)
  rcases q with (q | ⟨o, q⟩) | q
  · exact .inl (.inl (by rw [off_ne fun z => by rw [z, e] at q; cases q]; exact q))
  · exact .inl (.inr ⟨o, by rw [off_ne fun z => by rw [z, e] at q; cases q]; exact q⟩)
  · exact .inr q
theorem held_eq (c : Nat) (ns : List Nat) : PyData.eqv (.tuple [nD c, .tuple (ns.map nD)]) (.tuple [nD c, .tuple (ns.map nD)]) = true := SeqAt.eqv_refl _ (SeqAt.canLay_of_shaped (shaped_held c ns))
def oV : Option Nat → V
  | none => .non
  | some m => .int m
theorem dpAll_o {K : PySem.W.Frag} {H : Hp} : ∀ os : List (Option Nat), DpAll K H (os.map oV) (os.map oD)
  | [] => .nil
  | none :: r => .cons .non (dpAll_o r)
  | some m :: r => .cons (.int _) (dpAll_o r)
/-- what stands once the tables are drawn, put together, and what is due is told -/
structure JS (K : PySem.W.Frag) (p : Addr) (T : List (Addr × Str)) (H0 : Hp) (m : Nat) (D : Addr) (vs : List V) (ts : List (List Nat)) (tt : Addr) (v4 : V) (q : Addr) (o : Obj) (rs : List Nat) (H' : Hp) : Prop where
  k : Keep p H0 H'
  b : Box H' p
  t : Tabs T H'
  d : H' D = some (.lst vs)
  tv : TVs H' m vs ts
  to : H' tt = some (.tup [.int (m : Nat), v4])
  dv : Dp K (core p H') v4 (.tuple (rs.map nD))
  du : H' q = some (.frz o (.tup (rs.map fun n : Nat => V.int n)))
  n : D ≠ p
theorem JS.but {K : PySem.W.Frag} {p : Addr} {T : List (Addr × Str)} {H0 : Hp} {m : Nat} {D : Addr} {vs : List V} {ts : List (List Nat)} {tt : Addr} {v4 : V} {q : Addr} {o : Obj} {rs : List Nat} {H1 H2 : Hp} (j : JS K p T H0 m D vs ts tt v4 q o rs H1) (bt : But p H1 H2) (b : Box H2 p) : JS K p T H0 m D vs ts tt v4 q o rs H2 := by
  have nl := NL.but j.b bt
  exact ⟨j.k.trans (Keep.but bt), b, K02.Tabs.but j.t j.b bt, bt _ _ j.d j.n, j.tv.nl nl, nl _ _ j.to (fun _ z => nomatch z) (fun _ z => nomatch z), dp_same (Keep.but bt).core j.dv, nl _ _ j.du (fun _ z => nomatch z) (fun _ z => nomatch z), j.n⟩
theorem JS.same {K : PySem.W.Frag} {p : Addr} {T : List (Addr × Str)} {H0 : Hp} {m : Nat} {D : Addr} {vs : List V} {ts : List (List Nat)} {tt : Addr} {v4 : V} {q : Addr} {o : Obj} {rs : List Nat} {H1 H2 : Hp} (j : JS K p T H0 m D vs ts tt v4 q o rs H1) (s : Same H1 H2) : JS K p T H0 m D vs ts tt v4 q o rs H2 := j.but (But.of s) (j.b.same s)
theorem JS.ext {K : PySem.W.Frag} {p : Addr} {T : List (Addr × Str)} {H0 : Hp} {m : Nat} {D : Addr} {vs : List V} {ts : List (List Nat)} {tt : Addr} {v4 : V} {q : Addr} {o : Obj} {rs : List Nat} {H1 H2 : Hp} (j : JS K p T H0 m D vs ts tt v4 q o rs H1) (x : ExtN H1 H2) (t : Tabs T H2) : JS K p T H0 m D vs ts tt v4 q o rs H2 := by
  have nl := NL.ext x
  exact ⟨j.k.trans (Keep.ext x), j.b.ext x, t, x _ _ j.d (fun _ z => nomatch z), j.tv.nl nl, nl _ _ j.to (fun _ z => nomatch z) (fun _ z => nomatch z), dp_same (Keep.ext x).core j.dv, nl _ _ j.du (fun _ z => nomatch z) (fun _ z => nomatch z), j.n⟩
theorem seqT_core {K : PySem.W.Frag} {p a : Addr} {H : Hp} {xs : List V} (e : H a = some (.tup xs)) (n : a ≠ p) : SqT K (core p H) a xs := SqT.of (by
  unfold core
  rw [if_neg n, e])
theorem due_core {K : PySem.W.Frag} {p t : Addr} {H : Hp} {va : V} {c : Nat} {ns : List Nat} (b : Box H p) (e : H t = some (.tup [.int (c : Nat), va])) (h : Dp K H va (.tuple (ns.map nD))) : Dp K (core p H) (.ref t) (.tuple [nD c, .tuple (ns.map nD)]) := by
  have f := flat_core b h
  obtain ⟨x, y, z, ep⟩ := b
  exact .tup (seqT_core e fun z => by rw [z, ep] at e; cases e) (.cons (.int _) (.cons f .nil))
theorem okS5 : PyData.strOk "table" = true := by decide +kernel
theorem rep_one (k : Nat) (v : Nat) : (List.replicate ((k : Nat) : Int).toNat [V.int (v : Nat)]).flatten = (List.replicate k v).map fun n : Nat => V.int n := by
  rw [Int.toNat_natCast]
  induction k with
  | zero => rfl
  | succ k ih => rw [List.replicate_succ, List.flatten_cons, ih]; rfl
theorem bad1 {s m : Nat} {rs : List Nat} (lr : rs.length = s ^ m) : isTable (s : Int) 0 6 (.tuple [nD m, .tuple ((rs ++ [0]).map nD)]) = false := by
  unfold isTable
  show (true && (isBt 0 6 (nD m) && (isRow (pow' s m) (.tuple ((rs ++ [0]).map nD)) && _))) = false
  have : isRow (pow' s m) (.tuple ((rs ++ [0]).map nD)) = false := by
    rw [pow_nat]
    unfold isRow
    show (true && decide ((((rs ++ [0]).map nD).length : Int) = ((s ^ m : Nat) : Int))) = false
    rw [Bool.true_and, List.length_map, List.length_append, lr]
    exact decide_eq_false (by simp; omega)
  rw [this]
  simp
theorem bad2 {s m k : Nat} (k1 : 1 ≤ k) : isTable (s : Int) 0 6 (.tuple [nD m, .tuple ((List.replicate k s).map nD)]) = false := by
  unfold isTable
  show (true && (isBt 0 6 (nD m) && (_ && ((List.replicate k s).map nD).all (isB s)))) = false
  have : ((List.replicate k s).map nD).all (isB s) = false := by
    rw [List.all_eq_false]
    refine ⟨nD s, List.mem_map.mpr ⟨s, List.mem_replicate.mpr ⟨by omega, rfl⟩, rfl⟩, ?_⟩
    rw [isB_nat]
    simp
  rw [this]
  simp
theorem dpAll_take {K : PySem.W.Frag} {H : Hp} : ∀ {ws : List V} {ds : List D} (k : Nat), DpAll K H ws ds → DpAll K H (ws.take k) (ds.take k)
  | _, _, 0, _ => .nil
  | _, _, _ + 1, .nil => .nil
  | _, _, k + 1, .cons h r => .cons h (dpAll_take k r)
/-- the tables with another one at a place -/
theorem row_bad {s m n j : Nat} {ts : List (List Nat)} {db : D} (m2 : m ≤ 2) (lt : ts.length = n) (hj : j < n) (hts : ∀ t ∈ ts, t.length = s ^ m ∧ ∀ x ∈ t, x < s) {ds : List D} (hds : ds = (ts.take j).map (fun t => opT (m, t)) ++ [db] ++ (ts.drop (j + 1)).map fun t => opT (m, t))
    (hb : okTb s (.list ds) db = false) : isRow n (.list ds) = true ∧ (items (.list ds))[j]? = some db ∧ okTb s (.list ds) db = false ∧ ∀ i : Nat, i < j → ∀ y, (items (.list ds))[i]? = some y → okTb s (.list ds) y = true := by
  have lk : ((ts.take j).map fun t => opT (m, t)).length = j := by rw [List.length_map, List.length_take]; omega
  have ld : ds.length = n := by
    rw [hds, List.length_append, List.length_append, lk, List.length_map, List.length_drop]
    simp
    omega
  have at0 : ∀ i, i < j → ∃ t, ts[i]? = some t ∧ ds[i]? = some (opT (m, t)) := fun i hi => by
    have h1 : i < ts.length := by omega
    refine ⟨ts[i], List.getElem?_eq_getElem h1, ?_⟩
    rw [hds, List.append_assoc, List.getElem?_append_left (by omega), List.getElem?_map, List.getElem?_take, if_pos hi, List.getElem?_eq_getElem h1]
    rfl
  refine ⟨?_, ?_, hb, fun i hi y hy => ?_⟩
  · show (true && decide ((ds.length : Int) = (n : Int))) = true
    rw [ld]
    simp
  · show ds[j]? = some db
    rw [hds, List.append_assoc, List.getElem?_append_right (by omega), lk, Nat.sub_self]
    rfl
  · obtain ⟨t, e1, e2⟩ := at0 i hi
    obtain ⟨t0, f1, f2⟩ := at0 0 (by omega)
    have hy : ds[i]? = some y := hy
    rw [e2] at hy
    cases hy
    have hm := hts t (List.mem_of_getElem? e1)
    have tk := tabD_ok (d := opT (m, t)) ⟨_, rfl, rfl, rfl, rfl⟩ m2 hm.1 hm.2
    have e0 : x0 (x0 (.list ds)) = nD m := by
      have : x0 (.list ds) = opT (m, t0) := by unfold x0; show ds.getD 0 .none = _; rw [List.getD_eq_getElem?_getD, f2]; rfl
      rw [this]
      rfl
    unfold okTb
    rw [tk.1, tk.2, e0]
    simp
theorem row_wide {m n j : Nat} {s : Int} {ts : List (List Nat)} {zs : List D} (m2 : m ≤ 2) (lt : ts.length = n) (hj : j < n) (j0 : 0 < j) {ds : List D} {db : D} (hdb : db = .tuple [nD 4, .tuple zs]) (hds : ds = (ts.take j).map (fun t => opT (m, t)) ++ [db] ++ (ts.drop (j + 1)).map fun t => opT (m, t)) : okTb s (.list ds) db = false := by
  have h1 : 0 < ts.length := by omega
  have f2 : ds[0]? = some (opT (m, ts[0])) := by
    rw [hds, List.append_assoc, List.getElem?_append_left (by rw [List.length_map, List.length_take]; omega), List.getElem?_map, List.getElem?_take, if_pos j0, List.getElem?_eq_getElem h1]
    rfl
  have e0 : x0 (x0 (.list ds)) = nD m := by
    have : x0 (.list ds) = opT (m, ts[0]) := by unfold x0; show ds.getD 0 .none = _; rw [List.getD_eq_getElem?_getD, f2]; rfl
    rw [this]
    rfl
  unfold okTb
  rw [e0, hdb]
  have : decide (intV (x0 (.tuple [nD 4, .tuple zs])) = intV (nD m)) = false := decide_eq_false (by show ¬ ((4 : Nat) : Int) = (m : Int); omega)
  rw [this, Bool.and_false]
theorem tvs_mid {K : PySem.W.Frag} {H : Hp} {m j : Nat} {vs : List V} {ts : List (List Nat)} {v : V} {d : D} (h : TVs H m vs ts) (hd : Dp K H v d) : DpAll K H (vs.take j ++ [v] ++ vs.drop (j + 1)) ((ts.take j).map (fun t => opT (m, t)) ++ [d] ++ (ts.drop (j + 1)).map fun t => opT (m, t)) := by
  have a := h.dps (K := K)
  have tk : ∀ {ws : List V} {ds : List D} (k : Nat), DpAll K H ws ds → DpAll K H (ws.take k) (ds.take k) ∧ DpAll K H (ws.drop k) (ds.drop k) := by
    intro ws ds k hw
    induction k generalizing ws ds with
    | zero => exact ⟨.nil, hw⟩
    | succ k ih =>
      cases hw with
      | nil => exact ⟨.nil, .nil⟩
      | cons h r =>
        obtain ⟨r1, r2⟩ := ih r
        exact ⟨.cons h r1, r2⟩
  rw [List.map_take, List.map_drop]
  exact dpAll_app (dpAll_app (tk j a).1 (.cons hd .nil)) (tk (j + 1) a).2
section
variable {P : Program} {w : World} {K : PySem.W.Frag} {mg : Str → Option Value} {base : Heap} {B cB iB cO iO cV iV cS iS : Addr}
theorem kb_Join {f : Addr} {fd : FuncData} (F : Fun K "joined_table" "joined_table" sJoin f fd) : KBinds K fd ["size", "operation", "tables"] ["tables", "operation", "size"] perm3 perm3 := by
  obtain ⟨oc, od, kV, doc, pm, an, cdv, ct, osl, rfl, _, _⟩ := F.ex
  refine ⟨fun s us ws _ hl => ?_, fun r rz => ?_⟩
  · match us, ws, hl with
    | [], [h, o, z], _ => exact BindsTo.of_eq (by rfl)
  · cases r with
    | cons a b => exact .nil
    | nil => cases rz with
      | nil => exact .nil
      | cons a rz => cases rz with
        | nil => exact .nil
        | cons b rz => cases rz with
          | nil => exact .nil
          | cons c rz => cases rz with
            | nil => exact .cons c (.cons b (.cons a .nil))
            | cons d rz => exact .nil
structure Fs (K : PySem.W.Frag) (mg : Str → Option Value) (P : Program) (w : World) (base : Heap) (cB cO cV cS : Addr) (fT fP fG fA fH fJ fE : Addr) (dT dP dG dA dH dJ dE : FuncData) : Prop where
  take : At K mg "_law_take" sTake fT dT ["box", "many"]
  gTake : FnOk P w K mg base CX0 1 fT dT ["box", "many"] spTake
  pick : At K mg "_law_pick" sPick fP dP ["box", "some"]
  gPick : FnOk P w K mg base CX0 2 fP dP ["box", "some"] (spPick K)
  grid : At K mg "_law_grid" sGrid fG dG ["size", "many"]
  gGrid : FnOk P w K mg base CX0 1 fG dG ["size", "many"] (spGrid K)
  atl : At K mg "_law_at" sAtL fA dA ["size", "table", "row"]
  gAt : FnOk P w K mg base CX0 2 fA dA ["size", "table", "row"] (spAtL K)
  held : At K mg "held_table" sHT fH dH ["size", "operation", "held"]
  gHeld : FnOk P w K mg base (L2.CX P w) 7 fH dH ["size", "operation", "held"] (spHT K cO cV cS)
  join : At K mg "joined_table" sJoin fJ dJ ["size", "operation", "tables"]
  gJoin : FnOk P w K mg base (L2.CX P w) 7 fJ dJ ["size", "operation", "tables"] (spJoin K cB cO)
  err : At K mg "_law_error" sErr fE dE ["work"]
def spJR (K : PySem.W.Frag) (T : List (Addr × Str)) : Sp := fun vs H Q _ => ∃ (p : Addr) (s n : Nat) (vo : V) (as : List Nat), vs = [.ref p, .int s, vo] ∧ SN s n ∧ as.length = s ^ n ∧ (∀ a ∈ as, a < s) ∧ Dp K (core p H) vo (opT (n, as)) ∧ Box H p ∧ Tabs T H ∧
  ∀ H', Keep p H H' → Box H' p → Tabs T H' → Q (.bl true) H'
abbrev teList (K : PySem.W.Frag) : TE := tCB (fun xs H Q => ∃ a ys, xs = [V.ref a] ∧ (SqL K H a ys ∨ SqT K H a ys) ∧ ∀ p, H p = none → Q (.ref p) (upd H p (.lst ys))) (tCons (tVar 16) tNil)
abbrev teDue (K : PySem.W.Frag) : TE := tCall (spAtL K) [] E0 (tCons (tVar 1) (tCons (tVar 2) (tCons (tLc (iList K (tVar 4)) (gName 17) tYes (tOp (rIxT K) (tOp (rIxT K) (tVar 17) (tC (.int 1))) (tVar 10)) [17]) tNil)))
abbrev teL1 (K : PySem.W.Frag) (cB cO : Addr) : XK → TE := fun E => tCallS (spJoin K cB cO) (WE fun cls d _ H' => E cls d H') (tCons (tVar 1) (tCons (tVar 2) (tCons (tOp rCat (tOp rCat (tSl (rSlL K) (tVar 4) tNoPart (tPart (tVar 10))) (tLst (tCons (tVar 11) tNil))) (tSl (rSlL K) (tVar 4) (tPart (tOp (rI0 fun i j => V.int (i + j)) (tVar 10) (tC (.int 1)))) tNoPart)) tNil)))
abbrev teL3 (K : PySem.W.Frag) (cB cO : Addr) : XK → TE := fun E => tCallS (spJoin K cB cO) (WE fun cls d _ H' => E cls d H') (tCons (tVar 1) (tCons (tVar 2) (tCons (tCall (spPick K) [] E0 (tCons (tVar 0) (tCons (tLst (tCons (tC .non) (tCons (tOp rCat (tVar 4) (tSl (rSlL K) (tVar 4) tNoPart (tPart (tC (.int 1))))) (tCons (tC (.int 3)) tNil)))) tNil))) tNil)))
abbrev teTab (K : PySem.W.Frag) : TE := tTup (tCons (tVar 3) (tCons (tThen (tLc (iList K (tCall (spGrid K) [] E0 (tCons (tVar 1) (tCons (tVar 3) tNil)))) (gName 14) tYes (tCall spTake [] E0 (tCons (tVar 0) (tCons (tVar 1) tNil))) [14]) (kTupF K)) tNil))
theorem ok_JR {f c Pt : Addr} {fd : FuncData} {T : List (Addr × Str)} {fT fP fG fA fH fJ fE : Addr} {dT dP dG dA dH dJ dE : FuncData} (F : FunC K "_law_joined_right" sJR f c fd) (Z : Bi mg) (R : Ers K mg B cB iB cO iO cV iV cS iS) (G : Fs K mg P w base cB cO cV cS fT fP fG fA fH fJ fE dT dP dG dA dH dJ dE)
    (TB : TabB base mg c Pt) (hmT : (Pt, qJR) ∈ T) (hu : ∀ p ∈ T, p.1 = Pt → p.2 = qJR) : FnOk P w K mg base CX0 12 f fd ["box", "size", "operation"] (spJR K T) := by
  refine F.ok scJR (fun vs H Q E h => ?_) (fun A outer sh H vs Q E hr h => ?_)
  · obtain ⟨p, s, n, vo, as, rfl, _⟩ := h
    rfl
  · obtain ⟨p, s, n, vo, as, rfl, hsn, la, hlt, ho, hb, hT, k⟩ := h
    have hr8 := hr.units
    obtain ⟨oc, od, kV, doc, pm, an, cdv, ct, osl, rfl, lkE, hcE⟩ := G.err.F.ex
    refine ⟨_, pss_cons (ps_set (i := 3) scJR.nd rfl (Or.inr rfl) (pe_call G.gTake (hr.mono (by decide)) rfl G.take.g G.take.F.kp G.take.b .nil pass0 (by exact (pa_cons (pv 0) (pa_cons pe_int pa_nil)))))
      (pss_cons (ps_set (i := 4) scJR.nd rfl (Or.inr rfl) (pe_lc (own := [("turn", 13)]) (g := gName 13) (tt := tYes) (te := teTab K) rfl scJR.nd (pi_range1 (by rfl) Z.range (pa_cons (pe_ix ix_tup (pv 2) pe_int (fun _ _ => rfl)) pa_nil)) (blkOk_by (N := NJR) (sc := defScope sJR) (by decide +kernel))
          (fun _ _ _ _ _ => pg_name (i := 13) scJR.nd rfl (Or.inl rfl)) (fun _ _ _ _ _ => pts_nil)
          (fun _ _ _ _ _ => pe_tup (pa_cons (pv 3) (pa_cons (pe_tupleF (by rfl) Z.tuple (pe_lc (own := [("row", 14)]) (g := gName 14) (tt := tYes) (te := tCall spTake [] E0 (tCons (tVar 0) (tCons (tVar 1) tNil))) rfl scJR.nd (pi_list (pe_call G.gGrid (hr.mono (by decide)) (by rfl) G.grid.g G.grid.F.kp G.grid.b .nil pass0 (by exact (pa_cons (pv 1) (pa_cons (pv 3) pa_nil))))) (by exact blkIn (N := NJR) (blkOk_by (by decide +kernel)))
            (fun _ _ _ _ _ => pg_name (i := 14) scJR.nd rfl (Or.inl rfl)) (fun _ _ _ _ _ => pts_nil) (fun _ _ _ _ _ => pe_call G.gTake (hr.mono (by decide)) (by rfl) G.take.g G.take.F.kp G.take.b .nil pass0 (by exact (pa_cons (pv 0) (pa_cons (pv 1) pa_nil)))))) pa_nil)))))
      (pss_cons (ps_setLc (i := 5) (own := [("places", 15), ("answers", 16)]) (g := gTup K 2 (gCons (gName 15) (gCons (gName 16) gNil))) (tt := tYes) (te := tLst (tCons (tVar 15) (tCons (teList K) tNil))) rfl scJR.nd rfl rfl (sw_true rfl rfl rfl (by decide +kernel)) (pi_list (pv 4)) (blkOk_by (N := NJR) (sc := defScope sJR) (by decide +kernel)) (fun _ _ _ _ _ => pg_tup rfl (pgs_cons (pg_name (i := 15) scJR.nd rfl (Or.inl rfl)) (pgs_cons (pg_name (i := 16) scJR.nd rfl (Or.inl rfl)) pgs_nil))) (fun _ _ _ _ _ => pts_nil) (fun _ _ _ _ _ => pe_lst (pa_cons (pv 15) (pa_cons (pe_callTy call_list_of (by rfl) Z.list (by decide +kernel) (pa_cons (pv 16) pa_nil)) pa_nil))))
      (pss_cons (ps_set (i := 6) scJR.nd rfl (Or.inl rfl) (pe_callK0 G.gJoin (hr.mono (by decide)) rfl G.join.g G.join.F.kp (kb_Join G.join.F) (pass_never rfl rfl) (pk_cons (pv 5) (pk_cons (pv 2) (pk_cons (pv 1) pk_nil)))))
      (pss_cons (ps_set (i := 7) scJR.nd rfl (Or.inl rfl) (pe_tupleF (by rfl) Z.tuple (pe_lc (own := [("at", 10)]) (g := gName 10) (tt := tYes) (te := teDue K) rfl scJR.nd (pi_range1 (by rfl) Z.range (pa_cons (pe_callB call_len_seq (by rfl) Z.len PySem.boot_len (pa_cons (pe_ix ix_tup (pe_ix ix_list (pv 4) pe_int (fun _ _ => rfl)) pe_int (fun _ _ => rfl)) pa_nil)) pa_nil)) (blkOk_by (N := NJR) (sc := defScope sJR) (by decide +kernel)) (fun _ _ _ _ _ => pg_name (i := 10) scJR.nd rfl (Or.inr rfl)) (fun _ _ _ _ _ => pts_nil) (fun _ _ _ _ _ => pe_call G.gAt (hr.mono (by decide)) (by rfl) G.atl.g G.atl.F.kp G.atl.b .nil pass0 (by exact (pa_cons (pv 1) (pa_cons (pv 2) (pa_cons (pe_lc (own := [("table", 17)]) (g := gName 17) (tt := tYes) (te := tOp (rIxT K) (tOp (rIxT K) (tVar 17) (tC (.int 1))) (tVar 10)) rfl scJR.nd (pi_list (pv 4)) (by exact blkIn (N := NJR) (blkOk_by (by decide +kernel))) (fun _ _ _ _ _ => pg_name (i := 17) scJR.nd rfl (Or.inl rfl)) (fun _ _ _ _ _ => pts_nil) (fun _ _ _ _ _ => pe_ix ix_tup (pe_ix ix_tup (pv 17) pe_int (fun _ _ => rfl)) (pv 10) (fun _ _ => rfl))) pa_nil))))))))
      (pss_cons (ps_if (pt_cmpR (op_neD hr8) (pv 6) (pe_tup (by exact (pa_cons (pv 3) (pa_cons (pv 7) pa_nil)))) (nomark _)) (pss_one (ps_ret pe_bl)) pss_nil)
      (C8.pss_cut (ps_if (pt_cmpR op_gt (pv 3) pe_int (nomark _)) (pss_cons (ps_set (i := 8) scJR.nd rfl (Or.inr rfl) (pe_lc (own := [("turn", 13)]) (g := gName 13) (tt := tYes) (te := tCall (spPick K) [] E0 (tCons (tVar 0) (tCons (tLst (tCons (tC .non) (tCons (tCall spTake [] E0 (tCons (tVar 0) (tCons (tVar 1) tNil))) tNil))) tNil))) rfl scJR.nd (pi_range1 (by rfl) Z.range (pa_cons (pv 3) pa_nil)) (blkOk_by (N := NJR) (sc := defScope sJR) (by decide +kernel)) (fun _ _ _ _ _ => pg_name (i := 13) scJR.nd rfl (Or.inl rfl)) (fun _ _ _ _ _ => pts_nil) (fun _ _ _ _ _ => pe_call G.gPick (hr.mono (by decide)) (by rfl) G.pick.g G.pick.F.kp G.pick.b .nil pass0 (by exact (pa_cons (pv 0) (pa_cons (pe_lst (by exact (pa_cons pe_non (pa_cons (pe_call G.gTake (hr.mono (by decide)) (by rfl) G.take.g G.take.F.kp G.take.b .nil pass0 (by exact (pa_cons (pv 0) (pa_cons (pv 1) pa_nil)))) pa_nil)))) pa_nil)))))) (pss_cons (ps_setLc (i := 9) (own := [("table", 17)]) (g := gName 17) (tt := tYes) (te := tCall (spHT K cO cV cS) [] (fun _ _ _ => False) (tCons (tVar 1) (tCons (tVar 17) (tCons (tVar 8) tNil)))) rfl scJR.nd rfl rfl (sw_true rfl rfl rfl (by decide +kernel)) (pi_list (pv 4)) (blkOk_by (N := NJR) (sc := defScope sJR) (by decide +kernel)) (fun _ _ _ _ _ => pg_name (i := 17) scJR.nd rfl (Or.inl rfl)) (fun _ _ _ _ _ => pts_nil) (fun _ _ _ _ _ => pe_call G.gHeld (hr.mono (by decide)) (by rfl) G.held.g G.held.F.kp G.held.b .nil (pass_never rfl rfl) (by exact (pa_cons (pv 1) (pa_cons (pv 17) (pa_cons (pv 8) pa_nil)))))) (pss_one (ps_if (pt_cmpR (op_neD hr8) (pe_call G.gJoin (hr.mono (by decide)) rfl G.join.g G.join.F.kp G.join.b .nil (pass_never rfl rfl) (by exact (pa_cons (pv 1) (pa_cons (pv 2) (pa_cons (pv 9) pa_nil))))) (pe_call G.gHeld (hr.mono (by decide)) rfl G.held.g G.held.F.kp G.held.b .nil (pass_never rfl rfl) (by exact (pa_cons (pv 1) (pa_cons (pv 6) (pa_cons (pv 8) pa_nil))))) (nomark _)) (pss_one (ps_ret pe_bl)) pss_nil)))) pss_nil)
      (pss_cons (ps_set (i := 10) scJR.nd rfl (Or.inr rfl) (pe_call G.gTake (hr.mono (by decide)) rfl G.take.g G.take.F.kp G.take.b .nil pass0 (by exact (pa_cons (pv 0) (pa_cons (pe_ix ix_tup (pv 2) pe_int (fun _ _ => rfl)) pa_nil)))))
      (pss_cons (ps_set (i := 11) scJR.nd rfl (Or.inr rfl) (pe_call G.gPick (hr.mono (by decide)) rfl G.pick.g G.pick.F.kp G.pick.b .nil pass0 (by exact (pa_cons (pv 0) (pa_cons (pe_lst (by exact (pa_cons pe_non (pa_cons (pe_tup (by exact (pa_cons (pv 3) (pa_cons (pe_op op_catA (pv 7) (pe_tup (by exact (pa_cons pe_int pa_nil)))) pa_nil)))) (pa_cons (pe_tup (by exact (pa_cons (pv 3) (pa_cons (pe_op op_repA (pe_tup (by exact (pa_cons (pv 1) pa_nil))) (pe_callB call_len_seq (by rfl) Z.len PySem.boot_len (pa_cons (pv 7) pa_nil))) pa_nil)))) (pa_cons (pe_tup (by exact (pa_cons pe_int (pa_cons (pe_tup (by exact (pa_cons pe_int pa_nil))) pa_nil)))) (pa_cons pe_int pa_nil))))))) pa_nil)))))
      (pss_cons (ps_if (pt_cmpR (op_neD hr8) (LamX.pe_lamcall (k := 9) (t := teL1 K cB cO) (by rfl) G.err.g G.err.F.kp lkE hcE G.err.b scErr rfl (Or.inl rfl) (err_gives R) TB rfl hmT hu (hr.mono (by decide)) (lamS_by (sc := defScope sJR) (by decide +kernel)) rfl (fun _ _ _ _ _ => rfl) (fun A outer s H E f c' hr2 => by exact pe_callS G.gJoin (hr2.mono (by decide)) (by rfl) G.join.g G.join.F.kp G.join.b (fun σ => passAt (takes_of rfl rfl rfl rfl) σ) (by exact (pa_cons (pv 1) (pa_cons (pv 2) (pa_cons (pe_op op_cat (pe_op op_cat (pe_slice sl_list (pv 4) po_none (po_some (pv 10))) (pe_lst (by exact (pa_cons (pv 11) pa_nil)))) (pe_slice sl_list (pv 4) (po_some (pe_op op_add (pv 10) pe_int)) po_none)) pa_nil)))))) (pe_tup (by exact (pa_cons pe_str (pa_cons (pv 10) pa_nil)))) (nomark _)) (pss_one (ps_ret pe_bl)) pss_nil)
      (pss_cons (ps_set (i := 12) scJR.nd rfl (Or.inr rfl) (pe_op op_cat (pe_op op_cat (pe_slice sl_list (pv 4) po_none (po_some (pv 10))) (pe_lst (by exact (pa_cons (pe_tup (by exact (pa_cons pe_int (pa_cons (pe_op op_repA (pe_tup (by exact (pa_cons pe_int pa_nil))) (pe_callB call_len_seq (by rfl) Z.len PySem.boot_len (pa_cons (pe_call G.gGrid (hr.mono (by decide)) rfl G.grid.g G.grid.F.kp G.grid.b .nil pass0 (by exact (pa_cons (pv 1) (pa_cons pe_int pa_nil)))) pa_nil))) pa_nil)))) pa_nil)))) (pe_slice sl_list (pv 4) (po_some (pe_op op_add (pv 10) pe_int)) po_none)))
      (C8.pss_cut (ps_if (PW.pt (pw_and (pt_cmpR op_gt (pv 10) pe_int (nomark _)) (pw_and1 (pt_cmpR (op_neD hr8) (LamX.pe_lamcall (k := 9) (by rfl) G.err.g G.err.F.kp lkE hcE G.err.b scErr rfl (Or.inl rfl) (err_gives R) TB rfl hmT hu (hr.mono (by decide)) (lamS_by (sc := defScope sJR) (by decide +kernel)) rfl (fun _ _ _ _ _ => rfl) (fun A outer s H E f c' hr2 => by exact pe_callS G.gJoin (hr2.mono (by decide)) (by rfl) G.join.g G.join.F.kp G.join.b (fun σ => passAt (takes_of rfl rfl rfl rfl) σ) (by exact (pa_cons (pv 1) (pa_cons (pv 2) (pa_cons (pv 12) pa_nil)))))) (pe_tup (by exact (pa_cons pe_str (pa_cons (pv 10) pa_nil)))) (nomark _))))) (pss_one (ps_ret pe_bl)) pss_nil)
      (pss_one (ps_ret (pe_cmpR (op_eqD hr8) (LamX.pe_lamcall (k := 9) (t := teL3 K cB cO) (by rfl) G.err.g G.err.F.kp lkE hcE G.err.b scErr rfl (Or.inl rfl) (err_gives R) TB rfl hmT hu (hr.mono (by decide)) (lamS_by (sc := defScope sJR) (by decide +kernel)) rfl (fun _ _ _ _ _ => rfl) (fun A outer s H E f c' hr2 => by exact pe_callS G.gJoin (hr2.mono (by decide)) (by rfl) G.join.g G.join.F.kp G.join.b (fun σ => passAt (takes_of rfl rfl rfl rfl) σ) (by exact (pa_cons (pv 1) (pa_cons (pv 2) (pa_cons (pe_call G.gPick (hr2.mono (by decide)) (by rfl) G.pick.g G.pick.F.kp G.pick.b .nil pass0 (by exact (pa_cons (pv 0) (pa_cons (pe_lst (by exact (pa_cons pe_non (pa_cons (pe_op op_cat (pv 4) (pe_slice sl_list (pv 4) po_none (po_some pe_int))) (pa_cons pe_int pa_nil))))) pa_nil)))) pa_nil)))))) (pe_tup (by exact (pa_cons pe_str (pa_cons (pe_un un_neg pe_int) pa_nil)))) (nomark _))))))))))))))), ?_⟩
    obtain ⟨s2, s4, n3⟩ := hsn.s2
    have n1 := hsn.1
    have O := opT_is (o := (n, as)) n1 n3 la hlt
    obtain ⟨aO, xO, rfl, qO, rO⟩ := dp_tup ho
    obtain ⟨va, rfl, da⟩ : ∃ va, xO = [.int (n : Int), va] ∧ Dp K (core p H) va (.tuple (as.map nD)) := by
      cases rO with
      | cons h0 r => cases r with
        | cons h1 r => cases r with
          | nil =>
            cases h0
            exact ⟨_, rfl, h1⟩
    have QO : ∀ {H'}, Keep p H H' → SqT K H' aO [.int (n : Int), va] := fun k => seqT core_le (seqT k.core qO)
    have DO : ∀ {H'}, Keep p H H' → Dp K H' (.ref aO) (opT (n, as)) := fun k => dp_same core_le (dp_same k.core ho)
    refine ⟨_, rfl, p, 3, rfl, by decide, by decide, hb, fun H1 d bt1 b1 d0 d1 => ?_⟩
    obtain ⟨m, rfl, hm⟩ := nat_of d0 d1
    have k1 : Keep p H H1 := Keep.but bt1
    have hT1 := K02.Tabs.but hT hb bt1
    have sm := sn_table ⟨s2, s4⟩ (m := m) (by omega)
    refine ⟨_, rfl, aO, _, _, .int (n : Int), rfl, rfl, QO k1, atI_nat (j := 0) rfl, n, rfl, by omega, by omega, ?_⟩
    rw [Int.toNat_natCast]
    refine fun D hD => walk_it walk_range (fun i H' => But p H1 H' ∧ Box H' p ∧ ∃ (vs : List V) (ts : List (List Nat)), ts.length = i ∧ (∀ t ∈ ts, t.length = s ^ m ∧ ∀ x ∈ t, x < s) ∧ H' D = some (.lst vs) ∧ TVs H' m vs ts)
      ⟨(But.refl p H1).new hD, b1.ne (b1.fresh hD), [], [], rfl, (fun t h => nomatch h), upd_same, rfl, fun i v t a b => by cases a⟩ (fun _ _ _ _ => trivial) ?_ ?_
    · rintro i x _ H2 hi ⟨bt2, b2, vs, ts, lt, hts, eD, tv⟩ ⟨rfl, ex⟩
      have nD := b1.fresh hD
      refine ⟨rfl, ?_⟩
      refine ⟨_, rfl, _, rfl, _, rfl, s, m, rfl, by omega, by omega, fun H3 vg s3 fg => ?_⟩
      obtain ⟨ag, xg, rfl, nag, eg, rg⟩ := fg
      have lg : xg.length = s ^ m := by rw [dpAll_len rg, List.length_map, gridN_len]
      have b3 := b2.same s3
      have nagp := b2.fresh nag
      refine ⟨ag, rfl, ⟨_, SqL.of eg⟩, fun D2 hD2 => walk_it walk_list (fun j H' => But p H3 H' ∧ Box H' p ∧ ∃ t : List Nat, t.length = j ∧ (∀ a ∈ t, a < s) ∧ H' D2 = some (.lst (t.map fun n : Nat => V.int n)))
        ⟨(But.refl p H3).new hD2, b3.ne (b3.fresh hD2), [], rfl, (fun a h => nomatch h), upd_same⟩ (fun j H' _ h => SqL.of (h.1 ag _ eg nagp)) ?_ ?_⟩
      · rintro j x _ H4 hj ⟨bt4, b4, t, ltj, htl, eD2⟩ ⟨rfl, hx⟩
        refine ⟨rfl, _, rfl, _, rfl, p, s, rfl, by omega, by omega, b4, fun H5 d bt5 b5 d0 d1 => ?_⟩
        obtain ⟨dn, rfl, hdn⟩ := nat_of d0 d1
        have nD2 := b3.fresh hD2
        refine ⟨_, bt5 D2 _ eD2 nD2, by rw [List.length_map, ltj, sizeLine_eq]; omega, (bt4.trans bt5).new hD2, b5.ne nD2, t ++ [dn], by rw [List.length_append, ltj]; rfl, fun a ha => ?_, by rw [upd_same, List.map_append]; rfl⟩
        rcases List.mem_append.mp ha with h | h
        · exact htl a h
        · rw [List.mem_singleton] at h
          omega
      · rintro H4 ⟨bt4, b4, t, ltj, htl, eD2⟩
        refine ⟨D2, _, rfl, SqL.of eD2, fun q o hq ho' => ⟨(by show 2 ≤ sizeLine; decide), fun tt htt => ?_⟩⟩
        have s5 := (same_new (o := .frz o (.tup (t.map fun n : Nat => V.int n))) hq).trans (same_new (o := .tup [.int (m : Nat), .ref q]) htt)
        have e4 : H4 D = some (.lst vs) := bt4 D _ (s3 _ _ eD) nD
        have nl24 : NL H2 (upd (upd H4 q (.frz o (.tup (t.map fun n : Nat => V.int n)))) tt (.tup [.int (m : Nat), .ref q])) := (NL.of s3).trans ((NL.but b3 bt4).trans (NL.of s5))
        have e5 := s5 _ _ e4
        have lv := tv.1
        have bt25 : But p H1 _ := bt2.trans ((But.of s3).trans (bt4.trans (But.of s5)))
        have etv : TV (upd (upd H4 q (.frz o (.tup (t.map fun n : Nat => V.int n)))) tt (.tup [.int (m : Nat), .ref q])) m (.ref tt) t := ⟨tt, q, o, rfl, upd_same, same_new htt _ _ upd_same⟩
        refine ⟨vs, e5, by rw [lv, lt, sizeLine_eq]; omega, bt25.new hD, (b4.same s5).ne nD, vs ++ [.ref tt], ts ++ [t], by rw [List.length_append, lt]; rfl, fun u hu => ?_, upd_same, ?_⟩
        · rcases List.mem_append.mp hu with h | h
          · exact hts u h
          · rw [List.mem_singleton] at h
            rw [h]
            exact ⟨by rw [ltj, lg], htl⟩
        · exact ((tv.nl nl24).snoc etv).nl (NL.put e5)
    rintro H2 ⟨bt2, b2, vs, ts, lt, hts, eD, tv⟩
    have nDp := b1.fresh hD
    have k2 : Keep p H H2 := k1.trans (Keep.but bt2)
    have hT2 := K02.Tabs.but hT1 b1 bt2
    have lv : vs.length = ts.length := tv.1
    have hcol : ∀ t ∈ ts, t.length = s ^ m := fun t ht => (hts t ht).1
    -- the tables in lists
    refine ⟨_, rfl, D, rfl, ⟨_, SqL.of eD⟩, fun Gv hGv => walk_it walk_list (fun i H' => Same H2 H' ∧ Grow K H' Gv ((ts.take i).map fun t => .list [nD m, .list (t.map nD)])) ⟨same_new hGv, Grow.nil⟩ (fun i H' _ h => SqL.of (h.1 _ _ eD)) ?_ ?_⟩
    · rintro i x _ H3 hi ⟨s3, g3⟩ ⟨rfl, hx⟩
      obtain ⟨t, et, tvx⟩ := tv.get hx
      obtain ⟨a, q, o, rfl, h1, h2⟩ := tvx.nl (NL.of s3)
      refine ⟨a, _, rfl, SqT.of h1, rfl, _, _, rfl, _, _, rfl, rfl, rfl, ?_⟩
      refine ⟨_, rfl, _, rfl, q, _, rfl, .inr (.inl (.inr ⟨o, h2⟩)), fun l1 hl1 => ⟨(by show 2 ≤ sizeLine; decide), fun l2 hl2 => ?_⟩⟩
      obtain ⟨acc, eG, _⟩ := id g3
      have s4' := (same_new (o := .lst (t.map fun n : Nat => V.int n)) hl1).trans (same_new (o := .lst [.int (m : Nat), .ref l1]) hl2)
      have lacc := g3.len eG
      rw [List.length_map, List.length_take] at lacc
      have n1' : l1 ≠ Gv := Ne.symm (ne_of_none eG hl1)
      have eG1 := same_new (o := .lst (t.map fun n : Nat => V.int n)) hl1 _ _ eG
      have n2' : l2 ≠ Gv := Ne.symm (ne_of_none eG1 hl2)
      refine ⟨acc, s4' _ _ eG, by rw [lacc, sizeLine_eq]; omega, same_of (s3.trans s4') hGv, ?_⟩
      rw [take_more et, List.map_append]
      refine (g3.keep s4').put (s4' _ _ eG) (.lst (SqL.of (by rw [off_ne n2', upd_same])) (.cons (.int _) (.cons (.lst (SqL.of (by rw [off_ne n1']; exact same_new hl2 _ _ upd_same)) (dpAll_mkn t)) .nil)))
    rintro H3 ⟨s3, g3⟩
    rw [lv, List.take_length] at g3
    have k3 := k2.trans (Keep.of s3)
    refine ⟨_, rfl, _, rfl, _, rfl, .ref aO, .ref Gv, opT (n, as), _, s, rfl, DO k3, g3.dp, s2, s4, n, as, O, (fun ds z => nomatch z), .inr (.inr ⟨m, ts, rfl, by show (List.map _ ts).length = n; rw [List.length_map, lt], lt, by omega, fun i d t hd ht => ?_, hts, fun H4 tt v4 s4' e4 d4 => ?_⟩)⟩
    · have hd : (ts.map fun t => PyData.list [nD m, .list (t.map nD)])[i]? = some d := hd
      rw [List.getElem?_map, ht] at hd
      cases hd
      exact ⟨_, rfl, rfl, rfl, rfl⟩
    have k4 := k3.trans (Keep.of s4')
    have eD4 := s4' _ _ (s3 _ _ eD)
    have tv4 := tv.nl (NL.of (s3.trans s4'))
    have rows0 : ∃ v0 t0, vs[0]? = some v0 ∧ ts[0]? = some t0 := by
      have h1 : 0 < vs.length := by omega
      have h2 : 0 < ts.length := by omega
      exact ⟨_, _, List.getElem?_eq_getElem h1, List.getElem?_eq_getElem h2⟩
    obtain ⟨v0, t0, ev0, et0⟩ := rows0
    obtain ⟨a0, q0, o0, rfl, e10, e20⟩ := tv4.2 0 v0 t0 ev0 et0
    have lt0 := hcol t0 (List.mem_of_getElem? et0)
    refine ⟨_, rfl, D, _, _, .ref a0, rfl, rfl, SqL.of eD4, atI_nat (j := 0) ev0, a0, _, _, .ref q0, rfl, rfl, SqT.of e10, atI_nat (j := 1) rfl, q0, _, rfl, .inr (.inl (.inr ⟨o0, e20⟩)), ((s ^ m : Nat) : Int), by rw [List.length_map, lt0], by omega, by omega, ?_⟩
    rw [Int.toNat_natCast]
    have col := fun (i : Nat) (hi : i < s ^ m) => col_ok (s := s) (n := n) (ts := ts) hi lt hts
    refine fun D3 hD3 => walk_it walk_range (fun i H' => Same H4 H' ∧ H' D3 = some (.lst (((List.range i).map fun j => as.getD (spotN s (ts.map fun t => t.getD j 0)) 0).map fun n : Nat => V.int n))) ⟨same_new hD3, upd_same⟩ (fun _ _ _ _ => trivial) ?_ ?_
    · rintro i x _ H5 hi ⟨s5, eD3⟩ ⟨rfl, ex⟩
      obtain rfl := int_nat0 ex
      have tv5 := tv4.nl (NL.of s5)
      refine ⟨rfl, _, rfl, _, rfl, _, rfl, D, rfl, ⟨_, SqL.of (s5 _ _ eD4)⟩, fun D4 hD4 => walk_it walk_list (fun j H' => Same H5 H' ∧ H' D4 = some (.lst (((ts.take j).map fun t => t.getD i 0).map fun n : Nat => V.int n))) ⟨same_new hD4, upd_same⟩ (fun j H' _ h => SqL.of (h.1 _ _ (s5 _ _ eD4))) ?_ ?_⟩
      · rintro j x _ H6 hj ⟨s6, eD4'⟩ ⟨rfl, hx⟩
        obtain ⟨t, et, tvx⟩ := tv5.get hx
        obtain ⟨a, q, o, rfl, h1, h2⟩ := tvx.nl (NL.of s6)
        have ltt := hcol t (List.mem_of_getElem? et)
        have hit : i < t.length := by omega
        refine ⟨rfl, _, rfl, a, _, _, .ref q, rfl, rfl, SqT.of h1, atI_nat (j := 1) rfl, _, rfl, q, _, _, .int (t[i] : Nat), rfl, rfl, .inl (.inr ⟨o, h2⟩), atI_nat (by rw [List.getElem?_map, List.getElem?_eq_getElem hit]; rfl), ?_⟩
        refine ⟨_, eD4', by rw [List.length_map, List.length_map, List.length_take, sizeLine_eq]; omega, same_of s6 hD4, ?_⟩
        rw [upd_same, take_more et, List.map_append, List.map_append]
        congr 3
        show [V.int (t[i] : Nat)] = [V.int (t.getD i 0 : Nat)]
        rw [getD_of hit]
      · rintro H6 ⟨s6, eD4'⟩
        rw [lv, List.take_length] at eD4'
        obtain ⟨c1, c2⟩ := col i hi
        refine ⟨s, n, .ref aO, .ref D4, as, _, rfl, DO (k4.trans (Keep.of (s5.trans s6))), .lst (SqL.of eD4') (dpAll_mkn _), by omega, s4, n3, la, c1, c2, fun H7 s7 => ?_⟩
        refine ⟨_, s7 _ _ (s6 _ _ eD3), by rw [List.length_map, List.length_map, List.length_range, sizeLine_eq]; omega, same_of (s5.trans (s6.trans s7)) hD3, ?_⟩
        rw [upd_same, List.range_succ, List.map_append, List.map_append]
        rfl
    rintro H5 ⟨s5, eD3⟩
    rw [← ansN_at (by omega) hcol] at eD3
    have rlen : (ansN s as ts).length = s ^ m := ansN_len (by omega) hcol
    have rlt : ∀ x ∈ ansN s as ts, x < s := ansN_lt (by omega) n1 lt la hlt hts
    have rsE : ∀ (ts' : List (List Nat)) (os : List (Option Nat)), os.length = m → (∀ v, some v ∈ os → v < s) → ts' = ts.map (fun t => heldAns s t os) → ansN s as ts' = heldAns s (ansN s as ts) os := fun ts' os h1 h2 h3 => by
      rw [h3]
      exact ans_held (by omega) lt n1 h1 h2 hcol
    generalize ansN s as ts = rs at d4 eD3 rlen rlt rsE
    refine ⟨D3, _, rfl, SqL.of eD3, fun q o hq ho' => ?_⟩
    have s6 := same_new (o := .frz o (.tup (rs.map fun n : Nat => V.int n))) hq
    refine ⟨_, rfl, _, rfl, _, rfl, (by show 2 ≤ sizeLine; decide), fun t6 ht6 => ?_⟩
    have s7 := same_new (o := .tup [.int (m : Nat), .ref q]) ht6
    have s47 := s5.trans (s6.trans s7)
    have eq7 := s7 _ _ (upd_same (H := H5) (a := q) (o := .frz o (.tup (rs.map fun n : Nat => V.int n))))
    refine ⟨.tuple [nD m, .tuple (rs.map nD)], .tuple [nD m, .tuple (rs.map nD)], .tup (SqT.of (s47 _ _ e4)) (.cons (.int _) (.cons (dp_same s47 d4) .nil)), .tup (SqT.of upd_same) (.cons (.int _) (.cons (.tup (.inl (.inr ⟨o, eq7⟩)) (dpAll_mkn rs)) .nil)), shaped_held _ _, shaped_held _ _, _, rfl, ?_⟩
    rw [held_eq]
    refine go_f rfl ?_
    have b4 := b2.same (s3.trans s4')
    have J7 : JS K p T H m D vs ts tt v4 q o rs (upd (upd H5 q (.frz o (.tup (rs.map fun n : Nat => V.int n)))) t6 (.tup [.int (m : Nat), .ref q])) :=
      ⟨k4.trans (Keep.of s47), b4.same s47, (hT2.ext (s3.trans s4')).ext s47, s47 _ _ eD4, tv4.nl (NL.of s47), s47 _ _ e4, flat_core (b4.same s47) (dp_same s47 d4), eq7, nDp⟩
    generalize upd (upd H5 q (.frz o (.tup (rs.map fun n : Nat => V.int n)))) t6 (.tup [.int (m : Nat), .ref q]) = H7 at J7
    clear s47 s7 s6 s5 eD3 e10 e20 tv4 eD4 k4 s4' d4 e4 g3 s3 k3 hT2 k2 tv eD b2 bt2 eq7 b4 ht6 hq
    refine ⟨fun σ H' => ∃ u8 u9 : Option V, σ = [some (.ref p), some (.int (s : Nat)), some (.ref aO), some (.int (m : Nat)), some (.ref D), some (.ref Gv), some (.ref tt), some (.ref q), u8, u9, none, none, none, none, none, none, none, none] ∧ JS K p T H m D vs ts tt v4 q o rs H', ?_, ?_⟩
    · refine ⟨_, rfl, _, _, rfl, rfl, _, rfl, ?_⟩
      by_cases hm0 : (0 : Int) < (m : Int)
      case neg =>
        refine go_f (decide_eq_false hm0) ?_
        exact ⟨_, _, rfl, J7⟩
      refine go_t (decide_eq_true hm0) ?_
      have m1 : 1 ≤ m := by omega
      refine ⟨_, rfl, m, rfl, by omega, by omega, ?_⟩
      rw [Int.toNat_natCast]
      refine fun D5 hD5 => walk_it walk_range (fun i H' => But p H7 H' ∧ Box H' p ∧ ∃ os : List (Option Nat), os.length = i ∧ (∀ v, some v ∈ os → v < s) ∧ H' D5 = some (.lst (os.map oV))) ⟨(But.refl p H7).new hD5, J7.b.ne (J7.b.fresh hD5), [], rfl, (fun v h => nomatch h), upd_same⟩ (fun _ _ _ _ => trivial) ?_ ?_
      · rintro i x _ H8 hi ⟨bt8, b8, os, lo, hos, eD5⟩ ⟨rfl, ex⟩
        have nD5 := J7.b.fresh hD5
        refine ⟨rfl, _, rfl, _, rfl, _, rfl, p, s, rfl, by omega, by omega, b8, fun H9 d bt9 b9 d0 d1 => ⟨(by show 2 ≤ sizeLine; decide), fun l hl => ?_⟩⟩
        obtain ⟨dn, rfl, hdn⟩ := nat_of d0 d1
        refine ⟨p, l, _, rfl, b9.fresh hl, b9.same (same_new hl), upd_same, by show 0 < 2; decide, by show 2 < 1000; decide, fun H10 v bt10 b10 hv => ?_⟩
        obtain ⟨o', rfl, ho'⟩ : ∃ o : Option Nat, v = oV o ∧ ∀ m, o = some m → m < s := by
          simp only [List.mem_cons, List.not_mem_nil, or_false] at hv
          rcases hv with rfl | rfl
          · exact ⟨none, rfl, fun m z => nomatch z⟩
          · exact ⟨some dn, rfl, fun m z => by cases z; omega⟩
        have bt80 : But p H8 H10 := bt9.trans ((But.of (same_new hl)).trans bt10)
        refine ⟨_, bt80 D5 _ eD5 nD5, by rw [List.length_map, lo, sizeLine_eq]; omega, (bt8.trans bt80).new hD5, b10.ne nD5, os ++ [o'], by rw [List.length_append, lo]; rfl, fun v hv => ?_, by rw [upd_same, List.map_append]; rfl⟩
        rcases List.mem_append.mp hv with h | h
        · exact hos v h
        · rw [List.mem_singleton] at h
          exact ho' v h.symm
      rintro H8 ⟨bt8, b8, os, lo, hos, eD5⟩
      have J8 := J7.but bt8 b8
      have hI : HeldIs s m os (.list (os.map oD)) := ⟨rfl, rfl, lo, hos⟩
      have OT : ∀ t ∈ ts, OpIs s m t (opT (m, t)) := fun t ht => opT_is (o := (m, t)) m1 (by show m ≤ 3; omega) (hts t ht).1 (hts t ht).2
      have cm : cntN os ≤ 2 := by
        unfold cntN
        have := List.countP_le_length (p := fun o : Option Nat => o.isNone) (l := os)
        omega
      refine ⟨_, rfl, D, rfl, ⟨_, SqL.of J8.d⟩, fun D6 hD6 => walk_it walk_list (fun i H' => Same H8 H' ∧ Grow K H' D6 ((ts.take i).map fun t => .tuple [nD (cntN os), .tuple ((heldAns s t os).map nD)])) ⟨same_new hD6, Grow.nil⟩ (fun i H' _ h => SqL.of (h.1 _ _ J8.d)) ?_ ?_⟩
      · rintro i x _ H9 hi ⟨s9, g9⟩ ⟨rfl, hx⟩
        obtain ⟨t, et, tvx⟩ := J8.tv.get hx
        refine ⟨rfl, _, rfl, _, rfl, _, rfl, .int (s : Nat), x, .ref D5, nD s, opT (m, t), .list (os.map oD), rfl, .int _, (tvx.nl (NL.of s9)).dp, .lst (SqL.of (s9 _ _ eD5)) (dpAll_o os), .inr ⟨s, rfl, s2, by omega, .inr ⟨m, t, OT t (List.mem_of_getElem? et), .inr (.inr ⟨os, hI, (fun ds z => nomatch z), fun H10 tq vq s10 e10 d10 _ => ?_⟩)⟩⟩⟩
        have g10 := g9.keep s10
        obtain ⟨acc, eD6, _⟩ := id g10
        have lacc := g10.len eD6
        rw [List.length_map, List.length_take] at lacc
        refine ⟨acc, eD6, by rw [lacc, sizeLine_eq]; omega, same_of (s9.trans s10) hD6, ?_⟩
        rw [take_more et, List.map_append]
        exact g10.put eD6 (.tup (SqT.of (by rw [off_ne fun z => by rw [z, eD6] at e10; cases e10]; exact e10)) (.cons (.int _) (.cons (flat_off eD6 d10) .nil)))
      rintro H9 ⟨s9, g9⟩
      rw [lv, List.take_length] at g9
      have J9 := J8.same s9
      have eH : ∀ ts' : List (List Nat), ts' = ts.map (fun t => heldAns s t os) → ansN s as ts' = heldAns s rs os := fun ts' h => rsE ts' os lo hos h
      refine ⟨_, rfl, _, rfl, _, rfl, .ref aO, .ref D6, opT (n, as), _, s, rfl, DO J9.k, g9.dp, s2, s4, n, as, O, (fun ds z => nomatch z), .inr (.inr ⟨cntN os, ts.map fun t => heldAns s t os, rfl, by show (List.map _ ts).length = n; rw [List.length_map, lt], by rw [List.length_map, lt], cm, fun i d t hd ht => ?_, fun t ht => ?_, fun H10 tj vj s10 e10 d10 => ?_⟩)⟩
      · have hd : (ts.map fun t => PyData.tuple [nD (cntN os), .tuple ((heldAns s t os).map nD)])[i]? = some d := hd
        rw [List.getElem?_map] at hd ht
        cases e : ts[i]? with
        | none =>
          rw [e] at hd
          cases hd
        | some u =>
          rw [e] at hd ht
          cases hd
          cases ht
          exact ⟨_, rfl, rfl, rfl, rfl⟩
      · obtain ⟨u, hu', rfl⟩ := List.mem_map.mp ht
        exact ⟨heldAns_len _ _, heldAns_lt (by omega) lo hos (hts u hu').1 (hts u hu').2⟩
      rw [eH _ rfl] at d10
      have J10 := J9.same s10
      refine ⟨_, rfl, _, rfl, _, rfl, .int (s : Nat), .ref tt, .ref D5, nD s, opT (m, rs), .list (os.map oD), rfl, .int _, .tup (SqT.of J10.to) (.cons (.int _) (.cons (dp_same core_le J10.dv) .nil)), .lst (SqL.of ((s9.trans s10) _ _ eD5)) (dpAll_o os),
        .inr ⟨s, rfl, s2, by omega, .inr ⟨m, rs, opT_is (o := (m, rs)) m1 (by show m ≤ 3; omega) rlen rlt, .inr (.inr ⟨os, hI, (fun ds z => nomatch z), fun H11 tq vq s11 e11 d11 _ => ?_⟩)⟩⟩⟩
      have dj : Dp K H11 (.ref tj) (.tuple [nD (cntN os), .tuple ((heldAns s rs os).map nD)]) := .tup (SqT.of (s11 _ _ e10)) (.cons (.int _) (.cons (dp_same s11 d10) .nil))
      refine ⟨_, _, dj, .tup (SqT.of e11) (.cons (.int _) (.cons d11 .nil)), shaped_held _ _, shaped_held _ _, _, rfl, ?_⟩
      have he : (!PyData.eqv (.tuple [nD (cntN os), .tuple ((heldAns s rs os).map nD)]) (.tuple [nD (cntN os), .tuple ((heldAns s rs os).map nD)])) = false := by rw [held_eq]; rfl
      refine go_f he ?_
      exact ⟨_, _, rfl, J10.same s11⟩
    · rintro σ H8 ⟨u8, u9, rfl, J8⟩
      refine ⟨_, rfl, _, rfl, aO, _, _, .int (n : Int), rfl, rfl, QO J8.k, atI_nat (j := 0) rfl, p, n, rfl, by omega, by omega, J8.b, fun H9 d bt9 b9 d0 d1 => ?_⟩
      obtain ⟨j, rfl, hj⟩ := nat_of d0 d1
      have hjn : j < n := by omega
      have J9 := J8.but bt9 b9
      have s1m : 1 ≤ s ^ m := Nat.pow_pos (by omega)
      refine ⟨_, rfl, _, rfl, _, rfl, (by show 1 ≤ sizeLine; decide), fun u1 hu1 => ?_⟩
      have f1 := same_new (o := .tup [.int 0]) hu1
      refine cat_any (.inl (.inr ⟨o, f1 _ _ J9.du⟩)) (SqT.of upd_same) (by rw [List.length_map, rlen, sizeLine_eq]; show s ^ m + 1 ≤ _; omega) fun HA c1 f2 qc1 => ⟨(by show 2 ≤ sizeLine; decide), fun w1 hw1 => ?_⟩
      have f3 := same_new (o := .tup [.int (m : Nat), .ref c1]) hw1
      refine ⟨_, rfl, _, rfl, (by show 1 ≤ sizeLine; decide), fun u2 hu2 => ?_⟩
      have f4 := same_new (o := .tup [.int (s : Nat)]) hu2
      refine ⟨_, rfl, q, _, rfl, .inr (.inl (.inr ⟨o, (((f1.trans f2).trans f3).trans f4) _ _ J9.du⟩)), u2, ((s ^ m : Nat) : Int), _, rfl, by rw [List.length_map, rlen], SqT.of upd_same, List.cons_ne_nil _ _, by omega, by omega, (by show 1 ≤ 1000; decide), fun HB c2 f5 qc2 => ⟨(by show 2 ≤ sizeLine; decide), fun w2 hw2 => ?_⟩⟩
      have f6 := same_new (o := .tup [.int (m : Nat), .ref c2]) hw2
      refine ⟨(by show 1 ≤ sizeLine; decide), fun u3 hu3 => ⟨(by show 2 ≤ sizeLine; decide), fun w3 hw3 => ⟨(by show 5 ≤ sizeLine; decide), fun lb hlb => ?_⟩⟩⟩
      have f7 := same_new (o := .tup [.int 0]) hu3
      have f8 := same_new (o := .tup [.int 7, .ref u3]) hw3
      have f9 := same_new (o := .lst [V.non, V.ref w1, V.ref w2, V.ref w3, V.int 4]) hlb
      have g3 := f4.trans (f5.trans (f6.trans (f7.trans (f8.trans f9))))
      have g6 := f7.trans (f8.trans f9)
      have g1 := f1.trans (f2.trans (f3.trans g3))
      rw [rep_one] at qc2
      have e_w1 := g3 _ _ (upd_same (H := HA) (a := w1) (o := .tup [.int (m : Nat), .ref c1]))
      have d_c1 : Dp K HA (.ref c1) (.tuple ((rs ++ [0]).map nD)) := .tup (by
        have : (rs.map (fun n : Nat => V.int n)) ++ [V.int 0] = (rs ++ [0]).map fun n : Nat => V.int n := by rw [List.map_append]; rfl
        rw [← this]
        exact qc1) (dpAll_mkn _)
      have d_c1 := dp_same (f3.trans g3) d_c1
      have e_w2 := g6 _ _ (upd_same (H := HB) (a := w2) (o := .tup [.int (m : Nat), .ref c2]))
      have d_c2 : Dp K HB (.ref c2) (.tuple ((List.replicate (s ^ m) s).map nD)) := .tup qc2 (dpAll_mkn _)
      have d_c2 := dp_same (f6.trans g6) d_c2
      have e_w3 := f9 _ _ (upd_same (a := w3) (o := .tup [.int 7, .ref u3]) (H := upd (upd HB w2 (.tup [.int (m : Nat), .ref c2])) u3 (.tup [.int 0])))
      have e_u3 := (f8.trans f9) _ _ (upd_same (a := u3) (o := .tup [.int 0]) (H := upd HB w2 (.tup [.int (m : Nat), .ref c2])))
      have JF := J9.same g1
      have nlb := (J9.same (f1.trans (f2.trans (f3.trans (f4.trans (f5.trans (f6.trans (f7.trans f8)))))))).b.fresh hlb
      generalize hHf : upd _ lb (.lst [V.non, V.ref w1, V.ref w2, V.ref w3, V.int 4]) = Hf at e_w1 d_c1 e_w2 d_c2 e_w3 e_u3 JF g1
      have e_lb : Hf lb = some (.lst [V.non, V.ref w1, V.ref w2, V.ref w3, V.int 4]) := by rw [← hHf]; exact upd_same
      refine ⟨p, lb, _, rfl, nlb, JF.b, e_lb, by show 0 < 5; decide, by show 5 < 1000; decide, fun H10 v bt10 b10 hv => ?_⟩
      have J10 := JF.but bt10 b10
      obtain ⟨db, dbv, hbf⟩ : ∃ db, Dp K (core p H10) v db ∧ isTable s 0 6 db = false := by
        have kc := (Keep.but bt10).core
        simp only [List.mem_cons, List.not_mem_nil, or_false] at hv
        rcases hv with rfl | rfl | rfl | rfl | rfl
        · exact ⟨.none, .non, rfl⟩
        · exact ⟨_, dp_same kc (due_core JF.b e_w1 d_c1), bad1 rlen⟩
        · exact ⟨_, dp_same kc (due_core JF.b e_w2 d_c2), bad2 s1m⟩
        · exact ⟨_, dp_same kc (due_core (c := 7) (ns := [0]) JF.b e_w3 (.tup (SqT.of e_u3) (.cons (.int _) .nil))), rfl⟩
        · exact ⟨.int 4, .int _, rfl⟩
      clear e_w1 d_c1 e_w2 d_c2 e_w3 e_u3 JF nlb hHf e_lb hv bt10 b10 g1 g6 g3 f9 f8 f7 f6 f5 f4 f3 f2 f1 hu1 hw1 hu2 hw2 hu3 hw3 hlb qc1 qc2 J9 b9 bt9
      refine ⟨J10.t, fun H11 x11 hT11 => ?_⟩
      have J11 := J10.ext x11 hT11
      have db11 := dp_same (Keep.ext x11 (p := p)).core dbv
      refine ⟨_, rfl, _, rfl, _, rfl, _, rfl, (j : Int), rfl, D, _, rfl, SqL.of J11.d, fun l1 hl1 => ?_⟩
      rw [cut_lo _ (by omega : j ≤ vs.length)]
      have g1 := same_new (o := .lst (vs.take j)) hl1
      refine ⟨_, rfl, (by show 1 ≤ sizeLine; decide), fun l2 hl2 => ?_⟩
      have g2 := same_new (o := .lst [v]) hl2
      refine ⟨l1, l2, vs.take j, [v], rfl, rfl, g2 _ _ upd_same, upd_same, by rw [List.length_take, sizeLine_eq]; show min j vs.length + 1 ≤ _; omega, fun l3 hl3 => ?_⟩
      have g3 := same_new (o := .lst (vs.take j ++ [v])) hl3
      refine ⟨_, rfl, _, rfl, _, _, rfl, rfl, ((j + 1 : Nat) : Int), (by show V.int ((j : Int) + 1) = _; rfl), D, _, rfl, SqL.of ((g1.trans (g2.trans g3)) _ _ J11.d), fun l4 hl4 => ?_⟩
      rw [cut_hi]
      have g4 := same_new (o := .lst (vs.drop (j + 1))) hl4
      refine ⟨l3, l4, vs.take j ++ [v], vs.drop (j + 1), rfl, rfl, g4 _ _ upd_same, upd_same, by rw [List.length_append, List.length_take, List.length_drop, sizeLine_eq]; show min j vs.length + 1 + (vs.length - (j + 1)) ≤ _; omega, fun l5 hl5 => ?_⟩
      have g5 := same_new (o := .lst (vs.take j ++ [v] ++ vs.drop (j + 1))) hl5
      have g15 := g1.trans (g2.trans (g3.trans (g4.trans g5)))
      have J12 := J11.same g15
      have e_l5 := upd_same (H := upd (upd (upd (upd H11 l1 (.lst (vs.take j))) l2 (.lst [v])) l3 (.lst (vs.take j ++ [v]))) l4 (.lst (vs.drop (j + 1)))) (a := l5) (o := .lst (vs.take j ++ [v] ++ vs.drop (j + 1)))
      have db12 := dp_same (core_le.trans g15) db11
      generalize upd (upd (upd (upd (upd H11 l1 (.lst (vs.take j))) l2 (.lst [v])) l3 (.lst (vs.take j ++ [v]))) l4 (.lst (vs.drop (j + 1)))) l5 (.lst (vs.take j ++ [v] ++ vs.drop (j + 1))) = H12 at J12 e_l5 db12
      clear g15 g5 g4 g3 g2 g1 hl1 hl2 hl3 hl4 hl5
      have rb := row_bad (s := s) (db := db) (by omega : m ≤ 2) lt hjn hts rfl (by unfold okTb; rw [hbf, Bool.false_and])
      refine ⟨.ref aO, .ref l5, opT (n, as), _, s, rfl, DO J12.k, .lst (SqL.of e_l5) (tvs_mid J12.tv db12), s2, s4, n, as, O, (fun ds z => nomatch z), .inr (.inl ⟨rb.1, j, db, rb.2.1, rb.2.2.1, rb.2.2.2, ?_⟩)⟩
      intro H13 dd HS hdd
      refine .inl ⟨rfl, dd, _, rfl, upd_same, fun t ht => ?_⟩
      refine ⟨_, rfl, (by show 2 ≤ sizeLine; decide), fun t2 ht2 => ⟨_, _, .tup (SqT.of (same_new ht2 _ _ upd_same)) (.cons (.str _) (.cons (.int _) .nil)), .tup (SqT.of upd_same) (.cons (.str _) (.cons (.int _) .nil)), shaped_si _ okS5, shaped_si _ okS5, _, rfl, ?_⟩⟩
      rw [told_eq _ okS5]
      refine go_f rfl ?_
      have tB := HS.trans ((same_new (o := .xd [("at", .int (j : Nat))]) hdd).trans ((same_new (o := .tup [.str "table", .int (j : Nat)]) ht).trans (same_new (o := .tup [.str "table", .int (j : Nat)]) ht2)))
      have J13 := J12.same tB
      clear hdd ht ht2 HS
      generalize upd _ t2 _ = H14 at tB J13
      clear tB J12 e_l5 db12 J11 db11 x11 hT11 J10 dbv hbf rb
      refine ⟨_, rfl, _, rfl, (j : Int), rfl, D, _, rfl, SqL.of J13.d, fun l1 hl1 => ?_⟩
      rw [cut_lo _ (by omega : j ≤ vs.length)]
      have g1 := same_new (o := .lst (vs.take j)) hl1
      refine ⟨(by show 1 ≤ sizeLine; decide), fun u hu' => ?_⟩
      have g2 := same_new (o := .tup [.int 0]) hu'
      refine ⟨_, rfl, s, 4, rfl, by omega, by omega, fun HC vg g3 fg => ?_⟩
      obtain ⟨ag, xg, rfl, nag, eg, rg⟩ := fg
      have lg : xg.length = s ^ 4 := by rw [dpAll_len rg, List.length_map, gridN_len]
      have s44 : s ^ 4 ≤ 4 ^ 4 := Nat.pow_le_pow_left s4 4
      have s14 : 1 ≤ s ^ 4 := Nat.pow_pos (by omega)
      refine ⟨ag, xg, rfl, .inl (SqL.of eg), u, ((s ^ 4 : Nat) : Int), _, rfl, by rw [lg], SqT.of (g3 _ _ upd_same), List.cons_ne_nil _ _, by omega, by omega, (by show 1 ≤ 1000; decide), fun HD c4 g4 qc4 => ⟨(by show 2 ≤ sizeLine; decide), fun w4 hw4 => ⟨(by show 1 ≤ sizeLine; decide), fun l2 hl2 => ?_⟩⟩⟩
      rw [show V.int (0 : Int) = V.int ((0 : Nat) : Int) from rfl, rep_one] at qc4
      have g5 := same_new (o := .tup [.int 4, .ref c4]) hw4
      have g6 := same_new (o := .lst [V.ref w4]) hl2
      have e_w4 := g6 _ _ (upd_same (H := HD) (a := w4) (o := .tup [.int 4, .ref c4]))
      have d_c4 : Dp K HD (.ref c4) (.tuple ((List.replicate (s ^ 4) 0).map nD)) := .tup qc4 (dpAll_mkn _)
      have d_c4 := dp_same (g5.trans g6) d_c4
      have e_l1 := (g2.trans (g3.trans (g4.trans (g5.trans g6)))) _ _ (upd_same (H := H14) (a := l1) (o := .lst (vs.take j)))
      have J15 := J13.same (g1.trans (g2.trans (g3.trans (g4.trans (g5.trans g6)))))
      have e_l2 := upd_same (H := upd HD w4 (.tup [.int 4, .ref c4])) (a := l2) (o := .lst [V.ref w4])
      generalize upd (upd HD w4 (.tup [.int 4, .ref c4])) l2 (.lst [V.ref w4]) = H15 at e_w4 d_c4 e_l1 J15 e_l2
      clear g6 g5 g4 g3 g2 g1 hl1 hu' hw4 hl2 J13 qc4
      refine ⟨l1, l2, vs.take j, [.ref w4], rfl, rfl, e_l1, e_l2, by rw [List.length_take, sizeLine_eq]; show min j vs.length + 1 ≤ _; omega, fun l3 hl3 => ?_⟩
      have g3 := same_new (o := .lst (vs.take j ++ [.ref w4])) hl3
      refine ⟨_, rfl, _, rfl, _, _, rfl, rfl, ((j + 1 : Nat) : Int), (by show V.int ((j : Int) + 1) = _; rfl), D, _, rfl, SqL.of (g3 _ _ J15.d), fun l4 hl4 => ?_⟩
      rw [cut_hi]
      have g4 := same_new (o := .lst (vs.drop (j + 1))) hl4
      refine ⟨l3, l4, vs.take j ++ [.ref w4], vs.drop (j + 1), rfl, rfl, g4 _ _ upd_same, upd_same, by rw [List.length_append, List.length_take, List.length_drop, sizeLine_eq]; show min j vs.length + 1 + (vs.length - (j + 1)) ≤ _; omega, fun l5 hl5 => ?_⟩
      have g5 := same_new (o := .lst (vs.take j ++ [.ref w4] ++ vs.drop (j + 1))) hl5
      have J16 := J15.same (g3.trans (g4.trans g5))
      have nl5 := (J15.same (g3.trans g4)).b.fresh hl5
      have dw16 := flat_core (J15.same (g3.trans (g4.trans g5))).b (dp_same (g3.trans (g4.trans g5)) d_c4)
      have e_w16 := (g3.trans (g4.trans g5)) _ _ e_w4
      have dW := due_core (c := 4) J16.b e_w16 (dp_same (g3.trans (g4.trans g5)) d_c4)
      have e_l5 := upd_same (H := upd (upd H15 l3 (.lst (vs.take j ++ [.ref w4]))) l4 (.lst (vs.drop (j + 1)))) (a := l5) (o := .lst (vs.take j ++ [.ref w4] ++ vs.drop (j + 1)))
      generalize upd (upd (upd H15 l3 (.lst (vs.take j ++ [.ref w4]))) l4 (.lst (vs.drop (j + 1)))) l5 (.lst (vs.take j ++ [.ref w4] ++ vs.drop (j + 1))) = H16 at J16 dW e_l5 dw16 e_w16
      clear g3 g4 g5 hl3 hl4 hl5 J15 e_w4 d_c4 e_l1 e_l2 dw16 e_w16
      refine ⟨fun σ H' => ∃ u8 u9 u11 u12 : Option V, σ = [some (.ref p), some (.int (s : Nat)), some (.ref aO), some (.int (m : Nat)), some (.ref D), some (.ref Gv), some (.ref tt), some (.ref q), u8, u9, some (.int (j : Nat)), u11, u12, none, none, none, none, none] ∧ JS K p T H m D vs ts tt v4 q o rs H', ?_, ?_⟩
      · refine ⟨_, rfl, _, _, rfl, rfl, _, rfl, ?_⟩
        by_cases h0 : (0 : Int) < (j : Int)
        case neg =>
          refine go_f (decide_eq_false h0) ?_
          refine go_f rfl ?_
          exact ⟨_, _, _, _, rfl, J16⟩
        refine go_t (decide_eq_true h0) ?_
        refine ⟨J16.t, fun H17 x17 hT17 => ?_⟩
        have J17 := J16.ext x17 hT17
        have dW17 := dp_same core_le (dp_same (Keep.ext x17 (p := p)).core dW)
        have e17 := x17 _ _ e_l5 (fun _ z => nomatch z)
        have rb := row_bad (s := s) (m := m) (n := n) (j := j) (ts := ts) (db := .tuple [nD 4, .tuple ((List.replicate (s ^ 4) 0).map nD)]) (by omega : m ≤ 2) lt hjn hts rfl (row_wide (by omega : m ≤ 2) lt hjn (by omega) rfl rfl)
        refine ⟨_, rfl, _, rfl, _, rfl, .ref aO, .ref l5, opT (n, as), _, s, rfl, DO J17.k, .lst (SqL.of e17) (tvs_mid J17.tv dW17), s2, s4, n, as, O, (fun ds z => nomatch z), .inr (.inl ⟨rb.1, j, _, rb.2.1, rb.2.2.1, rb.2.2.2, ?_⟩)⟩
        intro H18 dd HS hdd
        refine .inl ⟨rfl, dd, _, rfl, upd_same, fun t ht => ?_⟩
        refine ⟨_, rfl, (by show 2 ≤ sizeLine; decide), fun t2 ht2 => ⟨_, _, .tup (SqT.of (same_new ht2 _ _ upd_same)) (.cons (.str _) (.cons (.int _) .nil)), .tup (SqT.of upd_same) (.cons (.str _) (.cons (.int _) .nil)), shaped_si _ okS5, shaped_si _ okS5, _, rfl, ?_⟩⟩
        have he : (!PyData.eqv (.tuple [.str "table", .int (j : Nat)]) (.tuple [.str "table", .int (j : Nat)])) = false := by rw [told_eq _ okS5]; rfl
        refine go_f he ?_
        have tB := HS.trans ((same_new (o := .xd [("at", .int (j : Nat))]) hdd).trans ((same_new (o := .tup [.str "table", .int (j : Nat)]) ht).trans (same_new (o := .tup [.str "table", .int (j : Nat)]) ht2)))
        exact ⟨_, _, _, _, rfl, J17.same tB⟩
      · rintro σ H17 ⟨u8, u9, u11, u12, rfl, J17⟩
        refine ⟨J17.t, fun H18 x18 hT18 => ?_⟩
        have J18 := J17.ext x18 hT18
        refine ⟨_, rfl, _, rfl, _, rfl, _, rfl, _, rfl, (1 : Int), rfl, D, _, rfl, SqL.of J18.d, fun l1 hl1 => ?_⟩
        rw [show cutV vs none (some (1 : Int)) = vs.take 1 from cut_lo vs (j := 1) (by omega)]
        have g1 := same_new (o := .lst (vs.take 1)) hl1
        refine ⟨D, l1, vs, vs.take 1, rfl, rfl, g1 _ _ J18.d, upd_same, by rw [List.length_take, sizeLine_eq]; omega, fun l2 hl2 => ⟨(by show 3 ≤ sizeLine; decide), fun lb hlb => ?_⟩⟩
        have g2 := same_new (o := .lst (vs ++ vs.take 1)) hl2
        have g3 := same_new (o := .lst [V.non, V.ref l2, V.int 3]) hlb
        have J19 := J18.same (g1.trans (g2.trans g3))
        have nlb := (J18.same (g1.trans g2)).b.fresh hlb
        have nl2 := (J18.same g1).b.fresh hl2
        have e_l2 := g3 _ _ (upd_same (H := upd H18 l1 (.lst (vs.take 1))) (a := l2) (o := .lst (vs ++ vs.take 1)))
        have e_lb := upd_same (H := upd (upd H18 l1 (.lst (vs.take 1))) l2 (.lst (vs ++ vs.take 1))) (a := lb) (o := .lst [V.non, V.ref l2, V.int 3])
        generalize upd (upd (upd H18 l1 (.lst (vs.take 1))) l2 (.lst (vs ++ vs.take 1))) lb (.lst [V.non, V.ref l2, V.int 3]) = H19 at J19 e_l2 e_lb
        refine ⟨p, lb, _, rfl, nlb, J19.b, e_lb, by show 0 < 3; decide, by show 3 < 1000; decide, fun H20 v2 bt20 b20 hv => ?_⟩
        have J20 := J19.but bt20 b20
        obtain ⟨dt, hdt, hrow, hnt⟩ : ∃ dt, Dp K H20 v2 dt ∧ isRow n dt = false ∧ ∀ ds, dt ≠ .tuple ds := by
          simp only [List.mem_cons, List.not_mem_nil, or_false] at hv
          rcases hv with rfl | rfl | rfl
          · exact ⟨.none, .non, rfl, fun ds z => nomatch z⟩
          · have a := J20.tv.dps (K := K)
            refine ⟨.list ((ts.map fun t => opT (m, t)) ++ (ts.take 1).map fun t => opT (m, t)), .lst (SqL.of (bt20 _ _ e_l2 nl2)) (dpAll_app a ?_), ?_, fun ds z => nomatch z⟩
            · rw [List.map_take]
              exact dpAll_take 1 a
            · show (true && decide (((((ts.map fun t => opT (m, t)) ++ (ts.take 1).map fun t => opT (m, t)).length : Nat) : Int) = (n : Int))) = false
              rw [Bool.true_and, List.length_append, List.length_map, List.length_map, List.length_take]
              exact decide_eq_false (by omega)
          · exact ⟨.int 3, .int _, rfl, fun ds z => nomatch z⟩
        refine ⟨.ref aO, v2, opT (n, as), dt, s, rfl, DO J20.k, hdt, s2, s4, n, as, O, hnt, .inl ⟨hrow, ?_⟩⟩
        intro H21 dd HS hdd
        refine .inl ⟨rfl, dd, _, rfl, upd_same, fun t ht => ?_⟩
        refine ⟨_, rfl, (by show 2 ≤ sizeLine; decide), fun t2 ht2 => ⟨_, _, .tup (SqT.of (same_new ht2 _ _ upd_same)) (.cons (.str _) (.cons (.int _) .nil)), .tup (SqT.of upd_same) (.cons (.str _) (.cons (.int _) .nil)), shaped_si _ okS5, shaped_si _ okS5, ?_⟩⟩
        rw [told_eq _ okS5]
        have tB := HS.trans ((same_new (o := .xd [("at", .int (-1))]) hdd).trans ((same_new (o := .tup [.str "table", .int (-1)]) ht).trans (same_new (o := .tup [.str "table", .int (-1)]) ht2)))
        have JZ := J20.same tB
        exact k _ JZ.k JZ.b JZ.t
end
end K02
/-! not in a tuple, data of any depth. -/
namespace SQ
open PySem PySem.Spec PyProof.Rows L2
def rNotInTD (K : PySem.W.Frag) : R2 := fun x y H Q => ∃ d ds, Dp K H x d ∧ Dp K H y (.tuple ds) ∧ SeqAt.shaped d = true ∧ PyData.canLayAll0 ds = true ∧ Q (.bl (!ds.any fun z => PyData.eqv z d)) H
theorem op_notInTD {X : Cx} (hu : X.A.units + 65 < cLine) : OpR X (compareOp .NotIn) (rNotInTD X.K) := by
  intro pins s σ H x y v u Q I rx ry h
  obtain ⟨d, ds, hx, hl, sd, sl, q⟩ := h
  obtain ⟨bs, r1⟩ := Dp.reads I d x v hx rx
  have hroom : X.A.units + 1 + min (PyData.depthAll ds) d.depth < cLine := shaped_room sd hu
  cases hl with
  | tup hs ha =>
    rename_i a xs
    obtain rfl : u = .ref a := ry
    obtain ⟨its, rv, pt, hlen⟩ := I.tuple hs
    obtain ⟨as, h4⟩ := Dp.readsAll I ds _ its ha rv
    have hmap : its.map (SeqAt.readOf s.heap) = ds := SeqAt.readsAll_map ds its as sl h4
    refine SeqAt.notIn_tupleAt (items := its.toArray) (fun u => PyData.eqv (SeqAt.readOf s.heap u) d) pt (SeqAt.items_eqAt (vs := its.toArray) (show ReadsAll s.heap its.toArray.toList ds as from h4) r1 sl (SeqAt.canLay_of_shaped sd) hroom) ?_
    have ec : its.toArray.any (fun u => PyData.eqv (SeqAt.readOf s.heap u) d) = ds.any fun z => PyData.eqv z d := by
      rw [← hmap, List.any_map, List.any_toArray]
      rfl
    rw [ec]
    exact ⟨.bl _, H, I, rfl, q⟩
end SQ
/-! a def called by a local's name, that may raise. -/
namespace SQ
open PySem PySem.Spec PyProof.Rows L2 FX
def tCallL (i : Nat) (f : Addr) (sp : Sp) (E : L2.St → XK) (t : TA) : TE := fun σ H Q => σ[i]? = some (some (.ref f)) ∧ t σ H fun vs H1 => sp vs H1 Q (E σ)
theorem pe_callL {X : Cx} {CX : CXT} {k i : Nat} {f : Addr} {fd : FuncData} {ps : List Str} {sp : Sp} {E : L2.St → XK} {x : Str} {p pos : Pos} {e : Expr} {es : List Expr} {t : TA} (F : FnOk X.prog X.w X.K X.mg X.base CX k f fd ps sp) (hr : Room k X.A) (kp : PySem.W.keepIn X.K (.ref f) = true) (b : Binds X.K fd ps [])
    (hx : ∀ σ, PassesAt CX X σ (E σ)) (hN : X.N[i]? = some x) (hv : Vis X.env.scope x) (ha : PA X (e :: es) t) (hd : (x == "__debug__") = false := by rfl) (hcd : (x == "__classdict__") = false := by rfl)
    (he : starEach (e :: es) X.env = (false, eval e X.env) :: starEach es X.env := by rfl) (hpl : ((backTo pos (starEach es X.env)).any fun x => x.1) = false := by rfl) : PE X (.Call (.Name x p) (e :: es) [] pos) (tCallL i f sp E t) := by
  refine ⟨fun pins s σ H Q I h => ?_⟩
  obtain ⟨hs, ht⟩ := h
  refine wpAny_Call_Name_kw (thn ((pe_var hN hv hd hcd).run pins s σ H (fun v H1 => v = V.ref f ∧ H1 = H) I ⟨V.ref f, hs, rfl, rfl⟩) fun u s1 ⟨v, H1, I1, r1, q1⟩ => ?_)
  obtain ⟨rfl, rfl⟩ := q1
  obtain rfl : u = .ref f := r1
  exact PySem.W.callWith_K I1.ok.mod.kin kp (thn (ha.run pos pins s1 σ H1 _ I1 ht) fun us s2 ⟨vs, H2, I2, r, q⟩ => ⟨I2.kIn, run_fnS F hr b (hx σ) I2 r q⟩) he hpl
end SQ
/-! the law. -/
namespace K02
open PySem L2 FX SQ LamX
abbrev sLaw : Stmt := top 45
abbrev NLaw : List Str := ["script", "first", "choice", "k", "turn", "operation", "hung", "places", "answers", "at", "row", "place", "found", "other", "held", "box", "size", "work"]
theorem scLaw : FnScope NLaw ["script"] (defScope sLaw) := ⟨rfl, rfl, rfl, by decide +kernel, rfl, by decide +kernel, by decide +kernel⟩
def qLaw : Str := (PyProof.Rows.envOfC "law" (defScope sLaw) 0 0 .none).qual ++ "<lambda>"
theorem dpAll_eqo {K : PySem.W.Frag} {H : Hp} : ∀ {vs : List V} {os : List (Option Nat)}, DpAll K H vs (os.map oD) → vs = os.map oV := by
  intro vs os
  induction os generalizing vs with
  | nil =>
    intro h
    cases h
    rfl
  | cons o os ih =>
    intro h
    cases h with
    | cons h r =>
      rw [ih r]
      cases o <;> (cases h; rfl)
theorem noT1 {s : Nat} (s2 : 2 ≤ s) : isTable (s : Int) 1 3 (.tuple [nD 1, .tuple ([0].map nD)]) = false := by
  unfold isTable
  show (true && (isBt 1 3 (nD 1) && (isRow (pow' s 1) (.tuple ([0].map nD)) && _))) = false
  have : isRow (pow' (s : Int) 1) (.tuple ([0].map nD)) = false := by
    unfold isRow
    show (true && decide ((1 : Int) = 1 * (s : Int))) = false
    rw [Bool.true_and]
    exact decide_eq_false (by omega)
  rw [this]
  simp
theorem seqT_oc {K : PySem.W.Frag} {H : Hp} {p a : Addr} {xs : List V} (q : SqT K (off H p) a xs) : SqT K (core p H) a xs := by
  rcases q with (q | ⟨o, q⟩) | q
  · have n : a ≠ p := fun z => by rw [z, off_same] at q; cases q
    rw [off_ne n] at q
    exact .inl (.inl (by unfold core; rw [if_neg n, q]))
  · have n : a ≠ p := fun z => by rw [z, off_same] at q; cases q
    rw [off_ne n] at q
    exact .inl (.inr ⟨o, by unfold core; rw [if_neg n, q]⟩)
  · exact .inr q
theorem opT_oc {K : PySem.W.Frag} {H : Hp} {p : Addr} {v : V} {n : Nat} {as : List Nat} (h : Dp K (off H p) v (.tuple [nD n, .tuple (as.map nD)])) : Dp K (core p H) v (opT (n, as)) := by
  obtain ⟨a, xs, rfl, q, r⟩ := dp_tup h
  cases r with
  | cons h0 r => cases r with
    | cons h1 r => cases r with
      | nil =>
        cases h0
        obtain ⟨a2, x2, rfl, q2, r2⟩ := dp_tup h1
        obtain rfl := dpAll_eqn r2
        exact .tup (seqT_oc q) (.cons (.int _) (.cons (.tup (seqT_oc q2) (dpAll_mkn as)) .nil))
theorem sqL_keep {K : PySem.W.Frag} {p a : Addr} {H0 H : Hp} {xs : List V} (q : SqL K H0 a xs) (n : H0 p = none) (k : Keep p H0 H) : SqL K H a xs := by
  rcases q with (q | ⟨o, q⟩) | q
  · exact .inl (.inl (k _ _ q (ne_of_none q n) (fun _ z => nomatch z) (fun _ z => nomatch z)))
  · exact .inl (.inr ⟨o, k _ _ q (ne_of_none q n) (fun _ z => nomatch z) (fun _ z => nomatch z)⟩)
  · exact .inr q
section
variable {K : PySem.W.Frag}
def permR {α : Type} : List α → List α → List α := fun us ws => match us, ws with
  | [], [a, b] => [b, a]
  | _, _ => []
theorem kb_Hp {f : Addr} {fd : FuncData} (F : Fun K "hung_places" "hung_places" sHungP f fd) : KBinds K fd ["size", "operation"] ["operation", "size"] permR permR := by
  obtain ⟨oc, od, kV, doc, pm, an, cdv, ct, osl, rfl, _, _⟩ := F.ex
  refine ⟨fun s us ws _ hl => ?_, fun r rz => ?_⟩
  · match us, ws, hl with
    | [], [v, z], _ => exact BindsTo.of_eq (by rfl)
  · cases r with
    | cons a b => exact .nil
    | nil => cases rz with
      | nil => exact .nil
      | cons a rz => cases rz with
        | nil => exact .nil
        | cons b rz => cases rz with
          | nil => exact .cons b (.cons a .nil)
          | cons c rz => exact .nil
theorem kb_Le {f : Addr} {fd : FuncData} (F : Fun K "least_table" "least_table" sLeast f fd) : KBinds K fd ["size", "operation"] ["operation", "size"] permR permR := by
  obtain ⟨oc, od, kV, doc, pm, an, cdv, ct, osl, rfl, _, _⟩ := F.ex
  refine ⟨fun s us ws _ hl => ?_, fun r rz => ?_⟩
  · match us, ws, hl with
    | [], [v, z], _ => exact BindsTo.of_eq (by rfl)
  · cases r with
    | cons a b => exact .nil
    | nil => cases rz with
      | nil => exact .nil
      | cons a rz => cases rz with
        | nil => exact .nil
        | cons b rz => cases rz with
          | nil => exact .cons b (.cons a .nil)
          | cons c rz => exact .nil
theorem kb_Tw {f : Addr} {fd : FuncData} (F : Fun K "two_places" "two_places" sTwo f fd) : KBinds K fd ["size", "operation"] ["operation", "size"] permR permR := by
  obtain ⟨oc, od, kV, doc, pm, an, cdv, ct, osl, rfl, _, _⟩ := F.ex
  refine ⟨fun s us ws _ hl => ?_, fun r rz => ?_⟩
  · match us, ws, hl with
    | [], [v, z], _ => exact BindsTo.of_eq (by rfl)
  · cases r with
    | cons a b => exact .nil
    | nil => cases rz with
      | nil => exact .nil
      | cons a rz => cases rz with
        | nil => exact .nil
        | cons b rz => cases rz with
          | nil => exact .cons b (.cons a .nil)
          | cons c rz => exact .nil
end
section
variable {P : Program} {w : World} {K : PySem.W.Frag} {mg : Str → Option Value} {base : Heap} {B cB iB cO iO cV iV cS iS : Addr}
def spLaw (K : PySem.W.Frag) (T : List (Addr × Str)) : Sp := fun vs H Q _ => ∃ (a : Addr) (ns : List Int), vs = [.ref a] ∧ SqL K H a (ns.map V.int) ∧ Tabs T H ∧ ∀ H', Q (.bl true) H'
structure Gs (K : PySem.W.Frag) (mg : Str → Option Value) (P : Program) (w : World) (base : Heap) (T : List (Addr × Str)) (cO cV cS : Addr) (f0 f1 f2 f3 f4 f5 f6 f7 f8 f9 f10 f11 fE : Addr) (d0 d1 d2 d3 d4 d5 d6 d7 d8 d9 d10 d11 dE : FuncData) : Prop where
  box : At K mg "_law_box" sBox f0 d0 ["script", "k"]
  gBox : FnOk P w K mg base CX0 1 f0 d0 ["script", "k"] (spBox K)
  take : At K mg "_law_take" sTake f1 d1 ["box", "many"]
  gTake : FnOk P w K mg base CX0 1 f1 d1 ["box", "many"] spTake
  pick : At K mg "_law_pick" sPick f2 d2 ["box", "some"]
  gPick : FnOk P w K mg base CX0 2 f2 d2 ["box", "some"] (spPick K)
  grid : At K mg "_law_grid" sGrid f3 d3 ["size", "many"]
  gGrid : FnOk P w K mg base CX0 1 f3 d3 ["size", "many"] (spGrid K)
  opn : At K mg "_law_operation" sOpn f4 d4 ["box", "size"]
  gOpn : FnOk P w K mg base CX0 3 f4 d4 ["box", "size"] (spOpn K)
  atl : At K mg "_law_at" sAtL f5 d5 ["size", "table", "row"]
  gAt : FnOk P w K mg base CX0 2 f5 d5 ["size", "table", "row"] (spAtL K)
  lh : At K mg "_law_hung" sHungL f6 d6 ["size", "table"]
  gLh : FnOk P w K mg base CX0 2 f6 d6 ["size", "table"] (spHungL K)
  hp : At K mg "hung_places" sHungP f7 d7 ["size", "operation"]
  gHp : FnOk P w K mg base (L2.CX P w) 7 f7 d7 ["size", "operation"] (spHungP K cO)
  le : At K mg "least_table" sLeast f8 d8 ["size", "operation"]
  gLe : FnOk P w K mg base (L2.CX P w) 7 f8 d8 ["size", "operation"] (spLeast K cO)
  tw : At K mg "two_places" sTwo f9 d9 ["size", "operation"]
  gTw : FnOk P w K mg base (L2.CX P w) 7 f9 d9 ["size", "operation"] (spTwo K cO)
  ht : At K mg "held_table" sHT f10 d10 ["size", "operation", "held"]
  gHt : FnOk P w K mg base (L2.CX P w) 7 f10 d10 ["size", "operation", "held"] (spHT K cO cV cS)
  jrG : mg "_law_joined_right" = some (.ref f11)
  jrK : PySem.W.keepIn K (.ref f11) = true
  jrB : Binds K d11 ["box", "size", "operation"] []
  gJr : FnOk P w K mg base CX0 12 f11 d11 ["box", "size", "operation"] (spJR K T)
  err : At K mg "_law_error" sErr fE dE ["work"]
theorem ok_law {f c Pt : Addr} {fd : FuncData} {T : List (Addr × Str)} {f0 f1 f2 f3 f4 f5 f6 f7 f8 f9 f10 f11 fE : Addr} {d0 d1 d2 d3 d4 d5 d6 d7 d8 d9 d10 d11 dE : FuncData} (F : FunC K "law" sLaw f c fd) (Z : Bi mg) (R : Ers K mg B cB iB cO iO cV iV cS iS) (G : Gs K mg P w base T cO cV cS f0 f1 f2 f3 f4 f5 f6 f7 f8 f9 f10 f11 fE d0 d1 d2 d3 d4 d5 d6 d7 d8 d9 d10 d11 dE)
    (TB : TabB base mg c Pt) (hmT : (Pt, qLaw) ∈ T) (hu : ∀ p ∈ T, p.1 = Pt → p.2 = qLaw) : FnOk P w K mg base CX0 14 f fd ["script"] (spLaw K T) := by
  refine F.ok scLaw (fun vs H Q E h => ?_) (fun A outer sh H vs Q E hr h => ?_)
  · obtain ⟨a, ns, rfl, _⟩ := h
    rfl
  · obtain ⟨a, ns, rfl, hS, hT, k⟩ := h
    have hr8 := hr.units
    have hu65 := hr65 hr
    obtain ⟨oc, od, kV, doc, pm, an, cdv, ct, osl, rfl, lkE, hcE⟩ := G.err.F.ex
    refine ⟨_, pss_cons (ps_set (i := 1) scLaw.nd rfl (Or.inl rfl) (pe_tup (by exact (pa_cons pe_int (pa_cons (pe_tup (by exact (pa_cons pe_int (pa_cons pe_int (pa_cons pe_int (pa_cons pe_int pa_nil)))))) pa_nil)))))
      (pss_cons (ps_if (PW.pt (pw_or (pt_cmpR (op_neD hr8) (pe_call G.gHp (hr.mono (by decide)) rfl G.hp.g G.hp.F.kp G.hp.b .nil (pass_never rfl rfl) (by exact (pa_cons pe_int (pa_cons (pv 1) pa_nil)))) (pe_tup (by exact (pa_cons pe_int pa_nil))) (nomark _)) (pw_or (pt_cmpR (op_neD hr8) (pe_call G.gLe (hr.mono (by decide)) rfl G.le.g G.le.F.kp G.le.b .nil (pass_never rfl rfl) (by exact (pa_cons pe_int (pa_cons (pv 1) pa_nil)))) (pe_tup (by exact (pa_cons (pe_tup (by exact (pa_cons pe_int pa_nil))) (pa_cons (pe_tup (by exact (pa_cons pe_int (pa_cons pe_int pa_nil)))) pa_nil)))) (nomark _)) (pw_or1 (pt_cmpR op_notN (pe_call G.gTw (hr.mono (by decide)) rfl G.tw.g G.tw.F.kp G.tw.b .nil (pass_never rfl rfl) (by exact (pa_cons pe_int (pa_cons (pe_tup (by exact (pa_cons pe_int (pa_cons (pe_tup (by exact (pa_cons pe_int (pa_cons pe_int pa_nil)))) pa_nil)))) pa_nil)))) pe_non (nomark _)))))) (pss_one (ps_ret pe_bl)) pss_nil)
      (pss_cons (ps_set (i := 2) scLaw.nd rfl (Or.inl rfl) (pe_tup (by exact (pa_cons pe_int (pa_cons (pe_tup (by exact (pa_cons pe_int (pa_cons pe_int (pa_cons pe_int (pa_cons pe_int (pa_cons pe_int (pa_cons pe_int (pa_cons pe_int (pa_cons pe_int pa_nil)))))))))) pa_nil)))))
      (pss_cons (ps_if (pt_cmpR (op_notInTD hu65) (pe_call G.gTw (hr.mono (by decide)) rfl G.tw.g G.tw.F.kp G.tw.b .nil (pass_never rfl rfl) (by exact (pa_cons pe_int (pa_cons (pv 2) pa_nil)))) (pe_tup (by exact (pa_cons (pe_tup (by exact (pa_cons pe_int (pa_cons pe_int (pa_cons (pe_tup (by exact (pa_cons pe_non (pa_cons pe_non (pa_cons pe_int pa_nil))))) pa_nil))))) (pa_cons (pe_tup (by exact (pa_cons pe_int (pa_cons pe_int (pa_cons (pe_tup (by exact (pa_cons pe_non (pa_cons pe_non (pa_cons pe_int pa_nil))))) pa_nil))))) (pa_cons (pe_tup (by exact (pa_cons pe_int (pa_cons pe_int (pa_cons (pe_tup (by exact (pa_cons pe_non (pa_cons pe_int (pa_cons pe_non pa_nil))))) pa_nil))))) (pa_cons (pe_tup (by exact (pa_cons pe_int (pa_cons pe_int (pa_cons (pe_tup (by exact (pa_cons pe_non (pa_cons pe_int (pa_cons pe_non pa_nil))))) pa_nil))))) pa_nil)))))) (by with_unfolding_all rfl)) (pss_one (ps_ret pe_bl)) pss_nil)
      (pss_cons (ps_for PassesOwn.never rfl (pi_range1 rfl Z.range (pa_cons pe_int pa_nil)) (pg_name (i := 3) scLaw.nd rfl (Or.inl rfl))
        (pss_cons (ps_set (i := 15) scLaw.nd rfl (Or.inr rfl) (pe_call G.gBox (hr.mono (by decide)) rfl G.box.g G.box.F.kp G.box.b .nil pass0 (by exact (pa_cons (pv 0) (pa_cons (pv 3) pa_nil)))))
        (pss_cons (ps_set (i := 16) scLaw.nd rfl (Or.inr rfl) (pe_op op_add pe_int (pe_call G.gTake (hr.mono (by decide)) rfl G.take.g G.take.F.kp G.take.b .nil pass0 (by exact (pa_cons (pv 15) (pa_cons pe_int pa_nil))))))
        (pss_cons (ps_for PassesOwn.never rfl (pi_range1 rfl Z.range (pa_cons pe_int pa_nil)) (pg_name (i := 4) scLaw.nd rfl (Or.inl rfl))
          (pss_cons (ps_set (i := 5) scLaw.nd rfl (Or.inl rfl) (pe_call G.gOpn (hr.mono (by decide)) rfl G.opn.g G.opn.F.kp G.opn.b .nil pass0 (by exact (pa_cons (pv 15) (pa_cons (pv 16) pa_nil)))))
          (pss_cons (ps_set (i := 6) scLaw.nd rfl (Or.inl rfl) (pe_call G.gLh (hr.mono (by decide)) rfl G.lh.g G.lh.F.kp G.lh.b .nil pass0 (by exact (pa_cons (pv 16) (pa_cons (pv 5) pa_nil)))))
          (pss_cons (ps_if (pt_cmpR (op_neD hr8) (pe_callK0 G.gHp (hr.mono (by decide)) rfl G.hp.g G.hp.F.kp (kb_Hp G.hp.F) (pass_never rfl rfl) (pk_cons (pe_lst (by exact (pa_cons (pe_ix ix_tup (pv 5) pe_int (fun _ _ => rfl)) (pa_cons (pe_callTy call_list_of (by rfl) Z.list (by decide +kernel) (pa_cons (pe_ix ix_tup (pv 5) pe_int (fun _ _ => rfl)) pa_nil)) pa_nil)))) (pk_cons (pv 16) pk_nil))) (pv 6) (nomark _)) (pss_one (ps_ret pe_bl)) pss_nil)
          (pss_cons (ps_asg (pe_callK0 G.gLe (hr.mono (by decide)) rfl G.le.g G.le.F.kp (kb_Le G.le.F) (pass_never rfl rfl) (pk_cons (pv 5) (pk_cons (pv 16) pk_nil))) (pg_tup rfl (pgs_cons (pg_name (i := 7) scLaw.nd rfl (Or.inl rfl)) (pgs_cons (pg_name (i := 8) scLaw.nd rfl (Or.inl rfl)) pgs_nil))))
          (pss_cons (ps_if (PW.pt (pw_or (pt_cmpR (op_neD hr8) (pv 7) (pv 6) (nomark _)) (pw_or1 (pt_cmpR op_ne (pe_callB call_len_seq (by rfl) Z.len PySem.boot_len (pa_cons (pv 8) pa_nil)) (pe_callB call_len_seq (by rfl) Z.len PySem.boot_len (pa_cons (pe_call G.gGrid (hr.mono (by decide)) rfl G.grid.g G.grid.F.kp G.grid.b .nil pass0 (by exact (pa_cons (pv 16) (pa_cons (pe_callB call_len_seq (by rfl) Z.len PySem.boot_len (pa_cons (pv 6) pa_nil)) pa_nil)))) pa_nil)) (nomark _))))) (pss_one (ps_ret pe_bl)) pss_nil)
          (pss_cons (ps_for PassesOwn.never rfl (pi_enum2 (by rfl) Z.enumerate (pa_cons (pe_call G.gGrid (hr.mono (by decide)) rfl G.grid.g G.grid.F.kp G.grid.b .nil pass0 (by exact (pa_cons (pv 16) (pa_cons (pe_ix ix_tup (pv 5) pe_int (fun _ _ => rfl)) pa_nil)))) pa_nil)) (pg_tup rfl (pgs_cons (pg_name (i := 9) scLaw.nd rfl (Or.inl rfl)) (pgs_cons (pg_name (i := 10) scLaw.nd rfl (Or.inr rfl)) pgs_nil))) (pss_one (ps_if (pt_cmpR op_ne (pe_ix ix_tup (pe_ix ix_tup (pv 5) pe_int (fun _ _ => rfl)) (pv 9) (fun _ _ => rfl)) (pe_call G.gAt (hr.mono (by decide)) rfl G.atl.g G.atl.F.kp G.atl.b .nil pass0 (by exact (pa_cons (pv 16) (pa_cons (pe_tup (by exact (pa_cons (pe_callB call_len_seq (by rfl) Z.len PySem.boot_len (pa_cons (pv 6) pa_nil)) (pa_cons (pv 8) pa_nil)))) (pa_cons (pe_lc (own := [("place", 11)]) (g := gName 11) (tt := tYes) (te := tOp (rIxT K) (tVar 10) (tVar 11)) rfl scLaw.nd (pi_tup (pv 6)) (blkOk_by (N := NLaw) (sc := defScope sLaw) (by decide +kernel)) (fun _ _ _ _ _ => pg_name (i := 11) scLaw.nd rfl (Or.inl rfl)) (fun _ _ _ _ _ => pts_nil) (fun _ _ _ _ _ => pe_ix ix_tup (pv 10) (pv 11) (fun _ _ => rfl))) pa_nil))))) (nomark _)) (pss_one (ps_ret pe_bl)) pss_nil)))
          (C8.pss_cut (ps_set (i := 12) scLaw.nd rfl (Or.inl rfl) (pe_callK0 G.gTw (hr.mono (by decide)) rfl G.tw.g G.tw.F.kp (kb_Tw G.tw.F) (pass_never rfl rfl) (pk_cons (pv 5) (pk_cons (pv 16) pk_nil))))
          (pss_cons (ps_if (pt_cmpR op_ne (pe_cmpR op_isN (pv 12) pe_non (nomark _)) (pe_cmpR op_lt (pe_callB call_len_seq (by rfl) Z.len PySem.boot_len (pa_cons (pv 6) pa_nil)) pe_int (nomark _)) (nomark _)) (pss_one (ps_ret pe_bl)) pss_nil)
          (C8.pss_cut (ps_if (pt_cmpR op_notN (pv 12) pe_non (nomark _)) (pss_cons (ps_asg (pv 12) (pg_tup rfl (pgs_cons (pg_name (i := 11) scLaw.nd rfl (Or.inl rfl)) (pgs_cons (pg_name (i := 13) scLaw.nd rfl (Or.inl rfl)) (pgs_cons (pg_name (i := 14) scLaw.nd rfl (Or.inr rfl)) pgs_nil))))) (pss_cons (ps_if (PW.pt (pw_or (pt_cmpR (op_neD hr8) (pe_lc (own := [("at", 9)]) (g := gName 9) (tt := tTest (tOp (fun x y H Q => y = V.non ∧ Q (V.bl (decide (x = V.non))) H) (tOp (rIxT K) (tVar 14) (tVar 9)) (tC V.non))) (te := tVar 9) rfl scLaw.nd (pi_range1 (by rfl) Z.range (pa_cons (pe_ix ix_tup (pv 5) pe_int (fun _ _ => rfl)) pa_nil)) (blkOk_by (N := NLaw) (sc := defScope sLaw) (by decide +kernel)) (fun _ _ _ _ _ => pg_name (i := 9) scLaw.nd rfl (Or.inl rfl)) (fun _ _ _ _ _ => pts_one (pt_cmpR op_isN (pe_ix ix_tup (pv 14) (pv 9) (fun _ _ => rfl)) pe_non (nomark _))) (fun _ _ _ _ _ => pv 9)) (pe_lst (by exact (pa_cons (pv 11) (pa_cons (pv 13) pa_nil)))) (nomark _)) (pw_or1 (pt_cmpR op_ne (pe_callB call_len_seq (by rfl) Z.len PySem.boot_len (pa_cons (pv 14) pa_nil)) (pe_ix ix_tup (pv 5) pe_int (fun _ _ => rfl)) (nomark _))))) (pss_one (ps_ret pe_bl)) pss_nil) (pss_one (ps_if (pt_cmpR (op_neD hr8) (pe_call G.gLh (hr.mono (by decide)) rfl G.lh.g G.lh.F.kp G.lh.b .nil pass0 (by exact (pa_cons (pv 16) (pa_cons (pe_call G.gHt (hr.mono (by decide)) rfl G.ht.g G.ht.F.kp G.ht.b .nil (pass_never rfl rfl) (by exact (pa_cons (pv 16) (pa_cons (pv 5) (pa_cons (pv 14) pa_nil))))) pa_nil)))) (pe_tup (by exact (pa_cons pe_int (pa_cons pe_int pa_nil)))) (nomark _)) (pss_one (ps_ret pe_bl)) pss_nil)))) pss_nil)
          (pss_one (ps_if (pt_not (pt_val (pe_call G.gJr (hr.mono (by decide)) rfl G.jrG G.jrK G.jrB .nil pass0 (by exact (pa_cons (pv 15) (pa_cons (pv 16) (pa_cons (pv 5) pa_nil))))))) (pss_one (ps_ret pe_bl)) pss_nil))))))))))))
        (pss_cons (ps_set (i := 17) scLaw.nd rfl (Or.inr rfl) (pe_call G.gPick (hr.mono (by decide)) rfl G.pick.g G.pick.F.kp G.pick.b .nil pass0 (by exact (pa_cons (pv 15) (pa_cons (pe_lst (by exact (pa_cons (pe_glob (v := .ref f7) (by rfl) G.hp.g rfl) (pa_cons (pe_glob (v := .ref f8) (by rfl) G.le.g rfl) (pa_cons (pe_glob (v := .ref f9) (by rfl) G.tw.g rfl) pa_nil))))) pa_nil)))))
        (pss_one (ps_if (pt_cmpR (op_neD hr8) (LamX.pe_lamcall (k := 9) (by rfl) G.err.g G.err.F.kp lkE hcE G.err.b scErr rfl (Or.inl rfl) (err_gives R) TB rfl hmT hu (hr.mono (by decide)) (lamS_by (sc := defScope sLaw) (by decide +kernel)) rfl (fun _ _ _ _ _ => rfl) (fun A outer s H E f c' hr2 => by exact pe_or2 (pe_callL (i := 17) G.gHp (hr2.mono (by decide)) G.hp.F.kp G.hp.b (fun σ => passAt (takes_of rfl rfl rfl rfl) σ) (by rfl) (by first | exact Or.inl rfl | exact Or.inr rfl | exact Or.inr (Or.inl rfl) | exact Or.inr (Or.inr rfl)) (by exact (pa_cons (pv 16) (pa_cons (pe_call G.gPick (hr2.mono (by decide)) (by rfl) G.pick.g G.pick.F.kp G.pick.b .nil pass0 (by exact (pa_cons (pv 15) (pa_cons (pe_lst (by exact (pa_cons pe_non (pa_cons (pe_tup (by exact (pa_cons pe_int (pa_cons (pe_tup (by exact (pa_cons pe_int pa_nil))) pa_nil)))) (pa_cons (pe_tup (by exact (pa_cons pe_int (pa_cons (pe_tup (by exact (pa_cons pe_int pa_nil))) pa_nil)))) (pa_cons (pe_tup (by exact (pa_cons pe_int (pa_cons (pe_tup (by exact (pa_cons pe_int pa_nil))) pa_nil)))) pa_nil)))))) pa_nil)))) pa_nil)))) (pe_or2 (pe_callL (i := 17) G.gLe (hr2.mono (by decide)) G.le.F.kp G.le.b (fun σ => passAt (takes_of rfl rfl rfl rfl) σ) (by rfl) (by first | exact Or.inl rfl | exact Or.inr rfl | exact Or.inr (Or.inl rfl) | exact Or.inr (Or.inr rfl)) (by exact (pa_cons (pv 16) (pa_cons (pe_call G.gPick (hr2.mono (by decide)) (by rfl) G.pick.g G.pick.F.kp G.pick.b .nil pass0 (by exact (pa_cons (pv 15) (pa_cons (pe_lst (by exact (pa_cons pe_non (pa_cons (pe_tup (by exact (pa_cons pe_int (pa_cons (pe_tup (by exact (pa_cons pe_int pa_nil))) pa_nil)))) (pa_cons (pe_tup (by exact (pa_cons pe_int (pa_cons (pe_tup (by exact (pa_cons pe_int pa_nil))) pa_nil)))) (pa_cons (pe_tup (by exact (pa_cons pe_int (pa_cons (pe_tup (by exact (pa_cons pe_int pa_nil))) pa_nil)))) pa_nil)))))) pa_nil)))) pa_nil)))) (pe_callL (i := 17) G.gTw (hr2.mono (by decide)) G.tw.F.kp G.tw.b (fun σ => passAt (takes_of rfl rfl rfl rfl) σ) (by rfl) (by first | exact Or.inl rfl | exact Or.inr rfl | exact Or.inr (Or.inl rfl) | exact Or.inr (Or.inr rfl)) (by exact (pa_cons (pv 16) (pa_cons (pe_call G.gPick (hr2.mono (by decide)) (by rfl) G.pick.g G.pick.F.kp G.pick.b .nil pass0 (by exact (pa_cons (pv 15) (pa_cons (pe_lst (by exact (pa_cons pe_non (pa_cons (pe_tup (by exact (pa_cons pe_int (pa_cons (pe_tup (by exact (pa_cons pe_int pa_nil))) pa_nil)))) (pa_cons (pe_tup (by exact (pa_cons pe_int (pa_cons (pe_tup (by exact (pa_cons pe_int pa_nil))) pa_nil)))) (pa_cons (pe_tup (by exact (pa_cons pe_int (pa_cons (pe_tup (by exact (pa_cons pe_int pa_nil))) pa_nil)))) pa_nil)))))) pa_nil)))) pa_nil))))))) (pe_tup (by exact (pa_cons pe_str (pa_cons (pe_un un_neg pe_int) pa_nil)))) (nomark _)) (pss_one (ps_ret pe_bl)) pss_nil)))))))
      (pss_one (ps_ret pe_bl)))))), ?_⟩
    have O1 : OpIs 2 2 [0, 0, 1, 1] (opT (2, [0, 0, 1, 1])) := opT_is (s := 2) (o := (2, [0, 0, 1, 1])) (by decide) (by decide) rfl (by decide)
    have O2 : OpIs 2 1 [1, 0] (opT (1, [1, 0])) := opT_is (s := 2) (o := (1, [1, 0])) (by decide) (by decide) rfl (by decide)
    have O3 : OpIs 2 3 [0, 0, 1, 1, 0, 1, 0, 1] (opT (3, [0, 0, 1, 1, 0, 1, 0, 1])) := opT_is (s := 2) (o := (3, [0, 0, 1, 1, 0, 1, 0, 1])) (by decide) (by decide) rfl (by decide)
    refine ⟨(by show 4 ≤ sizeLine; decide), fun t1 ht1 => ⟨(by show 2 ≤ sizeLine; decide), fun t2 ht2 => ?_⟩⟩
    have s0 := (same_new (o := .tup [V.int 0, V.int 0, V.int 1, V.int 1]) ht1).trans (same_new (o := .tup [V.int 2, V.ref t1]) ht2)
    have dF : Dp K (upd (upd H t1 (.tup [V.int 0, V.int 0, V.int 1, V.int 1])) t2 (.tup [V.int 2, V.ref t1])) (.ref t2) (opT (2, [0, 0, 1, 1])) := .tup (SqT.of upd_same) (.cons (.int 2) (.cons (.tup (SqT.of (same_new ht2 _ _ upd_same)) (dpAll_mkn [0, 0, 1, 1])) .nil))
    generalize upd (upd H t1 (.tup [V.int 0, V.int 0, V.int 1, V.int 1])) t2 (.tup [V.int 2, V.ref t1]) = H1 at s0 dF
    refine ⟨_, rfl, .ref t2, _, 2, rfl, dF, by decide, by decide, .inr ⟨2, _, O1, fun H2 v2 s2 d2 => ?_⟩⟩
    rw [show hungN 2 2 [0, 0, 1, 1] = [0] from by decide +kernel] at d2
    refine ⟨(by show 1 ≤ sizeLine; decide), fun u1 hu1 => ?_⟩
    have m1 := same_new (o := .tup [V.int 0]) hu1
    refine ⟨rowT [0], rowT [0], dp_same m1 d2, .tup (SqT.of upd_same) (dpAll_mkn [0]), shaped_row _, shaped_row _, _, rfl, ?_⟩
    refine go_f (by rw [eqv_row]; rfl) ?_
    have s3 := s2.trans m1
    generalize upd H2 u1 (.tup [V.int 0]) = H3 at s3
    refine ⟨_, rfl, .ref t2, _, 2, rfl, dp_same s3 dF, by decide, by decide, .inr ⟨2, _, O1, fun H4 t4 vh va s4 e4 dh da => ?_⟩⟩
    rw [show hungN 2 2 [0, 0, 1, 1] = [0] from by decide +kernel] at dh da
    rw [show heldAns 2 [0, 0, 1, 1] (leastO 2 [0]) = [0, 1] from by decide +kernel] at da
    refine ⟨(by show 1 ≤ sizeLine; decide), fun u2 hu2 => ⟨(by show 2 ≤ sizeLine; decide), fun u3 hu3 => ⟨(by show 2 ≤ sizeLine; decide), fun u4 hu4 => ?_⟩⟩⟩
    have m2 := same_new (o := .tup [V.int 0]) hu2
    have m3 := same_new (o := .tup [V.int 0, V.int 1]) hu3
    have m4 := same_new (o := .tup [V.ref u2, V.ref u3]) hu4
    have m24 := m2.trans (m3.trans m4)
    refine ⟨.tuple [rowT [0], rowT [0, 1]], .tuple [rowT [0], rowT [0, 1]], .tup (SqT.of (m24 _ _ e4)) (.cons (dp_same m24 dh) (.cons (dp_same m24 da) .nil)), .tup (SqT.of upd_same) (.cons (.tup (SqT.of ((m3.trans m4) _ _ upd_same)) (dpAll_mkn [0])) (.cons (.tup (SqT.of (m4 _ _ upd_same)) (dpAll_mkn [0, 1])) .nil)), by decide +kernel, by decide +kernel, _, rfl, ?_⟩
    refine go_f (by decide +kernel) ?_
    have s5 := s4.trans m24
    generalize upd _ u4 (.tup [V.ref u2, V.ref u3]) = H5 at s5
    refine ⟨(by show 2 ≤ sizeLine; decide), fun v1 hv1 => ⟨(by show 2 ≤ sizeLine; decide), fun w1 hw1 => ?_⟩⟩
    have m5 := (same_new (o := .tup [V.int 1, V.int 0]) hv1).trans (same_new (o := .tup [V.int 1, V.ref v1]) hw1)
    refine ⟨.ref w1, _, 2, rfl, .tup (SqT.of upd_same) (.cons (.int 1) (.cons (.tup (SqT.of (same_new hw1 _ _ upd_same)) (dpAll_mkn [1, 0])) .nil)), by decide, by decide, .inr ⟨1, _, O2, fun _ H6 s6 => ?_, fun p o h e => ?_⟩⟩
    case refine_2 =>
      rw [show twoN 2 1 [1, 0] = none from by decide +kernel] at e
      cases e
    refine ⟨rfl, _, rfl, ?_⟩
    refine go_f rfl ?_
    have s06 := s0.trans (s3.trans (s5.trans (m5.trans s6)))
    clear s0 s3 s5 m5 m24 m4 m3 m2 m1 dF dh da d2 e4 s4 s2 s6 hu1 hu2 hu3 hu4 hv1 hw1 ht1 ht2
    refine ⟨(by show 8 ≤ sizeLine; decide), fun c1 hc1 => ⟨(by show 2 ≤ sizeLine; decide), fun c2 hc2 => ?_⟩⟩
    have n1 := (same_new (o := .tup [V.int 0, V.int 0, V.int 1, V.int 1, V.int 0, V.int 1, V.int 0, V.int 1]) hc1).trans (same_new (o := .tup [V.int 3, V.ref c1]) hc2)
    have dC : Dp K (upd (upd H6 c1 (.tup [V.int 0, V.int 0, V.int 1, V.int 1, V.int 0, V.int 1, V.int 0, V.int 1])) c2 (.tup [V.int 3, V.ref c1])) (.ref c2) (opT (3, [0, 0, 1, 1, 0, 1, 0, 1])) := .tup (SqT.of upd_same) (.cons (.int 3) (.cons (.tup (SqT.of (same_new hc2 _ _ upd_same)) (dpAll_mkn [0, 0, 1, 1, 0, 1, 0, 1])) .nil))
    generalize upd (upd H6 c1 _) c2 (.tup [V.int 3, V.ref c1]) = H7 at n1 dC
    refine ⟨_, rfl, .ref c2, _, 2, rfl, dC, by decide, by decide, .inr ⟨3, _, O3, fun e => ?_, fun p o h e hpo ho hm hg H8 t8 vh s8 e8 dh _ => ?_⟩⟩
    · rw [show twoN 2 3 [0, 0, 1, 1, 0, 1, 0, 1] = some (0, 1, [none, none, some 0]) from by decide +kernel] at e
      cases e
    rw [show twoN 2 3 [0, 0, 1, 1, 0, 1, 0, 1] = some (0, 1, [none, none, some 0]) from by decide +kernel] at e
    cases e
    refine ⟨(by show 3 ≤ sizeLine; decide), fun a1 ha1 => ⟨(by show 3 ≤ sizeLine; decide), fun b1 hb1 => ⟨(by show 3 ≤ sizeLine; decide), fun a2 ha2 => ⟨(by show 3 ≤ sizeLine; decide), fun b2 hb2 => ⟨(by show 3 ≤ sizeLine; decide), fun a3 ha3 => ⟨(by show 3 ≤ sizeLine; decide), fun b3 hb3 => ⟨(by show 3 ≤ sizeLine; decide), fun a4 ha4 => ⟨(by show 3 ≤ sizeLine; decide), fun b4 hb4 => ⟨(by show 4 ≤ sizeLine; decide), fun oo hoo => ?_⟩⟩⟩⟩⟩⟩⟩⟩⟩
    have k9 := same_new (o := .tup [V.ref b1, V.ref b2, V.ref b3, V.ref b4]) hoo
    have k8 := (same_new (o := .tup [V.int 0, V.int 2, V.ref a4]) hb4).trans k9
    have k7 := (same_new (o := .tup [V.non, V.int 1, V.non]) ha4).trans k8
    have k6 := (same_new (o := .tup [V.int 0, V.int 2, V.ref a3]) hb3).trans k7
    have k5 := (same_new (o := .tup [V.non, V.int 0, V.non]) ha3).trans k6
    have k4 := (same_new (o := .tup [V.int 0, V.int 1, V.ref a2]) hb2).trans k5
    have k3 := (same_new (o := .tup [V.non, V.non, V.int 1]) ha2).trans k4
    have k2 := (same_new (o := .tup [V.int 0, V.int 1, V.ref a1]) hb1).trans k3
    have k1 := (same_new (o := .tup [V.non, V.non, V.int 0]) ha1).trans k2
    refine ⟨.tuple [.int 0, .int 1, .tuple [.none, .none, .int 0]], [.tuple [.int 0, .int 1, .tuple [.none, .none, .int 0]], .tuple [.int 0, .int 1, .tuple [.none, .none, .int 1]], .tuple [.int 0, .int 2, .tuple [.none, .int 0, .none]], .tuple [.int 0, .int 2, .tuple [.none, .int 1, .none]]],
      .tup (SqT.of (k1 _ _ e8)) (.cons (.int _) (.cons (.int _) (.cons (dp_same k1 dh) .nil))), .tup (SqT.of upd_same) ?_, by decide +kernel, by decide +kernel, _, rfl, ?_⟩
    · refine .cons (.tup (SqT.of (k3 _ _ upd_same)) (.cons (.int _) (.cons (.int _) (.cons (.tup (SqT.of (k2 _ _ upd_same)) (.cons .non (.cons .non (.cons (.int _) .nil)))) .nil)))) ?_
      refine .cons (.tup (SqT.of (k5 _ _ upd_same)) (.cons (.int _) (.cons (.int _) (.cons (.tup (SqT.of (k4 _ _ upd_same)) (.cons .non (.cons .non (.cons (.int _) .nil)))) .nil)))) ?_
      refine .cons (.tup (SqT.of (k7 _ _ upd_same)) (.cons (.int _) (.cons (.int _) (.cons (.tup (SqT.of (k6 _ _ upd_same)) (.cons .non (.cons (.int _) (.cons .non .nil)))) .nil)))) ?_
      exact .cons (.tup (SqT.of (k9 _ _ upd_same)) (.cons (.int _) (.cons (.int _) (.cons (.tup (SqT.of (k8 _ _ upd_same)) (.cons .non (.cons (.int _) (.cons .non .nil)))) .nil)))) .nil
    refine go_f (by decide +kernel) ?_
    have s09 := s06.trans (n1.trans (s8.trans k1))
    have hS9 : SqL K _ a (ns.map V.int) := s09.seq hS
    have hT9 : Tabs T _ := hT.ext s09
    generalize upd _ oo (.tup [V.ref b1, V.ref b2, V.ref b3, V.ref b4]) = H9 at s09 hS9 hT9
    clear k1 k2 k3 k4 k5 k6 k7 k8 k9 ha1 hb1 ha2 hb2 ha3 hb3 ha4 hb4 hoo dh e8 s8 dC n1 s06 hc1 hc2
    refine ⟨2, rfl, by decide, by decide, ?_⟩
    refine for_range (n := 2) (fun i σ H' => ∃ u1 u2 u3 u4 u5 u6 u7 u8 u9 u10 u11 u12 u13 u14 u15 u16 u17 : Option V, σ = [some (.ref a), u1, u2, u3, u4, u5, u6, u7, u8, u9, u10, u11, u12, u13, u14, u15, u16, u17] ∧ SqL K H' a (ns.map V.int) ∧ Tabs T H') ?_ ?_ ?_
    · exact ⟨_, _, _, _, _, _, _, _, _, _, _, _, _, _, _, _, _, rfl, hS9, hT9⟩
    · rintro i σ H10 hi ⟨u1, u2, u3, u4, u5, u6, u7, u8, u9, u10, u11, u12, u13, u14, u15, u16, u17, rfl, hS10, hT10⟩
      refine ⟨_, rfl, _, rfl, a, _, ns, rfl, (by omega), hS10, fun H11 p s11 np b11 => ?_⟩
      have hT11 := hT10.ext s11
      refine ⟨_, rfl, p, 3, rfl, by decide, by decide, b11, fun H12 d bt12 b12 d0 d1 => ?_⟩
      obtain ⟨dn, rfl, hdn⟩ := nat_of d0 d1
      obtain ⟨s, es, s2, s4⟩ : ∃ s : Nat, (2 : Int) + (dn : Int) = (s : Nat) ∧ 2 ≤ s ∧ s ≤ 4 := ⟨2 + dn, by omega, by omega, by omega⟩
      refine ⟨_, _, rfl, rfl, ?_⟩
      have es' : V.int ((2 : Int) + (dn : Int)) = V.int (s : Nat) := by rw [es]
      have hT12 := K02.Tabs.but hT11 b11 bt12
      have hk12 : Keep p H10 H12 := (Keep.of s11).trans (Keep.but bt12)
      refine ⟨2, rfl, by decide, by decide, ?_⟩
      refine for_range (n := 2) (fun i' σ H' => ∃ w1 w2 w4 w5 w6 w7 w8 w9 w10 w11 w12 w13 w14 w17 : Option V, σ = [some (.ref a), w1, w2, some (.int (0 + (i : Int))), w4, w5, w6, w7, w8, w9, w10, w11, w12, w13, w14, some (.ref p), some (.int (s : Nat)), w17] ∧ Keep p H12 H' ∧ Box H' p ∧ Tabs T H') ?_ ?_ ?_
      · exact ⟨u1, u2, u4, u5, u6, u7, u8, u9, u10, u11, u12, u13, u14, u17, by rw [← es']; rfl, Keep.refl p H12, b12, hT12⟩
      · rintro i2 σ H13 hi2 ⟨w1, w2, w4, w5, w6, w7, w8, w9, w10, w11, w12, w13, w14, w17, rfl, k13, b13, hT13⟩
        refine ⟨_, rfl, _, rfl, p, s, rfl, s2, s4, b13, fun H14 vo n as bt14 b14 n1 n3 n4 la hlt dO0 => ?_⟩
        have hsn : SN s n := ⟨n1, by omega⟩
        have O : OpIs s n as (opT (n, as)) := opT_is (s := s) (o := (n, as)) n1 n3 la hlt
        have hT14 := K02.Tabs.but hT13 b13 bt14
        have k14 := k13.trans (Keep.but bt14)
        have dO : Dp K (core p H14) vo (opT (n, as)) := opT_oc dO0
        clear dO0
        obtain ⟨aO, xO, rfl, qO, rO⟩ := dp_tup dO
        obtain ⟨aA, rfl, qA⟩ : ∃ aA, xO = [.int (n : Int), .ref aA] ∧ SqT K (core p H14) aA (as.map fun n : Nat => V.int n) := by
          cases rO with
          | cons h0 r => cases r with
            | cons h1 r => cases r with
              | nil =>
                cases h0
                obtain ⟨aA, xA, rfl, qA, rA⟩ := dp_tup h1
                obtain rfl := dpAll_eqn rA
                exact ⟨aA, rfl, qA⟩
        have QO : ∀ {H'}, Same H14 H' → SqT K H' aO [.int (n : Int), .ref aA] := fun s' => seqT (core_le.trans s') qO
        have QA : ∀ {H'}, Same H14 H' → SqT K H' aA (as.map fun n : Nat => V.int n) := fun s' => seqT (core_le.trans s') qA
        have DO : ∀ {H'}, Same H14 H' → Dp K H' (.ref aO) (opT (n, as)) := fun s' => dp_same (core_le.trans s') dO
        refine ⟨_, rfl, _, rfl, s, n, .ref aO, as, rfl, DO (Same.refl _), hsn, la, fun H15 vh s15 dh => ?_⟩
        obtain ⟨ah, xh, rfl, qh, rh⟩ := dp_tup dh
        obtain rfl : xh = (hungN s n as).map fun n : Nat => V.int n := dpAll_eqn rh
        refine ⟨_, rfl, aO, _, _, _, rfl, rfl, QO s15, atI_nat (j := 0) rfl, _, rfl, aO, _, _, _, rfl, rfl, QO s15, atI_nat (j := 1) rfl, aA, _, rfl, .inr (QA s15), fun l1 hl1 => ⟨(by show 2 ≤ sizeLine; decide), fun l2 hl2 => ?_⟩⟩
        have g2 := (same_new (o := .lst (as.map fun n : Nat => V.int n)) hl1).trans (same_new (o := .lst [.int (n : Int), .ref l1]) hl2)
        have OL : OpIs s n as (.list [nD n, .list (as.map nD)]) := ⟨rfl, ⟨_, rfl, rfl, rfl⟩, n1, n3, la, hlt⟩
        refine ⟨_, rfl, .ref l2, _, s, rfl, .lst (SqL.of upd_same) (.cons (.int _) (.cons (.lst (SqL.of (same_new hl2 _ _ upd_same)) (dpAll_mkn as)) .nil)), s2, by omega, .inr ⟨n, as, OL, fun H16 v16 s16 d16 => ?_⟩⟩
        have g16 := g2.trans s16
        refine ⟨_, rfl, rowT (hungN s n as), rowT (hungN s n as), d16, dp_same g16 dh, shaped_row _, shaped_row _, _, rfl, ?_⟩
        refine go_f (by rw [eqv_row]; simp) ?_
        have s16' := s15.trans g16
        have dh16 := dp_same g16 dh
        have qh16 := seqT g16 qh
        clear g16 s16 d16 g2 hl1 hl2 dh qh s15
        have hfew := hung_few (s := s) (n := n) (as := as)
        have hux : ∀ x ∈ hungN s n as, x < n := fun x hx => (hungN_mem.mp hx).1
        have hll := least_len as hsn
        have lat := fun (i : Nat) (r : List Nat) (hr : (gridN s n)[i]? = some r) => least_at (as := as) hsn hr
        have two0 : twoN s n as = none → (hungN s n as).length < 2 := two_none hsn la
        have two1 := fun (p' o' : Nat) (h : List (Option Nat)) (hp : p' < o') (ho : o' < n) (hh : h ∈ heldsO s n p' o') (g : goodO s as (p', o', h) = true) => two_right (as := as) hsn ho hp hh g
        refine ⟨_, rfl, _, rfl, .ref aO, _, s, rfl, DO s16', s2, by omega, .inr ⟨n, as, O, fun H17 t17 vp va s17 e17 dp17 da17 => ?_⟩⟩
        refine ⟨t17, _, rfl, SqT.of e17, rfl, _, _, rfl, _, _, rfl, rfl, ?_⟩
        have s17' := s16'.trans s17
        have dh17 := dp_same s17 dh16
        have qh17 := seqT s17 qh16
        obtain ⟨aL, xL, rfl, qL, rL⟩ := dp_tup da17
        obtain rfl := dpAll_eqn rL
        refine ⟨_, rfl, _, rfl, rowT (hungN s n as), rowT (hungN s n as), dp17, dh17, shaped_row _, shaped_row _, _, rfl, ?_⟩
        refine go_f (by rw [eqv_row]; simp) ?_
        refine ⟨_, rfl, aL, _, rfl, .inr qL, _, rfl, _, rfl, ah, _, rfl, .inr qh17, s, (hungN s n as).length, by rw [List.length_map] <;> rfl, by omega, by omega, fun H18 vg s18 fg => ?_⟩
        obtain ⟨ag, xg, rfl, nag, eg, rg⟩ := fg
        have lg : xg.length = s ^ (hungN s n as).length := by rw [dpAll_len rg, List.length_map, gridN_len]
        refine ⟨ag, xg, rfl, .inl (SqL.of eg), rfl, _, rfl, ?_⟩
        refine go_f (by rw [List.length_map, hll, lg]; simp) ?_
        have s18' := s17'.trans s18
        have dh18 := dp_same s18 dh17
        have qh18 := seqT s18 qh17
        have qL18 := seqT s18 qL
        clear eg rg nag lg xg ag qL rL da17 dp17 dh17 qh17 e17 s17 s18 s17' s16' dh16 qh16
        generalize hungN s n as = hg at *
        generalize heldAns s as (leastO n hg) = ans at *
        refine ⟨_, rfl, _, rfl, aO, _, _, .int (n : Int), rfl, rfl, QO s18', atI_nat (j := 0) rfl, s, n, rfl, by omega, by omega, fun H19 vg s19 fg => ?_⟩
        obtain ⟨ag, xg, rfl, nag, eg, rg⟩ := fg
        have lg : xg.length = s ^ n := by rw [dpAll_len rg, List.length_map, gridN_len]
        have s19' := s18'.trans s19
        have dh19 := dp_same s19 dh18
        have qh19 := seqT s19 qh18
        have qL19 := seqT s19 qL18
        clear dh18 qh18 qL18 s19 s18'
        refine ⟨ag, xg, .L, rfl, SqL.of eg, for_it (walk_enum2 (k := .L) (a := ag) (xs := xg) (n := xg.length) rfl)
          (fun j σ H' => ∃ u9 u10 : Option V, σ = [some (.ref a), w1, w2, some (.int (0 + (i : Int))), some (.int (0 + (i2 : Int))), some (.ref aO), some (.ref ah), some vp, some (.ref aL), u9, u10, w11, w12, w13, w14, some (.ref p), some (.int (s : Nat)), w17] ∧ Same H19 H')
          ⟨w9, w10, rfl, Same.refl _⟩ (fun j σ H' _ ⟨_, _, _, z⟩ => SqL.of (z _ _ eg)) ?_ ?_⟩
        · rintro j x σ H20 H21 hj ⟨u9, u10, rfl, s20⟩ ⟨t, x1, x2, rfl, ht, rfl, hx1, hx2⟩
          rw [lg] at hj
          obtain rfl : x1 = .int (j : Nat) := (Option.some.inj hx1).symm
          have hja : j < as.length := by omega
          obtain ⟨dr, hdr, hxd⟩ := dpAll_get rg hx2
          obtain ⟨r, hr', rfl⟩ : ∃ r, (gridN s n)[j]? = some r ∧ dr = rowT r := by
            rw [List.getElem?_map] at hdr
            cases e : (gridN s n)[j]? with
            | none =>
              rw [e] at hdr
              cases hdr
            | some r =>
              rw [e] at hdr
              exact ⟨r, rfl, (Option.some.inj hdr).symm⟩
          have lr := gridN_row r (List.mem_of_getElem? hr')
          obtain ⟨ar, xr, rfl, qr, rr⟩ := dp_tup hxd
          obtain rfl : xr = r.map fun n : Nat => V.int n := dpAll_eqn rr
          have s21 := s20.trans (same_new (o := .tup [.int (j : Nat), .ref ar]) ht)
          refine ⟨t, _, rfl, SqT.of upd_same, rfl, _, _, rfl, _, _, rfl, rfl, ?_⟩
          generalize upd H20 t (.tup [.int (j : Nat), .ref ar]) = H21 at s21
          have el : (hg.map fun n : Nat => V.int n).length = hg.length := List.length_map _
          refine ⟨_, rfl, aO, _, _, _, rfl, rfl, QO (s19'.trans s21), atI_nat (j := 1) rfl, _, rfl, aA, _, _, .int (as[j] : Nat), rfl, rfl, QA (s19'.trans s21), atI_nat (by rw [List.getElem?_map, List.getElem?_eq_getElem hja]; rfl), _, rfl, _, rfl, ah, _, rfl, .inr (seqT s21 qh19), _, rfl, (by show 2 ≤ sizeLine; decide), fun t2 ht2 => ?_⟩
          have s22 := same_new (o := .tup [.int ((hg.map fun n : Nat => V.int n).length : Nat), .ref aL]) ht2
          have dt2 : Dp K (upd H21 t2 (.tup [.int ((hg.map fun n : Nat => V.int n).length : Nat), .ref aL])) (.ref t2) (opT (hg.length, ans)) := .tup (SqT.of upd_same) (.cons (by rw [el]; exact .int _) (.cons (.tup (seqT (s21.trans s22) qL19) (dpAll_mkn ans)) .nil))
          have s22' := s21.trans s22
          generalize upd H21 t2 (.tup [.int ((hg.map fun n : Nat => V.int n).length : Nat), .ref aL]) = H22 at s22' dt2
          refine ⟨_, rfl, ah, rfl, ⟨_, seqT s22' qh19⟩, fun D hD => walk_it walk_tup (fun q H' => Same H22 H' ∧ H' D = some (.lst (((hg.take q).map fun p => r.getD p 0).map fun n : Nat => V.int n))) ⟨same_new hD, upd_same⟩ (fun q H' _ z => seqT (s22'.trans z.1) qh19) ?_ ?_⟩
          · rintro q x _ H23 hq ⟨s23, eD⟩ ⟨rfl, hx⟩
            rw [el] at hq
            obtain rfl : x = .int (hg[q] : Nat) := by
              rw [List.getElem?_map, List.getElem?_eq_getElem hq] at hx
              exact (Option.some.inj hx).symm
            have hqr : hg[q] < r.length := by rw [lr.1]; exact hux _ (List.getElem_mem hq)
            refine ⟨rfl, _, rfl, _, rfl, ar, _, _, .int (r[hg[q]] : Nat), rfl, rfl, seqT (s22'.trans s23) qr, atI_nat (by rw [List.getElem?_map, List.getElem?_eq_getElem hqr]; rfl), ?_⟩
            refine ⟨_, eD, by rw [List.length_map, List.length_map, List.length_take, sizeLine_eq]; omega, same_of s23 hD, ?_⟩
            rw [upd_same, take_more (List.getElem?_eq_getElem hq), List.map_append, List.map_append]
            congr 3
            show [V.int (r[hg[q]] : Nat)] = [V.int (r.getD hg[q] 0 : Nat)]
            rw [getD_of hqr]
          · rintro H23 ⟨s23, eD⟩
            rw [el, List.take_length] at eD
            refine ⟨s, hg.length, .ref t2, .ref D, ans, hg.map fun p => r.getD p 0, rfl, dp_same s23 dt2, .lst (SqL.of eD) (dpAll_mkn _), by omega, s4, by omega, hll, List.length_map _, fun x hx => ?_, fun H24 s24 => ⟨rfl, _, rfl, ?_⟩⟩
            · obtain ⟨p', hp', rfl⟩ := List.mem_map.mp hx
              have hpr : p' < r.length := by rw [lr.1]; exact hux _ hp'
              rw [getD_of hpr]
              exact lr.2 _ (List.getElem_mem hpr)
            · have e := lat j r hr'
              rw [getD_of hja] at e
              refine go_f (by rw [← e]; simp) ?_
              exact ⟨_, _, rfl, s22'.trans (s23.trans s24)⟩
        rintro σ H20 ⟨u9, u10, rfl, s20⟩
        refine ⟨fun σ H' => ∃ (u9 u10 : Option V) (vf : V), σ = [some (.ref a), w1, w2, some (.int (0 + (i : Int))), some (.int (0 + (i2 : Int))), some (.ref aO), some (.ref ah), some vp, some (.ref aL), u9, u10, w11, some vf, w13, w14, some (.ref p), some (.int (s : Nat)), w17] ∧ Same H19 H' ∧
          ((vf = .non ∧ hg.length < 2) ∨ ∃ (p' o' : Nat) (h : List (Option Nat)) (t : Addr) (vh' : V), vf = .ref t ∧ H' t = some (.tup [.int (p' : Nat), .int (o' : Nat), vh']) ∧ Dp K H' vh' (.tuple (h.map oD)) ∧ Nd K H' vh' ∧ p' < o' ∧ o' < n ∧ (∀ m, some m ∈ h → m < s) ∧ 2 ≤ hg.length ∧ hungN s 2 (heldAns s as h) = [0, 1] ∧ h.length = n ∧ cntN h = 2 ∧ ∀ a < n, (h.getD a (some 0)).isNone = (decide (a = p') || decide (a = o'))), ?_, ?_⟩
        · refine ⟨_, rfl, _, rfl, .ref aO, _, s, rfl, DO (s19'.trans s20), s2, by omega, .inr ⟨n, as, O, fun e H21 s21 => ?_, fun p' o' h e hpo ho hm hgd H21 t vh' s21 e21 d21 nd21 => ?_⟩⟩
          · exact ⟨_, _, _, rfl, s20.trans s21, .inl ⟨rfl, two0 e⟩⟩
          · obtain ⟨x1, x2, x3, x4, x5⟩ := two1 p' o' h hpo ho hm hgd
            exact ⟨_, _, _, rfl, s20.trans s21, .inr ⟨p', o', h, t, vh', rfl, e21, d21, nd21, hpo, ho, helds_lt hm, x1, x2, x3, x4, x5⟩⟩
        rintro σ H21 ⟨u9', u10', vf, rfl, s21, hvf⟩
        have el : (hg.map fun n : Nat => V.int n).length = hg.length := List.length_map _
        refine ⟨_, rfl, rfl, _, rfl, ah, _, rfl, .inr (seqT s21 qh19), _, _, rfl, rfl, rfl, _, rfl, ?_⟩
        have hb : decide (vf = V.non) = decide (((hg.map fun n : Nat => V.int n).length : Int) < 2) := by
          rw [el]
          rcases hvf with ⟨rfl, h2⟩ | ⟨p', o', h, t, vh', rfl, _, _, _, _, _, _, h2, _⟩
          · rw [decide_eq_true rfl, decide_eq_true (by omega : (hg.length : Int) < 2)]
          · rw [decide_eq_false (by simp), decide_eq_false (by omega : ¬ (hg.length : Int) < 2)]
        refine go_f (by rw [hb]; simp) ?_
        refine ⟨fun σ H' => ∃ u9 u10 u11 u12 u13 u14 : Option V, σ = [some (.ref a), w1, w2, some (.int (0 + (i : Int))), some (.int (0 + (i2 : Int))), some (.ref aO), some (.ref ah), some vp, some (.ref aL), u9, u10, u11, u12, u13, u14, some (.ref p), some (.int (s : Nat)), w17] ∧ Same H19 H', ?_, ?_⟩
        · refine ⟨_, rfl, rfl, _, rfl, ?_⟩
          rcases hvf with ⟨rfl, _⟩ | ⟨p', o', h, t, vh', rfl, e21, d21, nd21, hpo, ho, hlm, h2, h01, hln, hcn, hno⟩
          · refine go_f (by simp) ?_
            exact ⟨_, _, _, _, _, _, rfl, s21⟩
          refine go_t (by simp) ?_
          refine ⟨_, rfl, t, _, rfl, SqT.of e21, rfl, _, _, rfl, _, _, rfl, _, _, rfl, rfl, ?_⟩
          obtain ⟨av, xv, rfl, qv, rv⟩ := dp_tup d21
          obtain rfl : xv = h.map oV := dpAll_eqo rv
          refine ⟨_, rfl, aO, _, _, .int (n : Int), rfl, rfl, QO (s19'.trans s21), atI_nat (j := 0) rfl, n, rfl, by omega, by omega, ?_⟩
          rw [Int.toNat_natCast]
          refine fun D hD => walk_it walk_range (fun q H' => Same H21 H' ∧ H' D = some (.lst (((List.range q).filter fun a => (h.getD a (some 0)).isNone).map fun n : Nat => V.int n))) ⟨same_new hD, upd_same⟩ (fun _ _ _ _ => trivial) ?_ ?_
          · rintro q x _ H22 hq ⟨s22, eD⟩ ⟨rfl, ex⟩
            obtain rfl := int_nat0 ex
            have hqh : q < h.length := by omega
            refine ⟨rfl, _, rfl, _, rfl, av, _, _, oV h[q], rfl, rfl, seqT s22 qv, atI_nat (by rw [List.getElem?_map, List.getElem?_eq_getElem hqh]; rfl), rfl, _, rfl, ?_⟩
            have eo : decide (oV h[q] = V.non) = (h.getD q (some 0)).isNone := by
              rw [List.getD_eq_getElem?_getD, List.getElem?_eq_getElem hqh]
              show decide (oV h[q] = V.non) = h[q].isNone
              cases h[q] <;> rfl
            have lf := List.length_filter_le (fun a => (h.getD a (some 0)).isNone) (List.range q)
            rw [List.length_range] at lf
            by_cases hb2 : (h.getD q (some 0)).isNone = true
            · refine go_t (eo.trans hb2) ?_
              refine ⟨_, rfl, _, eD, by rw [List.length_map, sizeLine_eq]; omega, same_of s22 hD, ?_⟩
              rw [upd_same, range_fil, if_pos hb2, List.map_append]
              rfl
            · refine go_f (eo.trans (Bool.eq_false_iff.mpr hb2)) ?_
              refine ⟨s22, ?_⟩
              rw [range_fil, if_neg hb2, List.append_nil]
              exact eD
          rintro H22 ⟨s22, eD⟩
          have ef : ((List.range n).filter fun a => (h.getD a (some 0)).isNone) = [p', o'] := by
            rw [show (List.range n).filter (fun a => (h.getD a (some 0)).isNone) = (List.range n).filter fun a => decide (a = p') || decide (a = o') from List.filter_congr fun a ha => hno a (List.mem_range.mp ha)]
            obtain ⟨rfl, rfl, rfl⟩ | ⟨rfl, rfl, rfl⟩ | ⟨rfl, rfl, rfl⟩ | ⟨rfl, rfl, rfl⟩ : (n = 2 ∧ p' = 0 ∧ o' = 1) ∨ (n = 3 ∧ p' = 0 ∧ o' = 1) ∨ (n = 3 ∧ p' = 0 ∧ o' = 2) ∨ (n = 3 ∧ p' = 1 ∧ o' = 2) := by omega
            · rfl
            · rfl
            · rfl
            · rfl
          rw [ef] at eD
          refine ⟨_, rfl, _, rfl, (by show 2 ≤ sizeLine; decide), fun l hl => ?_⟩
          have s23 := same_new (o := .lst [V.int (p' : Nat), V.int (o' : Nat)]) hl
          refine ⟨.list ([p', o'].map nD), .list ([p', o'].map nD), .lst (SqL.of (s23 _ _ eD)) (dpAll_mkn _), .lst (SqL.of upd_same) (dpAll_mkn [p', o']), shaped_n _, shaped_n _, _, rfl, ?_⟩
          refine go_f (by rw [SeqAt.eqv_refl _ (SeqAt.canLay_of_shaped (shaped_n _))]; rfl) ?_
          have s24 := s21.trans (s22.trans s23)
          have qv24 := seqT (s22.trans s23) qv
          have nd24 := nd21.same (s22.trans s23)
          refine ⟨_, rfl, av, _, rfl, .inr qv24, _, rfl, aO, _, _, .int (n : Int), rfl, rfl, QO (s19'.trans s24), atI_nat (j := 0) rfl, rfl, _, rfl, ?_⟩
          refine go_f (by rw [List.length_map, hln]; simp) ?_
          have hns : HeldIs s n h (.tuple (h.map oD)) := ⟨rfl, rfl, hln, hlm⟩
          have l2a : (heldAns s as h).length = s ^ 2 := by rw [heldAns_len, hcn]
          refine ⟨_, rfl, _, rfl, _, rfl, _, rfl, .int (s : Nat), .ref aO, .ref av, nD s, opT (n, as), .tuple (h.map oD), rfl, .int _, DO (s19'.trans s24), .tup qv24 (dpAll_o h), .inr ⟨s, rfl, s2, by omega, .inr ⟨n, as, O, .inr (.inr ⟨h, hns, (fun ds _ => nd24), fun H25 t5 va5 s25 e25 d25 _ => ?_⟩)⟩⟩⟩
          rw [hcn] at e25
          refine ⟨s, 2, .ref t5, heldAns s as h, rfl, .tup (SqT.of e25) (.cons (.int _) (.cons d25 .nil)), ⟨by decide, by omega⟩, l2a, fun H26 v6 s26 d26 => ?_⟩
          rw [h01] at d26
          refine ⟨(by show 2 ≤ sizeLine; decide), fun u hu' => ?_⟩
          have s27 := same_new (o := .tup [V.int 0, V.int 1]) hu'
          refine ⟨rowT [0, 1], rowT [0, 1], dp_same s27 d26, .tup (SqT.of upd_same) (dpAll_mkn [0, 1]), shaped_row _, shaped_row _, _, rfl, ?_⟩
          refine go_f (by rw [eqv_row]; rfl) ?_
          exact ⟨_, _, _, _, _, _, rfl, s24.trans (s25.trans (s26.trans s27))⟩
        rintro σ H22 ⟨u9, u10, u11, u12, u13, u14, rfl, s22⟩
        have s14 := s19'.trans s22
        refine ⟨_, rfl, _, rfl, _, rfl, p, s, n, .ref aO, as, rfl, hsn, la, hlt, dp_same (Keep.of s14).core dO, b14.same s14, hT14.ext s14, fun H23 k23 b23 t23 => ⟨true, rfl, ?_⟩⟩
        refine go_f rfl ?_
        exact ⟨_, _, _, _, _, _, _, _, _, _, _, _, _, _, rfl, (k14.trans (Keep.of s14)).trans k23, b23, t23⟩
      · rintro σ H13 ⟨w1, w2, w4, w5, w6, w7, w8, w9, w10, w11, w12, w13, w14, w17, rfl, k13, b13, hT13⟩
        refine ⟨_, rfl, (by show 3 ≤ sizeLine; decide), fun lb hlb => ?_⟩
        have g0 := same_new (o := .lst [V.ref f7, V.ref f8, V.ref f9]) hlb
        refine ⟨p, lb, _, rfl, b13.fresh hlb, b13.same g0, upd_same, by show 0 < 3; decide, by show 3 < 1000; decide, fun H17 v bt17 b17 hv => ?_⟩
        have hT17 := K02.Tabs.but (hT13.ext g0) (b13.same g0) bt17
        have k17 : Keep p H13 H17 := (Keep.of g0).trans (Keep.but bt17)
        refine ⟨hT17, fun H18 x18 hT18 => ?_⟩
        have b18 := b17.ext x18
        have k18 := k17.trans (Keep.ext x18)
        simp only [List.mem_cons, List.not_mem_nil, or_false] at hv
        rcases hv with rfl | rfl | rfl
        · have J := hT18
          refine .inl ⟨rfl, _, rfl, _, rfl, (by show 1 ≤ sizeLine; decide), fun a1 ha1 => ⟨(by show 2 ≤ sizeLine; decide), fun b1 hb1 => ⟨(by show 1 ≤ sizeLine; decide), fun a2 ha2 => ⟨(by show 2 ≤ sizeLine; decide), fun b2 hb2 => ⟨(by show 1 ≤ sizeLine; decide), fun a3 ha3 => ⟨(by show 2 ≤ sizeLine; decide), fun b3 hb3 => ⟨(by show 4 ≤ sizeLine; decide), fun l4 hl4 => ?_⟩⟩⟩⟩⟩⟩⟩
          have g7 := same_new (o := .lst [V.non, V.ref b1, V.ref b2, V.ref b3]) hl4
          have g6 := (same_new (o := .tup [V.int 1, V.ref a3]) hb3).trans g7
          have g5 := (same_new (o := .tup [V.int 0]) ha3).trans g6
          have g4 := (same_new (o := .tup [V.int 4, V.ref a2]) hb2).trans g5
          have g3 := (same_new (o := .tup [V.int 0]) ha2).trans g4
          have g2 := (same_new (o := .tup [V.int 0, V.ref a1]) hb1).trans g3
          have g1 := (same_new (o := .tup [V.int 0]) ha1).trans g2
          have bF := b18.same g1
          have hTF := hT18.ext g1
          have kF := k18.trans (Keep.of g1)
          have d1 := due_core (K := K) (c := 0) (ns := [0]) bF (g3 _ _ upd_same) (.tup (SqT.of (g2 _ _ upd_same)) (dpAll_mkn [0]))
          have d2 := due_core (K := K) (c := 4) (ns := [0]) bF (g5 _ _ upd_same) (.tup (SqT.of (g4 _ _ upd_same)) (dpAll_mkn [0]))
          have d3 := due_core (K := K) (c := 1) (ns := [0]) bF (g7 _ _ upd_same) (.tup (SqT.of (g6 _ _ upd_same)) (dpAll_mkn [0]))
          have nl4 : l4 ≠ p := fun z => by
            obtain ⟨x, y, z', e⟩ := b18
            have := (((((same_new (o := .tup [V.int 0]) ha1).trans (same_new (o := .tup [V.int 0, V.ref a1]) hb1)).trans (same_new (o := .tup [V.int 0]) ha2)).trans (same_new (o := .tup [V.int 4, V.ref a2]) hb2)).trans ((same_new (o := .tup [V.int 0]) ha3).trans (same_new (o := .tup [V.int 1, V.ref a3]) hb3))) _ _ e
            rw [z, this] at hl4
            cases hl4
          refine ⟨p, l4, _, rfl, nl4, bF, upd_same, by show 0 < 4; decide, by show 4 < 1000; decide, fun H19 v2 bt19 b19 hv2 => ?_⟩
          have kc := (Keep.but bt19).core
          obtain ⟨db, dbv, hbf⟩ : ∃ db, Dp K H19 v2 db ∧ isTable s 1 3 db = false := by
            simp only [List.mem_cons, List.not_mem_nil, or_false] at hv2
            rcases hv2 with rfl | rfl | rfl | rfl
            · exact ⟨.none, .non, rfl⟩
            · exact ⟨_, dp_same core_le (dp_same kc d1), rfl⟩
            · exact ⟨_, dp_same core_le (dp_same kc d2), rfl⟩
            · exact ⟨_, dp_same core_le (dp_same kc d3), noT1 s2⟩
          refine ⟨v2, db, s, rfl, dbv, s2, by omega, .inl ⟨hbf, ?_⟩⟩
          intro H20 dd HS hdd
          refine .inr ⟨rfl, dd, _, rfl, upd_same, fun t ht => ?_⟩
          refine ⟨_, rfl, (by show 2 ≤ sizeLine; decide), fun t2 ht2 => ⟨_, _, .tup (SqT.of (same_new ht2 _ _ upd_same)) (.cons (.str _) (.cons (.int _) .nil)), .tup (SqT.of upd_same) (.cons (.str _) (.cons (.int _) .nil)), shaped_si _ okS3, shaped_si _ okS3, _, rfl, ?_⟩⟩
          refine go_f (by rw [told_eq _ okS3]; rfl) ?_
          have tB := HS.trans ((same_new (o := .xd [("at", .int (-1))]) hdd).trans ((same_new (o := .tup [.str "operation", .int (-1)]) ht).trans (same_new (o := .tup [.str "operation", .int (-1)]) ht2)))
          have kZ := (kF.trans (Keep.but bt19)).trans (Keep.of tB)
          exact ⟨_, _, _, _, _, _, _, _, _, _, _, _, _, _, _, _, _, rfl, sqL_keep hS10 np (hk12.trans (k13.trans kZ)), (K02.Tabs.but hTF bF bt19).ext tB⟩
        · have J := hT18
          refine .inr <| .inl ⟨rfl, _, rfl, _, rfl, (by show 1 ≤ sizeLine; decide), fun a1 ha1 => ⟨(by show 2 ≤ sizeLine; decide), fun b1 hb1 => ⟨(by show 1 ≤ sizeLine; decide), fun a2 ha2 => ⟨(by show 2 ≤ sizeLine; decide), fun b2 hb2 => ⟨(by show 1 ≤ sizeLine; decide), fun a3 ha3 => ⟨(by show 2 ≤ sizeLine; decide), fun b3 hb3 => ⟨(by show 4 ≤ sizeLine; decide), fun l4 hl4 => ?_⟩⟩⟩⟩⟩⟩⟩
          have g7 := same_new (o := .lst [V.non, V.ref b1, V.ref b2, V.ref b3]) hl4
          have g6 := (same_new (o := .tup [V.int 1, V.ref a3]) hb3).trans g7
          have g5 := (same_new (o := .tup [V.int 0]) ha3).trans g6
          have g4 := (same_new (o := .tup [V.int 4, V.ref a2]) hb2).trans g5
          have g3 := (same_new (o := .tup [V.int 0]) ha2).trans g4
          have g2 := (same_new (o := .tup [V.int 0, V.ref a1]) hb1).trans g3
          have g1 := (same_new (o := .tup [V.int 0]) ha1).trans g2
          have bF := b18.same g1
          have hTF := hT18.ext g1
          have kF := k18.trans (Keep.of g1)
          have d1 := due_core (K := K) (c := 0) (ns := [0]) bF (g3 _ _ upd_same) (.tup (SqT.of (g2 _ _ upd_same)) (dpAll_mkn [0]))
          have d2 := due_core (K := K) (c := 4) (ns := [0]) bF (g5 _ _ upd_same) (.tup (SqT.of (g4 _ _ upd_same)) (dpAll_mkn [0]))
          have d3 := due_core (K := K) (c := 1) (ns := [0]) bF (g7 _ _ upd_same) (.tup (SqT.of (g6 _ _ upd_same)) (dpAll_mkn [0]))
          have nl4 : l4 ≠ p := fun z => by
            obtain ⟨x, y, z', e⟩ := b18
            have := (((((same_new (o := .tup [V.int 0]) ha1).trans (same_new (o := .tup [V.int 0, V.ref a1]) hb1)).trans (same_new (o := .tup [V.int 0]) ha2)).trans (same_new (o := .tup [V.int 4, V.ref a2]) hb2)).trans ((same_new (o := .tup [V.int 0]) ha3).trans (same_new (o := .tup [V.int 1, V.ref a3]) hb3))) _ _ e
            rw [z, this] at hl4
            cases hl4
          refine ⟨p, l4, _, rfl, nl4, bF, upd_same, by show 0 < 4; decide, by show 4 < 1000; decide, fun H19 v2 bt19 b19 hv2 => ?_⟩
          have kc := (Keep.but bt19).core
          obtain ⟨db, dbv, hbf⟩ : ∃ db, Dp K H19 v2 db ∧ isTable s 1 3 db = false := by
            simp only [List.mem_cons, List.not_mem_nil, or_false] at hv2
            rcases hv2 with rfl | rfl | rfl | rfl
            · exact ⟨.none, .non, rfl⟩
            · exact ⟨_, dp_same core_le (dp_same kc d1), rfl⟩
            · exact ⟨_, dp_same core_le (dp_same kc d2), rfl⟩
            · exact ⟨_, dp_same core_le (dp_same kc d3), noT1 s2⟩
          refine ⟨v2, db, s, rfl, dbv, s2, by omega, .inl ⟨hbf, ?_⟩⟩
          intro H20 dd HS hdd
          refine .inr ⟨rfl, dd, _, rfl, upd_same, fun t ht => ?_⟩
          refine ⟨_, rfl, (by show 2 ≤ sizeLine; decide), fun t2 ht2 => ⟨_, _, .tup (SqT.of (same_new ht2 _ _ upd_same)) (.cons (.str _) (.cons (.int _) .nil)), .tup (SqT.of upd_same) (.cons (.str _) (.cons (.int _) .nil)), shaped_si _ okS3, shaped_si _ okS3, _, rfl, ?_⟩⟩
          refine go_f (by rw [told_eq _ okS3]; rfl) ?_
          have tB := HS.trans ((same_new (o := .xd [("at", .int (-1))]) hdd).trans ((same_new (o := .tup [.str "operation", .int (-1)]) ht).trans (same_new (o := .tup [.str "operation", .int (-1)]) ht2)))
          have kZ := (kF.trans (Keep.but bt19)).trans (Keep.of tB)
          exact ⟨_, _, _, _, _, _, _, _, _, _, _, _, _, _, _, _, _, rfl, sqL_keep hS10 np (hk12.trans (k13.trans kZ)), (K02.Tabs.but hTF bF bt19).ext tB⟩
        · have J := hT18
          refine .inr <| .inr ⟨rfl, _, rfl, _, rfl, (by show 1 ≤ sizeLine; decide), fun a1 ha1 => ⟨(by show 2 ≤ sizeLine; decide), fun b1 hb1 => ⟨(by show 1 ≤ sizeLine; decide), fun a2 ha2 => ⟨(by show 2 ≤ sizeLine; decide), fun b2 hb2 => ⟨(by show 1 ≤ sizeLine; decide), fun a3 ha3 => ⟨(by show 2 ≤ sizeLine; decide), fun b3 hb3 => ⟨(by show 4 ≤ sizeLine; decide), fun l4 hl4 => ?_⟩⟩⟩⟩⟩⟩⟩
          have g7 := same_new (o := .lst [V.non, V.ref b1, V.ref b2, V.ref b3]) hl4
          have g6 := (same_new (o := .tup [V.int 1, V.ref a3]) hb3).trans g7
          have g5 := (same_new (o := .tup [V.int 0]) ha3).trans g6
          have g4 := (same_new (o := .tup [V.int 4, V.ref a2]) hb2).trans g5
          have g3 := (same_new (o := .tup [V.int 0]) ha2).trans g4
          have g2 := (same_new (o := .tup [V.int 0, V.ref a1]) hb1).trans g3
          have g1 := (same_new (o := .tup [V.int 0]) ha1).trans g2
          have bF := b18.same g1
          have hTF := hT18.ext g1
          have kF := k18.trans (Keep.of g1)
          have d1 := due_core (K := K) (c := 0) (ns := [0]) bF (g3 _ _ upd_same) (.tup (SqT.of (g2 _ _ upd_same)) (dpAll_mkn [0]))
          have d2 := due_core (K := K) (c := 4) (ns := [0]) bF (g5 _ _ upd_same) (.tup (SqT.of (g4 _ _ upd_same)) (dpAll_mkn [0]))
          have d3 := due_core (K := K) (c := 1) (ns := [0]) bF (g7 _ _ upd_same) (.tup (SqT.of (g6 _ _ upd_same)) (dpAll_mkn [0]))
          have nl4 : l4 ≠ p := fun z => by
            obtain ⟨x, y, z', e⟩ := b18
            have := (((((same_new (o := .tup [V.int 0]) ha1).trans (same_new (o := .tup [V.int 0, V.ref a1]) hb1)).trans (same_new (o := .tup [V.int 0]) ha2)).trans (same_new (o := .tup [V.int 4, V.ref a2]) hb2)).trans ((same_new (o := .tup [V.int 0]) ha3).trans (same_new (o := .tup [V.int 1, V.ref a3]) hb3))) _ _ e
            rw [z, this] at hl4
            cases hl4
          refine ⟨p, l4, _, rfl, nl4, bF, upd_same, by show 0 < 4; decide, by show 4 < 1000; decide, fun H19 v2 bt19 b19 hv2 => ?_⟩
          have kc := (Keep.but bt19).core
          obtain ⟨db, dbv, hbf⟩ : ∃ db, Dp K H19 v2 db ∧ isTable s 1 3 db = false := by
            simp only [List.mem_cons, List.not_mem_nil, or_false] at hv2
            rcases hv2 with rfl | rfl | rfl | rfl
            · exact ⟨.none, .non, rfl⟩
            · exact ⟨_, dp_same core_le (dp_same kc d1), rfl⟩
            · exact ⟨_, dp_same core_le (dp_same kc d2), rfl⟩
            · exact ⟨_, dp_same core_le (dp_same kc d3), noT1 s2⟩
          refine ⟨v2, db, s, rfl, dbv, s2, by omega, .inl ⟨hbf, ?_⟩⟩
          intro H20 dd HS hdd
          refine .inr ⟨rfl, dd, _, rfl, upd_same, fun t ht => ?_⟩
          refine ⟨_, rfl, (by show 2 ≤ sizeLine; decide), fun t2 ht2 => ⟨_, _, .tup (SqT.of (same_new ht2 _ _ upd_same)) (.cons (.str _) (.cons (.int _) .nil)), .tup (SqT.of upd_same) (.cons (.str _) (.cons (.int _) .nil)), shaped_si _ okS3, shaped_si _ okS3, _, rfl, ?_⟩⟩
          refine go_f (by rw [told_eq _ okS3]; rfl) ?_
          have tB := HS.trans ((same_new (o := .xd [("at", .int (-1))]) hdd).trans ((same_new (o := .tup [.str "operation", .int (-1)]) ht).trans (same_new (o := .tup [.str "operation", .int (-1)]) ht2)))
          have kZ := (kF.trans (Keep.but bt19)).trans (Keep.of tB)
          exact ⟨_, _, _, _, _, _, _, _, _, _, _, _, _, _, _, _, _, rfl, sqL_keep hS10 np (hk12.trans (k13.trans kZ)), (K02.Tabs.but hTF bF bt19).ext tB⟩
    · rintro σ H10 ⟨u1, u2, u3, u4, u5, u6, u7, u8, u9, u10, u11, u12, u13, u14, u15, u16, u17, rfl, hS10, hT10⟩
      exact k H10
end
end K02
namespace K02
open PySem PySem.W L2 FX
section
variable {K : Frag} {h : Heap} {mg : Str → Option Value}
theorem base_mk {b : Str} {B N : Addr} {q : Str} {bs : List Value} {sn : List Str} {sub : List Value} {ab : Bool} {col : Option Bool} {dd : Option Addr} {k0 k1 k2 k3 k5 : Option Value} (X : K.In h) (G : h.Ns mainGlobals mg)
    (a : nsIn K mainGlobals b = some (some (.ref B))) (l : K.lookup B = some (excClassObj b q B N bs tl true sn sub ab col dd k0 k1 k2 k3 k5 "Exception.__new__")) : BaseTxt K mg b B := ⟨mg_of X G a, _, _, _, _, _, _, _, _, _, _, _, _, _, l⟩
theorem err_mk {x : Str} {B C N : Addr} {q : Str} {bs : List Value} {sn : List Str} {sub : List Value} {ab : Bool} {col : Option Bool} {dd : Option Addr} {k0 k1 k2 k3 k5 : Option Value} (X : K.In h) (G : h.Ns mainGlobals mg)
    (a : nsIn K mainGlobals x = some (some (.ref C))) (l : K.lookup C = some (excClassObj x q C N bs (.ref B :: tl) true sn sub ab col dd k0 k1 k2 k3 k5 "Exception.__new__")) (c : keepIn K (.ref C) = true) : ErrTxt K mg B x C :=
  ⟨mg_of X G a, ⟨_, _, _, _, _, _, _, _, _, _, _, _, _, l⟩, c⟩
theorem init_mk {qn f : Str} {C i : Addr} {oc : Value} {od : Option Addr} {doc pm : Value} {an : Option Addr} {cdv ct : Value} {osl : Array (Option Value)} {p1 p2 q1 q2 q3 q4 : Pos} (ff : f = "at" ∨ f = "word")
    (iC : findIn K (.ref C) "__init__" = some (some (.ref i))) (sa : findIn K (.ref C) "__setattr__" = some (some (.builtin "object.__setattr__"))) (ga : findIn K (.ref C) "__getattribute__" = some (some (.builtin "BaseException.__getattribute__")))
    (gg : findIn K (.ref C) "__getattr__" = some none) (nf : findIn K (.ref C) f = some none) (tI : typeIn K (.ref i) = some (.type "function"))
    (fn : K.lookup i = some ⟨oc, od, .func (fnOf "__init__" qn (inA f p1 p2) (inB f q1 q2 q3 q4) (inS f) .none .none doc pm an cdv ct), osl⟩) (cd : codeIn K cdv qn = true) : InitTxt K qn f C i :=
  ⟨sa, ga, gg, nf, iC, tI, ⟨_, _, _, _, _, _, _, _, _, _, _, _, _, _, fn, cd⟩, ff⟩
theorem at_mk {x : Str} {st : Stmt} {f : Addr} {ps : List Str} {oc : Value} {od : Option Addr} {kV doc pm : Value} {an : Option Addr} {cdv ct : Value} {osl : Array (Option Value)} (X : K.In h) (G : h.Ns mainGlobals mg)
    (hb : ∀ (kV doc pm : Value) (an : Option Addr) (cdv ct : Value) (us : List Value), us.length = ps.length → bindArgs (fnOf x x (defArgs st) (defBody st) (defScope st) .none kV doc pm an cdv ct) ⟨us, []⟩ = pure (ps.zip us))
    (a : nsIn K mainGlobals x = some (some (.ref f))) (l : K.lookup f = some ⟨oc, od, .func (fnOf x x (defArgs st) (defBody st) (defScope st) .none kV doc pm an cdv ct), osl⟩) (c : codeIn K cdv x = true) (k : keepIn K (.ref f) = true) :
    At K mg x st f (fnOf x x (defArgs st) (defBody st) (defScope st) .none kV doc pm an cdv ct) ps := ⟨fun_mk l c k, mg_of X G a, (fun_mk (st := st) l c k).binds hb⟩
/-- a def that makes lambdas: its code object and the table of these -/
structure AtC (K : Frag) (h : Heap) (mg : Str → Option Value) (x : Str) (st : Stmt) (f c P : Addr) (fd : FuncData) (ps : List Str) : Prop where
  F : FunC K x st f c fd
  g : mg x = some (.ref f)
  b : Binds K fd ps []
  C : CodeHd h c P
  n : K.lookup P = none
  z : h.get? P = some { cls := .none, data := .fields #[] }
theorem atC_mk {x : Str} {st : Stmt} {f c P : Addr} {ps : List Str} {oc : Value} {od : Option Addr} {kV doc pm : Value} {an : Option Addr} {ct cl : Value} {osl sl : Array (Option Value)} {dd : Option Addr} {vs : Array Value} (X : K.In h) (G : h.Ns mainGlobals mg)
    (hb : ∀ (kV doc pm : Value) (an : Option Addr) (cdv ct : Value) (us : List Value), us.length = ps.length → bindArgs (fnOf x x (defArgs st) (defBody st) (defScope st) .none kV doc pm an cdv ct) ⟨us, []⟩ = pure (ps.zip us))
    (a : nsIn K mainGlobals x = some (some (.ref f))) (l : K.lookup f = some ⟨oc, od, .func (fnOf x x (defArgs st) (defBody st) (defScope st) .none kV doc pm an (.ref c) ct), osl⟩) (cd : codeIn K (.ref c) x = true) (k : keepIn K (.ref f) = true)
    (lc : K.lookup c = some ⟨cl, dd, .fields vs, sl⟩) (v : vs[11]? = some (.ref P)) (e : codeHdIn K c P = true) (n : K.lookup P = none) (z : h.get? P = some { cls := .none, data := .fields #[] }) :
    AtC K h mg x st f c P (fnOf x x (defArgs st) (defBody st) (defScope st) .none kV doc pm an (.ref c) ct) ps := ⟨⟨⟨_, _, _, _, _, _, _, _, rfl, l, cd⟩, k⟩, mg_of X G a, (fun_mk (st := st) l cd k).binds hb, codeHd_of_K X e, n, z⟩
theorem tabS_0 {H : Hp} {P : Addr} {q : Str} (e : H P = some (.tbl #[])) : LamX.TabS H P q := ⟨#[], e, trivial, fun pos cv h => nomatch h⟩
end
set_option maxHeartbeats 4000000 in
theorem all_mk {l : OpenLaw} {w : World} {K : Frag} {h : Heap} {mg : Str → Option Value} {fa B cB cO cV cS iB iO iV iS f0 f1 f2 f3 f4 f5 f6 f7 f8 f9 f10 f11 f12 f13 f14 f15 f16 f17 f18 f19 f20 f21 f22 f23 f24 f25 f26 f27 f28 f29 f30 f31 f32 f33 f34 g0 k0 t0 g1 k1 t1 : Addr} {d0 d1 d2 d3 d4 d5 d6 d7 d8 d9 d10 d11 d12 d13 d14 d15 d16 d17 d18 d19 d20 d21 d22 d23 d24 d25 d26 d27 d28 d29 d30 d31 d32 d33 d34 m0 : FuncData} {kV doc pm ct : Value} {an : Option Addr} (X : K.In h) (G : h.Ns mainGlobals mg) (hfa : mg "law" = some (.ref fa))
    (S : BaseTxt K mg "FoldError" B)
    (EB : ErrTxt K mg B "InvalidTable" cB)
    (UB : InitTxt K "InvalidTable.__init__" "at" cB iB)
    (EO : ErrTxt K mg B "InvalidOperation" cO)
    (UO : InitTxt K "InvalidOperation.__init__" "at" cO iO)
    (EV : ErrTxt K mg B "InvalidValues" cV)
    (UV : InitTxt K "InvalidValues.__init__" "at" cV iV)
    (ES : ErrTxt K mg B "InvalidSize" cS)
    (US : InitTxt K "InvalidSize.__init__" "word" cS iS)
    (D0 : At K mg "is_integer" sInteger f0 d0 ["value"])
    (D1 : At K mg "is_number" sNumber f1 d1 ["value"])
    (D2 : At K mg "is_below" sBelow f2 d2 ["many", "value"])
    (D3 : At K mg "is_between" sBetween f3 d3 ["least", "most", "value"])
    (D4 : At K mg "is_sequence" sSequence f4 d4 ["value"])
    (D5 : At K mg "is_row_of" sRowOf f5 d5 ["many", "value"])
    (D6 : At K mg "power" sPower f6 d6 ["base", "times"])
    (D7 : At K mg "product_of" sProd f7 d7 ["numbers"])
    (D8 : At K mg "all_rows" sRows f8 d8 ["choices"])
    (D9 : At K mg "spot_in" sSpot f9 d9 ["sizes", "row"])
    (D10 : At K mg "answered" sAns f10 d10 ["answers", "sizes", "rows"])
    (D11 : At K mg "left_many" sHeldN f11 d11 ["held"])
    (D12 : At K mg "held_answers" sHeldA f12 d12 ["answers", "sizes", "held"])
    (D13 : At K mg "hangs_at" sHangsA f13 d13 ["sizes", "answers", "place"])
    (D14 : At K mg "is_size" sSize f14 d14 ["value"])
    (D15 : At K mg "need_size" sNeedSize f15 d15 ["value"])
    (D16 : At K mg "is_table" sTable f16 d16 ["size", "least", "most", "value"])
    (D17 : At K mg "is_operation" sOper f17 d17 ["size", "value"])
    (D18 : At K mg "need_operation" sNeedOp f18 d18 ["size", "value"])
    (D19 : At K mg "need_held" sNeedHeld f19 d19 ["size", "places", "held"])
    (D20 : At K mg "held_table" sHT f20 d20 ["size", "operation", "held"])
    (D21 : At K mg "hung_in" sHung f21 d21 ["size", "places", "answers"])
    (D22 : At K mg "hung_places" sHungP f22 d22 ["size", "operation"])
    (D23 : At K mg "least_table" sLeast f23 d23 ["size", "operation"])
    (D24 : At K mg "two_places" sTwo f24 d24 ["size", "operation"])
    (D25 : At K mg "need_tables" sNeedT f25 d25 ["size", "many", "tables"])
    (D26 : At K mg "joined_table" sJoin f26 d26 ["size", "operation", "tables"])
    (D27 : At K mg "_law_box" sBox f27 d27 ["script", "k"])
    (D28 : At K mg "_law_take" sTake f28 d28 ["box", "many"])
    (D29 : At K mg "_law_pick" sPick f29 d29 ["box", "some"])
    (D30 : At K mg "_law_grid" sGrid f30 d30 ["size", "many"])
    (D31 : At K mg "_law_operation" sOpn f31 d31 ["box", "size"])
    (D32 : At K mg "_law_at" sAtL f32 d32 ["size", "table", "row"])
    (D33 : At K mg "_law_hung" sHungL f33 d33 ["size", "table"])
    (D34 : At K mg "_law_error" sErr f34 d34 ["work"])
    (M0 : AtC K h mg "_law_joined_right" sJR g0 k0 t0 m0 ["box", "size", "operation"])
    (M1 : AtC K h mg "law" sLaw g1 k1 t1 (fnOf "law" "law" (defArgs sLaw) (defBody sLaw) (defScope sLaw) .none kV doc pm an (.ref k1) ct) ["script"])
    (ne0_1 : (t0 == t1) = false)
    (n_int : nsIn K mainGlobals "int" = some none)
    (n_bool : nsIn K mainGlobals "bool" = some none)
    (n_list : nsIn K mainGlobals "list" = some none)
    (n_tuple : nsIn K mainGlobals "tuple" = some none)
    (n_isinstance : nsIn K mainGlobals "isinstance" = some none)
    (n_len : nsIn K mainGlobals "len" = some none)
    (n_range : nsIn K mainGlobals "range" = some none)
    (n_zip : nsIn K mainGlobals "zip" = some none)
    (n_all : nsIn K mainGlobals "all" = some none)
    (n_enumerate : nsIn K mainGlobals "enumerate" = some none)
    (n_abs : nsIn K mainGlobals "abs" = some none)
    (n_max : nsIn K mainGlobals "max" = some none)
    (n_min : nsIn K mainGlobals "min" = some none)
    (n_set : nsIn K mainGlobals "set" = some none)
    (n_repr : nsIn K mainGlobals "repr" = some none) :
    LamX.LawAtS l w K CX0 14 63 "script" mg fa h := by
  have e := hfa.symm.trans M1.g
  cases e
  have n01 : t0 ≠ t1 := fun z => by
    rw [z] at ne0_1
    simp at ne0_1
  have Z : Bi mg := ⟨mg_none_of X G n_int, mg_none_of X G n_bool, mg_none_of X G n_list, mg_none_of X G n_tuple, mg_none_of X G n_isinstance, mg_none_of X G n_len, mg_none_of X G n_range, mg_none_of X G n_zip, mg_none_of X G n_all, mg_none_of X G n_enumerate, mg_none_of X G n_abs, mg_none_of X G n_max, mg_none_of X G n_min, mg_none_of X G n_set, mg_none_of X G n_repr⟩
  have R : Ers K mg B cB iB cO iO cV iV cS iS := ⟨S, ⟨EB, UB⟩, ⟨EO, UO⟩, ⟨EV, UV⟩, ⟨ES, US⟩⟩
  refine ⟨fnOf "law" "law" (defArgs sLaw) (defBody sLaw) (defScope sLaw) .none kV doc pm an (.ref k1) ct, [(k0, t0), (k1, t1)], spLaw K [(t0, qJR), (t1, qLaw)], (List.forall_mem_cons.mpr ⟨M0.z, (List.forall_mem_cons.mpr ⟨M1.z, (fun _ h => nomatch h)⟩)⟩), (List.forall_mem_cons.mpr ⟨M0.n, (List.forall_mem_cons.mpr ⟨M1.n, (fun _ h => nomatch h)⟩)⟩), (List.forall_mem_cons.mpr ⟨M0.C, (List.forall_mem_cons.mpr ⟨M1.C, (fun _ h => nomatch h)⟩)⟩), fun s v => .of_eq rfl, fun H a ns _ _ hH hS => ⟨a, ns, rfl, hS, (List.forall_mem_cons.mpr ⟨tabS_0 (hH _ (List.mem_cons_self ..)), (List.forall_mem_cons.mpr ⟨tabS_0 (hH _ (List.mem_cons_of_mem _ (List.mem_cons_self ..))), (fun _ h => nomatch h)⟩)⟩), fun _ => rfl⟩, fun base _ _ TB => ?_⟩
  · have gInt : FnOk l.prog w K mg base CX0 1 _ _ ["value"] (spB K isI) := ok_integer D0.F Z
    have gNum : FnOk l.prog w K mg base CX0 2 _ _ ["value"] (spB K isN) := ok_number D1.F Z D0
    have gBel : FnOk l.prog w K mg base CX0 3 _ _ ["many", "value"] (spB1 K isB) := ok_below D2.F D1 gNum
    have gBet : FnOk l.prog w K mg base CX0 2 _ _ ["least", "most", "value"] (spB2 K isBt) := ok_between D3.F D0 gInt
    have gSeq : FnOk l.prog w K mg base CX0 1 _ _ ["value"] (spB K isSq) := ok_sequence D4.F Z
    have gRow : FnOk l.prog w K mg base CX0 2 _ _ ["many", "value"] (spB1 K isRow) := ok_rowOf D5.F Z D4 gSeq
    have gSize : FnOk l.prog w K mg base CX0 3 _ _ ["value"] (spB K (isBt 2 8)) := ok_size D14.F D3 gBet
    have gNS : FnOk l.prog w K mg base (L2.CX l.prog w) 4 _ _ ["value"] (spNeedSize K cS) := ok_needSize D15.F R D14 gSize
    have gTab : FnOk l.prog w K mg base CX0 4 _ _ ["size", "least", "most", "value"] (spTable K) := ok_table D16.F Z D5 gRow D6 D3 gBet D2 gBel
    have gOp : FnOk l.prog w K mg base CX0 5 _ _ ["size", "value"] (spOper K) := ok_oper D17.F D16 gTab
    have gNO : FnOk l.prog w K mg base (L2.CX l.prog w) 6 _ _ ["size", "value"] (spNeedOp K cO cS) := ok_needOp D18.F Z R D15 gNS D17 gOp
    have gNH : FnOk l.prog w K mg base (L2.CX l.prog w) 4 _ _ ["size", "places", "held"] (spNeedHeld K cV) := ok_needHeld D19.F Z R D5 gRow D2 gBel
    have gHA : FnOk l.prog w K mg base CX0 2 _ _ ["answers", "sizes", "held"] (spHeldA K) := ok_heldA D12.F Z D9 D8
    have gHT : FnOk l.prog w K mg base (L2.CX l.prog w) 7 _ _ ["size", "operation", "held"] (spHT K cO cV cS) := ok_HT D20.F Z D18 gNO D19 gNH D11 D12 gHA
    have gHg : FnOk l.prog w K mg base CX0 2 _ _ ["sizes", "answers", "place"] (spHangs K) := ok_hangs D13.F Z D7
    have gHu : FnOk l.prog w K mg base CX0 3 _ _ ["size", "places", "answers"] (spHung K) := ok_hung D21.F Z D13 gHg
    have gHp : FnOk l.prog w K mg base (L2.CX l.prog w) 7 _ _ ["size", "operation"] (spHungP K cO) := ok_hungP D22.F Z D18 gNO D21 gHu
    have gLe : FnOk l.prog w K mg base (L2.CX l.prog w) 7 _ _ ["size", "operation"] (spLeast K cO) := ok_least D23.F Z D18 gNO D21 gHu D12 gHA
    have gTw : FnOk l.prog w K mg base (L2.CX l.prog w) 7 _ _ ["size", "operation"] (spTwo K cO) := ok_two D24.F Z D18 gNO D21 gHu D12 gHA D8
    have gNT : FnOk l.prog w K mg base (L2.CX l.prog w) 5 _ _ ["size", "many", "tables"] (spNeedT K cB) := ok_needT D25.F Z R D5 gRow D16 gTab
    have gJn : FnOk l.prog w K mg base (L2.CX l.prog w) 7 _ _ ["size", "operation", "tables"] (spJoin K cB cO) := ok_join D26.F Z D18 gNO D25 gNT D10
    have gBox : FnOk l.prog w K mg base CX0 1 _ _ ["script", "k"] (spBox K) := ok_box D27.F Z
    have gTake : FnOk l.prog w K mg base CX0 1 _ _ ["box", "many"] spTake := ok_take D28.F Z
    have gPick : FnOk l.prog w K mg base CX0 2 _ _ ["box", "some"] (spPick K) := ok_pick D29.F Z D28
    have gGrid : FnOk l.prog w K mg base CX0 1 _ _ ["size", "many"] (spGrid K) := ok_grid D30.F Z
    have gOpn : FnOk l.prog w K mg base CX0 3 _ _ ["box", "size"] (spOpn K) := ok_opn D31.F Z D28 gTake D29 gPick D30 gGrid
    have gAt : FnOk l.prog w K mg base CX0 2 _ _ ["size", "table", "row"] (spAtL K) := ok_atL D32.F Z D30
    have gLh : FnOk l.prog w K mg base CX0 2 _ _ ["size", "table"] (spHungL K) := ok_hungL D33.F Z D30
    have gJR := ok_JR (T := [(t0, qJR), (t1, qLaw)]) M0.F Z R (Fs.mk D28 gTake D29 gPick D30 gGrid D32 gAt D20 gHT D26 gJn D34) (TB _ (List.mem_cons_self ..)) (List.mem_cons_self ..) (List.forall_mem_cons.mpr ⟨fun _ => rfl, (List.forall_mem_cons.mpr ⟨fun z => absurd z (Ne.symm n01), (fun _ h => nomatch h)⟩)⟩)
    exact ok_law (T := [(t0, qJR), (t1, qLaw)]) M1.F Z R (Gs.mk D27 gBox D28 gTake D29 gPick D30 gGrid D31 gOpn D32 gAt D33 gLh D22 gHp D23 gLe D24 gTw D20 gHT M0.g M0.F.kp M0.b gJR D34) (TB _ (List.mem_cons_of_mem _ (List.mem_cons_self ..))) (List.mem_cons_of_mem _ (List.mem_cons_self ..)) (List.forall_mem_cons.mpr ⟨fun z => absurd z n01, (List.forall_mem_cons.mpr ⟨fun _ => rfl, (fun _ h => nomatch h)⟩)⟩)
end K02
open PySem PySem.W PyProof.Rows
set_option maxRecDepth 100000 in
set_option maxHeartbeats 0 in
theorem PySem.Challenge.cw_foldsall_k02_whole_places_on_which_opera_holds : PySem.Challenge.rw_foldsall_k02_whole_places_on_which_opera.Holds := by
  w_on; o_law; k_head; (case hw => w_witness2)
  k_fill
  refine LamX.walk_ofTs (l := PySem.Challenge.rw_foldsall_k02_whole_places_on_which_opera) (n := 63) (k := 14) (x := "script") (CX := fun _ => L2.CX0) rfl (by decide) rfl ⟨rfl, by decide, by decide⟩ (fun w h Y => PySem.W.km_in_of Y) ?F fun _ _ _ _ _ z => z
  case F =>
    intro w mg fa h Y KX G hmg
    refine' K02.all_mk KX G hmg ?S ?EB ?UB ?EO ?UO ?EV ?UV ?ES ?US ?D0 ?D1 ?D2 ?D3 ?D4 ?D5 ?D6 ?D7 ?D8 ?D9 ?D10 ?D11 ?D12 ?D13 ?D14 ?D15 ?D16 ?D17 ?D18 ?D19 ?D20 ?D21 ?D22 ?D23 ?D24 ?D25 ?D26 ?D27 ?D28 ?D29 ?D30 ?D31 ?D32 ?D33 ?D34 ?M0 ?M1 ?ne0_1 ?n_int ?n_bool ?n_list ?n_tuple ?n_isinstance ?n_len ?n_range ?n_zip ?n_all ?n_enumerate ?n_abs ?n_max ?n_min ?n_set ?n_repr
    (case S => (refine' K02.base_mk KX G ?a ?l; (case a => k_is); (case l => k_is)))
    (case EB => (refine' K02.err_mk KX G ?a ?l ?c; (case a => k_is); (case l => k_is); (case c => k_is)))
    (case UB => (refine' K02.init_mk (Or.inl rfl) ?a ?b ?c ?d ?e ?f ?g ?h; (case a => k_is); (case b => k_is); (case c => k_is); (case d => k_is); (case e => k_is); (case f => k_is); (case g => k_is); (case h => k_is)))
    (case EO => (refine' K02.err_mk KX G ?a ?l ?c; (case a => k_is); (case l => k_is); (case c => k_is)))
    (case UO => (refine' K02.init_mk (Or.inl rfl) ?a ?b ?c ?d ?e ?f ?g ?h; (case a => k_is); (case b => k_is); (case c => k_is); (case d => k_is); (case e => k_is); (case f => k_is); (case g => k_is); (case h => k_is)))
    (case EV => (refine' K02.err_mk KX G ?a ?l ?c; (case a => k_is); (case l => k_is); (case c => k_is)))
    (case UV => (refine' K02.init_mk (Or.inl rfl) ?a ?b ?c ?d ?e ?f ?g ?h; (case a => k_is); (case b => k_is); (case c => k_is); (case d => k_is); (case e => k_is); (case f => k_is); (case g => k_is); (case h => k_is)))
    (case ES => (refine' K02.err_mk KX G ?a ?l ?c; (case a => k_is); (case l => k_is); (case c => k_is)))
    (case US => (refine' K02.init_mk (Or.inr rfl) ?a ?b ?c ?d ?e ?f ?g ?h; (case a => k_is); (case b => k_is); (case c => k_is); (case d => k_is); (case e => k_is); (case f => k_is); (case g => k_is); (case h => k_is)))
    (case D0 => (refine' K02.at_mk KX G (fun _ _ _ _ _ _ us hl => match us, hl with | [_], _ => rfl) ?a ?l ?c ?k; (case a => k_is); (case l => k_is); (case c => k_is); (case k => k_is)))
    (case D1 => (refine' K02.at_mk KX G (fun _ _ _ _ _ _ us hl => match us, hl with | [_], _ => rfl) ?a ?l ?c ?k; (case a => k_is); (case l => k_is); (case c => k_is); (case k => k_is)))
    (case D2 => (refine' K02.at_mk KX G (fun _ _ _ _ _ _ us hl => match us, hl with | [_, _], _ => rfl) ?a ?l ?c ?k; (case a => k_is); (case l => k_is); (case c => k_is); (case k => k_is)))
    (case D3 => (refine' K02.at_mk KX G (fun _ _ _ _ _ _ us hl => match us, hl with | [_, _, _], _ => rfl) ?a ?l ?c ?k; (case a => k_is); (case l => k_is); (case c => k_is); (case k => k_is)))
    (case D4 => (refine' K02.at_mk KX G (fun _ _ _ _ _ _ us hl => match us, hl with | [_], _ => rfl) ?a ?l ?c ?k; (case a => k_is); (case l => k_is); (case c => k_is); (case k => k_is)))
    (case D5 => (refine' K02.at_mk KX G (fun _ _ _ _ _ _ us hl => match us, hl with | [_, _], _ => rfl) ?a ?l ?c ?k; (case a => k_is); (case l => k_is); (case c => k_is); (case k => k_is)))
    (case D6 => (refine' K02.at_mk KX G (fun _ _ _ _ _ _ us hl => match us, hl with | [_, _], _ => rfl) ?a ?l ?c ?k; (case a => k_is); (case l => k_is); (case c => k_is); (case k => k_is)))
    (case D7 => (refine' K02.at_mk KX G (fun _ _ _ _ _ _ us hl => match us, hl with | [_], _ => rfl) ?a ?l ?c ?k; (case a => k_is); (case l => k_is); (case c => k_is); (case k => k_is)))
    (case D8 => (refine' K02.at_mk KX G (fun _ _ _ _ _ _ us hl => match us, hl with | [_], _ => rfl) ?a ?l ?c ?k; (case a => k_is); (case l => k_is); (case c => k_is); (case k => k_is)))
    (case D9 => (refine' K02.at_mk KX G (fun _ _ _ _ _ _ us hl => match us, hl with | [_, _], _ => rfl) ?a ?l ?c ?k; (case a => k_is); (case l => k_is); (case c => k_is); (case k => k_is)))
    (case D10 => (refine' K02.at_mk KX G (fun _ _ _ _ _ _ us hl => match us, hl with | [_, _, _], _ => rfl) ?a ?l ?c ?k; (case a => k_is); (case l => k_is); (case c => k_is); (case k => k_is)))
    (case D11 => (refine' K02.at_mk KX G (fun _ _ _ _ _ _ us hl => match us, hl with | [_], _ => rfl) ?a ?l ?c ?k; (case a => k_is); (case l => k_is); (case c => k_is); (case k => k_is)))
    (case D12 => (refine' K02.at_mk KX G (fun _ _ _ _ _ _ us hl => match us, hl with | [_, _, _], _ => rfl) ?a ?l ?c ?k; (case a => k_is); (case l => k_is); (case c => k_is); (case k => k_is)))
    (case D13 => (refine' K02.at_mk KX G (fun _ _ _ _ _ _ us hl => match us, hl with | [_, _, _], _ => rfl) ?a ?l ?c ?k; (case a => k_is); (case l => k_is); (case c => k_is); (case k => k_is)))
    (case D14 => (refine' K02.at_mk KX G (fun _ _ _ _ _ _ us hl => match us, hl with | [_], _ => rfl) ?a ?l ?c ?k; (case a => k_is); (case l => k_is); (case c => k_is); (case k => k_is)))
    (case D15 => (refine' K02.at_mk KX G (fun _ _ _ _ _ _ us hl => match us, hl with | [_], _ => rfl) ?a ?l ?c ?k; (case a => k_is); (case l => k_is); (case c => k_is); (case k => k_is)))
    (case D16 => (refine' K02.at_mk KX G (fun _ _ _ _ _ _ us hl => match us, hl with | [_, _, _, _], _ => rfl) ?a ?l ?c ?k; (case a => k_is); (case l => k_is); (case c => k_is); (case k => k_is)))
    (case D17 => (refine' K02.at_mk KX G (fun _ _ _ _ _ _ us hl => match us, hl with | [_, _], _ => rfl) ?a ?l ?c ?k; (case a => k_is); (case l => k_is); (case c => k_is); (case k => k_is)))
    (case D18 => (refine' K02.at_mk KX G (fun _ _ _ _ _ _ us hl => match us, hl with | [_, _], _ => rfl) ?a ?l ?c ?k; (case a => k_is); (case l => k_is); (case c => k_is); (case k => k_is)))
    (case D19 => (refine' K02.at_mk KX G (fun _ _ _ _ _ _ us hl => match us, hl with | [_, _, _], _ => rfl) ?a ?l ?c ?k; (case a => k_is); (case l => k_is); (case c => k_is); (case k => k_is)))
    (case D20 => (refine' K02.at_mk KX G (fun _ _ _ _ _ _ us hl => match us, hl with | [_, _, _], _ => rfl) ?a ?l ?c ?k; (case a => k_is); (case l => k_is); (case c => k_is); (case k => k_is)))
    (case D21 => (refine' K02.at_mk KX G (fun _ _ _ _ _ _ us hl => match us, hl with | [_, _, _], _ => rfl) ?a ?l ?c ?k; (case a => k_is); (case l => k_is); (case c => k_is); (case k => k_is)))
    (case D22 => (refine' K02.at_mk KX G (fun _ _ _ _ _ _ us hl => match us, hl with | [_, _], _ => rfl) ?a ?l ?c ?k; (case a => k_is); (case l => k_is); (case c => k_is); (case k => k_is)))
    (case D23 => (refine' K02.at_mk KX G (fun _ _ _ _ _ _ us hl => match us, hl with | [_, _], _ => rfl) ?a ?l ?c ?k; (case a => k_is); (case l => k_is); (case c => k_is); (case k => k_is)))
    (case D24 => (refine' K02.at_mk KX G (fun _ _ _ _ _ _ us hl => match us, hl with | [_, _], _ => rfl) ?a ?l ?c ?k; (case a => k_is); (case l => k_is); (case c => k_is); (case k => k_is)))
    (case D25 => (refine' K02.at_mk KX G (fun _ _ _ _ _ _ us hl => match us, hl with | [_, _, _], _ => rfl) ?a ?l ?c ?k; (case a => k_is); (case l => k_is); (case c => k_is); (case k => k_is)))
    (case D26 => (refine' K02.at_mk KX G (fun _ _ _ _ _ _ us hl => match us, hl with | [_, _, _], _ => rfl) ?a ?l ?c ?k; (case a => k_is); (case l => k_is); (case c => k_is); (case k => k_is)))
    (case D27 => (refine' K02.at_mk KX G (fun _ _ _ _ _ _ us hl => match us, hl with | [_, _], _ => rfl) ?a ?l ?c ?k; (case a => k_is); (case l => k_is); (case c => k_is); (case k => k_is)))
    (case D28 => (refine' K02.at_mk KX G (fun _ _ _ _ _ _ us hl => match us, hl with | [_, _], _ => rfl) ?a ?l ?c ?k; (case a => k_is); (case l => k_is); (case c => k_is); (case k => k_is)))
    (case D29 => (refine' K02.at_mk KX G (fun _ _ _ _ _ _ us hl => match us, hl with | [_, _], _ => rfl) ?a ?l ?c ?k; (case a => k_is); (case l => k_is); (case c => k_is); (case k => k_is)))
    (case D30 => (refine' K02.at_mk KX G (fun _ _ _ _ _ _ us hl => match us, hl with | [_, _], _ => rfl) ?a ?l ?c ?k; (case a => k_is); (case l => k_is); (case c => k_is); (case k => k_is)))
    (case D31 => (refine' K02.at_mk KX G (fun _ _ _ _ _ _ us hl => match us, hl with | [_, _], _ => rfl) ?a ?l ?c ?k; (case a => k_is); (case l => k_is); (case c => k_is); (case k => k_is)))
    (case D32 => (refine' K02.at_mk KX G (fun _ _ _ _ _ _ us hl => match us, hl with | [_, _, _], _ => rfl) ?a ?l ?c ?k; (case a => k_is); (case l => k_is); (case c => k_is); (case k => k_is)))
    (case D33 => (refine' K02.at_mk KX G (fun _ _ _ _ _ _ us hl => match us, hl with | [_, _], _ => rfl) ?a ?l ?c ?k; (case a => k_is); (case l => k_is); (case c => k_is); (case k => k_is)))
    (case D34 => (refine' K02.at_mk KX G (fun _ _ _ _ _ _ us hl => match us, hl with | [_], _ => rfl) ?a ?l ?c ?k; (case a => k_is); (case l => k_is); (case c => k_is); (case k => k_is)))
    (case M0 => (refine' K02.atC_mk KX G (fun _ _ _ _ _ _ us hl => match us, hl with | [_, _, _], _ => rfl) ?a ?l ?c ?k ?lc ?v ?e ?n ?z; (case a => k_is); (case l => k_is); (case c => k_is); (case k => k_is); (case lc => k_is); (case v => rfl); (case e => kernel_rfl); (case n => kernel_rfl); (case z => exact PySem.W.km_tabs_of Y _ (by simp))))
    (case M1 => (refine' K02.atC_mk KX G (fun _ _ _ _ _ _ us hl => match us, hl with | [_], _ => rfl) ?a ?l ?c ?k ?lc ?v ?e ?n ?z; (case a => k_is); (case l => k_is); (case c => k_is); (case k => k_is); (case lc => k_is); (case v => rfl); (case e => kernel_rfl); (case n => kernel_rfl); (case z => exact PySem.W.km_tabs_of Y _ (by simp))))
    (case ne0_1 => rfl)
    (case n_int => k_is)
    (case n_bool => k_is)
    (case n_list => k_is)
    (case n_tuple => k_is)
    (case n_isinstance => k_is)
    (case n_len => k_is)
    (case n_range => k_is)
    (case n_zip => k_is)
    (case n_all => k_is)
    (case n_enumerate => k_is)
    (case n_abs => k_is)
    (case n_max => k_is)
    (case n_min => k_is)
    (case n_set => k_is)
    (case n_repr => k_is)
#print axioms PySem.Challenge.cw_foldsall_k02_whole_places_on_which_opera_holds
