import PyProof.Rows.All
import Wide.All
import OpenK.AllK
import Wide.FinOn
import PyProof.EqAt
import PyProof.EqKinds
import PyProof.TupleCall
import KE.KExcInit
import HandS.ExcOwn
import HandS.Words
import HandS.WordsList
import HandS.TryMany
import HandS.WordsExc
import HandS.ForMost
import HandS.ForExc
import HandS.IsInst
import HandS.Zip
import HandS.Walk
import HandS.Conv
import HandS.Star
import HandS.TupAny
import KE.GoesNew
import KE.GoesMore
import KE.GoesEnum
import HandS.Deep
import HandS.SetFor
import HandS.TryOnly
import KE.DataMinMax
import HandS.Style
import HandS.Comp
import HandS.Lambda
import HandS.TupMul
import HandS.Set
import HandS.RaiseMore
import HandS.Codes
import KE.KLam
import HandS.HeadEnd
import HandS.EndTab
import PySem.Challenge.RW_foldsall_k46_whole_one_place_or_two_at_w
set_option Elab.async false
set_option linter.all false
set_option maxRecDepth 100000
set_option maxHeartbeats 8000000
/-! Error classes over a base class of the program over Exception, one field or none: made, raised, named by a clause. -/
namespace FX
open PySem PySem.W PySem.Calls PyProof.Rows PySem.HandSPX
/-! ### what the written part says of the classes -/
abbrev tl : List Value := [.type "Exception", .type "BaseException", .type "object"]
/-- the base class, at B -/
structure BaseTxt (K : Frag) (mg : Str → Option Value) (b : Str) (B : Addr) : Prop where
  gB : mg b = some (.ref B)
  at_ : ∃ q N bs sn sub ab col dd k0 k1 k2 k3 k5, K.lookup B = some (excClassObj b q B N bs tl true sn sub ab col dd k0 k1 k2 k3 k5 "Exception.__new__")
/-- a class called x at C, over the one at B -/
structure ErrTxt (K : Frag) (mg : Str → Option Value) (B : Addr) (x : Str) (C : Addr) : Prop where
  gC : mg x = some (.ref C)
  at_ : ∃ q N bs sn sub ab col dd k0 k1 k2 k3 k5, K.lookup C = some (excClassObj x q C N bs (.ref B :: tl) true sn sub ab col dd k0 k1 k2 k3 k5 "Exception.__new__")
  kC : keepIn K (.ref C) = true
theorem cls_of {K : Frag} {x q : Str} {C N : Addr} {bs bm : List Value} {hd : Bool} {sn : List Str} {sub : List Value} {ab : Bool} {col : Option Bool} {dd : Option Addr} {k0 k1 k2 k3 k5 : Option Value} {ni : String}
    (h : K.lookup C = some (excClassObj x q C N bs bm hd sn sub ab col dd k0 k1 k2 k3 k5 ni)) :
    clsIn K C = some { name := x, bases := bs, mro := .ref C :: bm, ns := N, qualname := q, hasDict := hd, slotNames := sn, subclasses := sub, abstract := ab, collection := col, hasDel := false } := by
  unfold clsIn
  rw [h]
theorem mro_of {K : Frag} {x q : Str} {C N : Addr} {bs bm : List Value} {hd : Bool} {sn : List Str} {sub : List Value} {ab : Bool} {col : Option Bool} {dd : Option Addr} {k0 k1 k2 k3 k5 : Option Value} {ni : String}
    (h : K.lookup C = some (excClassObj x q C N bs bm hd sn sub ab col dd k0 k1 k2 k3 k5 ni)) (v : Value) : subIn K (.ref C) v = some ((Value.ref C :: bm).contains v) := by
  show mroIn K C v = _
  unfold mroIn
  rw [cls_of h]
  rfl
theorem ty_of {K : Frag} {x q : Str} {C N : Addr} {bs bm : List Value} {hd : Bool} {sn : List Str} {sub : List Value} {ab : Bool} {col : Option Bool} {dd : Option Addr} {k0 k1 k2 k3 k5 : Option Value} {ni : String}
    (h : K.lookup C = some (excClassObj x q C N bs bm hd sn sub ab col dd k0 k1 k2 k3 k5 ni)) : typeIn K (.ref C) = some (.type "type") := by
  show (K.lookup C).map (·.cls) = _
  rw [h]
  rfl
/-- whether «except D» names an error of the class C -/
theorem exm_of {K : Frag} {cls : Value} {y q : Str} {D N : Addr} {bs bm : List Value} {hd : Bool} {sn : List Str} {sub : List Value} {ab : Bool} {col : Option Bool} {dd : Option Addr} {k0 k1 k2 k3 k5 : Option Value} {ni : String} {r : Bool}
    (h : K.lookup D = some (excClassObj y q D N bs bm hd sn sub ab col dd k0 k1 k2 k3 k5 ni)) (hb : bm.contains (.type "BaseException") = true) (hs : subIn K cls (.ref D) = some r) : exmOne K cls (.ref D) = some r := by
  have e1 : subIn K (.ref D) (.type "BaseException") = some true := by
    rw [mro_of h, List.contains_cons, hb, Bool.or_true]
  unfold exmOne
  rw [e1, if_pos (by decide)]
  have e2 : ((clsIn K D).isSome && typeIn K (.ref D) == some (.type "type")) = true := by
    rw [cls_of h, ty_of h]
    rfl
  show (if ((clsIn K D).isSome && typeIn K (.ref D) == some (.type "type")) = true then subIn K cls (.ref D) else none) = _
  rw [if_pos e2]
  exact hs
variable {K : Frag} {mg : Str → Option Value} {b x y : Str} {B C D : Addr}
theorem ErrTxt.sub (T : ErrTxt K mg B x C) : subIn K (.ref C) (.type "BaseException") = some true := by
  obtain ⟨q, N, bs, sn, sub, ab, col, dd, k0, k1, k2, k3, k5, h⟩ := T.at_
  rw [mro_of h]
  rfl
theorem ErrTxt.ty (T : ErrTxt K mg B x C) : typeIn K (.ref C) = some (.type "type") := by
  obtain ⟨q, N, bs, sn, sub, ab, col, dd, k0, k1, k2, k3, k5, h⟩ := T.at_
  exact ty_of h
theorem ErrTxt.dict (T : ErrTxt K mg B x C) : hasDictIn K C = true := by
  obtain ⟨q, N, bs, sn, sub, ab, col, dd, k0, k1, k2, k3, k5, h⟩ := T.at_
  unfold hasDictIn
  rw [cls_of h]
  rfl
theorem ErrTxt.over (T : ErrTxt K mg B x C) : excOver K C tl = true := by
  obtain ⟨q, N, bs, sn, sub, ab, col, dd, k0, k1, k2, k3, k5, h⟩ := T.at_
  unfold excOver
  rw [cls_of h]
  show (C == C && excTail tl (.ref B :: tl)) = true
  rw [beq_self_eq_true]
  show excTail tl tl = true
  decide +kernel
theorem ErrTxt.ne (T : ErrTxt K mg B x C) (U : ErrTxt K mg B y D) (h : x ≠ y) : C ≠ D := by
  obtain ⟨q, N, bs, sn, sub, ab, col, dd, k0, k1, k2, k3, k5, h1⟩ := T.at_
  obtain ⟨q', N', bs', sn', sub', ab', col', dd', k0', k1', k2', k3', k5', h2⟩ := U.at_
  intro e
  subst e
  rw [h1] at h2
  injection h2 with h2
  injection h2 with _ _ h2 _
  injection h2 with h2
  injection h2 with h2
  exact h h2
theorem ErrTxt.neB (T : ErrTxt K mg B x C) (U : BaseTxt K mg b D) (h : x ≠ b) : C ≠ D := by
  obtain ⟨q, N, bs, sn, sub, ab, col, dd, k0, k1, k2, k3, k5, h1⟩ := T.at_
  obtain ⟨q', N', bs', sn', sub', ab', col', dd', k0', k1', k2', k3', k5', h2⟩ := U.at_
  intro e
  subst e
  rw [h1] at h2
  injection h2 with h2
  injection h2 with _ _ h2 _
  injection h2 with h2
  injection h2 with h2
  exact h h2
/-- its own clause names it -/
theorem ErrTxt.own (T : ErrTxt K mg B x C) : exmOne K (.ref C) (.ref C) = some true := by
  obtain ⟨q, N, bs, sn, sub, ab, col, dd, k0, k1, k2, k3, k5, h⟩ := T.at_
  refine exm_of h rfl ?_
  rw [mro_of h, List.contains_cons, beq_self_eq_true, Bool.true_or]
/-- another's doesn't -/
theorem ErrTxt.other (T : ErrTxt K mg B x C) (S : BaseTxt K mg b B) (U : ErrTxt K mg B y D) (h : x ≠ y) (hb : y ≠ b) : exmOne K (.ref C) (.ref D) = some false := by
  have n1 : C ≠ D := T.ne U h
  have n2 : D ≠ B := U.neB S hb
  obtain ⟨q, N, bs, sn, sub, ab, col, dd, k0, k1, k2, k3, k5, h1⟩ := T.at_
  obtain ⟨q', N', bs', sn', sub', ab', col', dd', k0', k1', k2', k3', k5', h2⟩ := U.at_
  refine exm_of h2 rfl ?_
  rw [mro_of h1]
  have e1 : (Value.ref D == Value.ref C) = false := by simpa using fun z : D = C => n1 z.symm
  have e2 : (Value.ref D == Value.ref B) = false := by simpa using n2
  rw [List.contains_cons, List.contains_cons, e1, e2]
  rfl
/-- the base's does -/
theorem ErrTxt.base (T : ErrTxt K mg B x C) (S : BaseTxt K mg b B) : exmOne K (.ref C) (.ref B) = some true := by
  obtain ⟨q, N, bs, sn, sub, ab, col, dd, k0, k1, k2, k3, k5, h1⟩ := T.at_
  obtain ⟨q', N', bs', sn', sub', ab', col', dd', k0', k1', k2', k3', k5', h2⟩ := S.at_
  refine exm_of h2 rfl ?_
  rw [mro_of h1, List.contains_cons, List.contains_cons, beq_self_eq_true, Bool.true_or, Bool.or_true]
end FX
/-! The one-field __init__ of an error, and the making of the error. -/
namespace FX
open PySem PySem.W PySem.Calls PyProof.Rows PySem.HandSPX
def inA (f : Str) (p1 p2 : Pos) : Arguments := { posonlyargs := [], args := [{ arg := "self", annotation := none, pos := p1 }, { arg := f, annotation := none, pos := p2 }], vararg := none, kwonlyargs := [], kw_defaults := [], kwarg := none, defaults := [] }
def inB (f : Str) (q1 q2 q3 q4 : Pos) : List Stmt := [.Assign [.Attribute (.Name "self" q1) f q2] (.Name f q3) q4]
def inS (f : Str) : Scope := { kind := .function, names := [(PySem.Str.ofString "self", .local), (f, .local)], isGenerator := false, isCoroutine := false, more := [] }
/-- what the written part says of the __init__ (at i) of the class at C: it stores its one argument under f -/
structure InitTxt (K : Frag) (qn f : Str) (C i : Addr) : Prop where
  sa : findIn K (.ref C) "__setattr__" = some (some (.builtin "object.__setattr__"))
  ga : findIn K (.ref C) "__getattribute__" = some (some (.builtin "BaseException.__getattribute__"))
  gg : findIn K (.ref C) "__getattr__" = some none
  noF : findIn K (.ref C) f = some none
  iC : findIn K (.ref C) "__init__" = some (some (.ref i))
  tI : typeIn K (.ref i) = some (.type "function")
  fn : ∃ (oc : Value) (od : Option Addr) (doc pm : Value) (an : Option Addr) (cdv ct : Value) (osl : Array (Option Value)) (p1 p2 q1 q2 q3 q4 : Pos),
    K.lookup i = some ⟨oc, od, .func (fnOf "__init__" qn (inA f p1 p2) (inB f q1 q2 q3 q4) (inS f) .none .none doc pm an cdv ct), osl⟩ ∧ codeIn K cdv qn = true
  ff : f = "at" ∨ f = "word"
theorem InitTxt.taker {K : Frag} {qn f : Str} {C i : Addr} (T : InitTxt K qn f C i) : takerIn K C f = some none := by
  unfold takerIn
  rw [T.noF]
  rfl
/-- an attribute stored into an exception that has none yet -/
theorem store_first {prog : Program} {w : World} {A : Around} {R : Result → Shared → Prop} {hp : Heap} {g : Array GenState} {d : Drawn} {t : Nat} {os : OsState} {K : Frag} {f : Str} {tk : Tok} {v : Value} {x C : Addr} {fv : Array Value}
    (X : K.In hp) (hx : hp.get? x = some { cls := .ref C, data := .fields fv }) (ho : excOver K C tl = true) (hh : hasDictIn K C = true) (ht : takerIn K C f = some none)
    (hq : ∀ h' tk' dx, (∀ b o, b ≠ x → hp.get? b = some o → h'.get? b = some o) → hp.objs.size ≤ dx → dx ≠ x → h'.get? x = some { cls := .ref C, dict := some dx, data := .fields fv } →
      h'.Ns1 dx (fun y => if y = f then some v else none) → R (.ok (.ret .none)) ⟨h', g, d, tk', os⟩) :
    codeAny (model prog w) A (.call (.builtin "object.__setattr__") ⟨[.ref x, .str f tk, v], []⟩) R ⟨hp, g, d, t, os⟩ := by
  have ne : x ≠ hp.objs.size := Nat.ne_of_lt (Heap.lt_size hx)
  refine osa_openX (od := none) (ox := { cls := .ref C, data := .fields fv }) F.store_Exception X ⟨hx, rfl, rfl, trivial⟩ ho ht fun b => ?_
  obtain ⟨cd, hc, hd⟩ := any_some hh
  have Lc : Looks (model prog w) hp (classData C) cd := looks_clsIn X hc
  obtain ⟨nm, bs, mro, ns, qn, hd', sn, sb, ab, col, del⟩ := cd
  dsimp only at hd
  subst hd
  show wpAny _ _ (Builtin.ObjectAttr.storeInOwnDict (.ref x) (.ref C) (.str f tk) f v b) _ _ _
  unfold Builtin.ObjectAttr.storeInOwnDict Builtin.ObjectAttr.ownDictForStores
  repeat (first | (with_reducible refine store_in_new ?_ ?_) | (with_reducible refine wpAny_loadPart_at hx ?_) | (with_reducible refine Lc.at ?_) | wp_step)
  · refine ⟨_, #[], _, (Heap.get?_update_ne _ _ _ _ (Ne.symm ne)).trans (Heap.get?_push_at rfl rfl), rfl, fun e he => ?_, fun _ => rfl⟩
    simp at he
  · intro h' tk' n1 sb'
    have hx1 : (hp.push { cls := .type "dict", data := .dict #[] }).get? x = some { cls := .ref C, data := .fields fv } := Heap.get?_push_of_some _ hx
    refine hq h' tk' hp.objs.size (fun c o hc ho' => ?_) (Nat.le_refl _) (Ne.symm ne) ?_ n1
    · rw [sb'.2 c (Nat.ne_of_lt (Heap.lt_size ho')), Heap.get?_update_ne _ _ _ _ hc]
      exact Heap.get?_push_of_some _ ho'
    · rw [sb'.2 x ne]
      exact Heap.get?_update_self _ hx1 rfl
end FX
namespace FX
open PySem PySem.W PySem.Calls PyProof.Rows PySem.HandSPX
/-- a local name is read -/
theorem local_read {M : Model} {s : Shared} {nm : Str} {sc : Scope} {L a : Addr} {cd : Value} {m : Str → Option Value} {y : Str} {pos : Pos} {v : Value} {Q : Value → Shared → Prop} {A : Around} {E : Value → Shared → Prop}
    (hn : s.heap.Ns L m) (hv : m y = some v) (h : Q v s) (hk : sc.kind = .function := by rfl) (hl : (envOfC nm sc L a cd).kindOf y = some .local := by rfl) (hd : (y == ("__debug__" : Str)) = false := by decide) :
    wpAny M A (eval (.Name y pos) (envOfC nm sc L a cd)) Q E s :=
  wpAny_Name (wpAny_loadName_local hk hl hn hv h) hd
/-- the error at a behind its __init__: its dict at dx holds f -/
structure Inited (h h' : Heap) (a C dx t1 : Addr) (f : Str) (v : Value) : Prop where
  stay : ∀ c o, c ≠ a → h.get? c = some o → h'.get? c = some o
  it : h'.get? a = some { cls := .ref C, dict := some dx, data := .fields #[.ref t1, .none, .none, .none, .bool false, .none] }
  up : h.objs.size ≤ dx
  ne : dx ≠ a
  has : h'.Ns1 dx (fun y => if y = f then some v else none)
section
variable {prog : Program} {w : World} {A : Around} {E : Value → Shared → Prop} {R : Result → Shared → Prop} {s : Shared} {K : Frag} {mg : Str → Option Value} {b x qn f : Str} {B C i : Addr}
theorem init_run (T : ErrTxt K mg B x C) (U : InitTxt K qn f C i) {a t0 : Addr} {v : Value} (X : K.In s.heap) (hlim : s.heap.NoLimit) (ha : s.heap.get? a = some (excO C t0)) (hroom : A.depth < recursionLimit)
    (hq : ∀ h' tk dx, Inited s.heap h' a C dx t0 f v → R (.ok (.ret .none)) { s with heap := h', toks := tk }) : codeAny (model prog w) A (.call (.ref i) ⟨[.ref a, v], []⟩) R s := by
  have hdict := T.dict
  have hover := T.over
  have htk := U.taker
  obtain ⟨oc, od, doc, pm, an, cdv, ct, osl, p1, p2, q1, q2, q3, q4, hfn, hcd⟩ := U.fn
  have hsa := U.sa
  rcases U.ff with e | e
  all_goals
    subst e
    refine Att.call_fn (binds := [("self", .ref a), (_, v)]) X hlim hfn hcd hroom (BindsTo.of_eq (by first | rfl | with_unfolding_all rfl)) (by first | rfl | decide | with_unfolding_all rfl) (fun s1 IC => ?_) rfl rfl rfl
    obtain ⟨h1, tk1, rfl⟩ := IC.toInCall.same
    have kp : ∀ c o, s.heap.get? c = some o → h1.get? c = some o := IC.toInCall.keep
    have ns := IC.toInCall.ns
    have X1 : K.In h1 := X.keeps kp
    have a1 := kp _ _ ha
    show wpAny _ _ (execs _ _) _ _ _
    refine wpAny_execs_cons (plainObj_wpAny_Assign_Attribute ?_)
    refine local_read (v := v) ns (by first | rfl | with_unfolding_all rfl | kernel_rfl) ?_
    refine local_read (v := .ref a) ns (by first | rfl | with_unfolding_all rfl | kernel_rfl) ?_
    refine set_plain X1 (ox := excO C t0) (od := none) ⟨a1, rfl, rfl, trivial⟩ hsa ?_
    refine store_first X1 a1 hover hdict htk (fun h3 tk3 dx k3 dn dne a3 n3 => ?_)
    show wpAny _ _ (execs _ _) _ _ _
    have lt : s.heap.objs.size < h1.objs.size := ns.lt
    exact wpAny_execs_nil (hq h3 tk3 dx ⟨fun c o hc e => k3 c o hc (kp c o e), a3, Nat.le_of_lt (Nat.lt_of_lt_of_le lt dn), dne, n3⟩)
/-- the error made -/
structure MadeErr (h h' : Heap) (e C d : Addr) (f : Str) (v : Value) : Prop where
  stay : ∀ c o, h.get? c = some o → h'.get? c = some o
  new : h.objs.size ≤ e
  it : ∃ oe vs, h'.get? e = some oe ∧ oe.cls = .ref C ∧ oe.dict = some d ∧ oe.data = .fields vs ∧ vs[1]? = some .none
  up : h.objs.size ≤ d
  ne : d ≠ e
  has : h'.Ns1 d (fun y => if y = f then some v else none)
theorem made_run (T : ErrTxt K mg B x C) (U : InitTxt K qn f C i) {v : Value} (X : K.In s.heap) (hlim : s.heap.NoLimit) (hroom : A.depth + 1 < recursionLimit)
    (hq : ∀ h' tk e d, MadeErr s.heap h' e C d f v → R (.ok (.ret (.ref e))) { s with heap := h', toks := tk }) : codeAny (model prog w) A (.call (.ref C) ⟨[v], []⟩) R s := by
  obtain ⟨q, N, bs, sn, sub, ab, col, dd, k0, k1, k2, k3, k5, hC⟩ := T.at_
  obtain ⟨hp, g, dr, tk, os⟩ := s
  have kp : ∀ c o, hp.get? c = some o → ((hp.push (kdv_tup [v])).push (excO C hp.objs.size)).get? c = some o := fun c o e => Heap.get?_push_of_some _ (Heap.get?_push_of_some _ e)
  have it : ((hp.push (kdv_tup [v])).push (excO C hp.objs.size)).get? (hp.objs.size + 1) = some (excO C hp.objs.size) := by heap_get
  refine call_own F.excBase_Exception (bm := .ref B :: tl) (fun Y => excTail_contains (bmB := tl) Y _ (by show excTail tl tl = true; decide +kernel)) (X _ _ hC) (looks_findIn X U.iC) (fun self => bind_fn X self U.tI)
    (by show 1 ≤ sizeLine; rw [sizeLine_eq]; omega) ?_
  refine init_run (s := ⟨(hp.push (kdv_tup [v])).push (excO C hp.objs.size), g, dr, tk, os⟩) T U (X.keeps kp) (hlim.keeps kp) it ?_ fun h' tk' dx ⟨st, hx, dn, dne, hns⟩ => ?_
  · show A.depth + 1 < recursionLimit
    exact hroom
  · have old : ∀ c o, hp.get? c = some o → h'.get? c = some o := fun c o e => st c o (Nat.ne_of_lt (Nat.lt_succ_of_lt (Heap.lt_size e))) (kp c o e)
    have z : hp.objs.size + 1 + 1 ≤ dx := by
      have q := dn
      rw [Heap.size_push, Heap.size_push] at q
      exact q
    refine ⟨rfl, hq h' tk' (hp.objs.size + 1) dx ⟨old, Nat.le_succ _, ⟨_, _, hx, rfl, rfl, rfl, rfl⟩, ?_, dne, hns⟩⟩
    show hp.objs.size ≤ dx
    omega
end
end FX
/-! The error made by a call with the field's name: x(f=v). -/
namespace FX
open PySem PySem.W PySem.Calls PyProof.Rows PySem.HandSPX
section
variable {prog : Program} {w : World} {A : Around} {E : Value → Shared → Prop} {R : Result → Shared → Prop} {s : Shared} {K : Frag} {mg : Str → Option Value} {b x qn f : Str} {B C i : Addr}
theorem init_kw (T : ErrTxt K mg B x C) (U : InitTxt K qn f C i) {a t0 : Addr} {v : Value} (X : K.In s.heap) (hlim : s.heap.NoLimit) (ha : s.heap.get? a = some (excO C t0)) (hroom : A.depth < recursionLimit)
    (hq : ∀ h' tk dx, Inited s.heap h' a C dx t0 f v → R (.ok (.ret .none)) { s with heap := h', toks := tk }) : codeAny (model prog w) A (.call (.ref i) ⟨[.ref a], [(f, v)]⟩) R s := by
  have hdict := T.dict
  have hover := T.over
  have htk := U.taker
  obtain ⟨oc, od, doc, pm, an, cdv, ct, osl, p1, p2, q1, q2, q3, q4, hfn, hcd⟩ := U.fn
  have hsa := U.sa
  rcases U.ff with e | e
  all_goals
    subst e
    refine Att.call_fn (binds := [("self", .ref a), (_, v)]) X hlim hfn hcd hroom (BindsTo.of_eq (by first | rfl | with_unfolding_all rfl)) (by first | rfl | decide | with_unfolding_all rfl) (fun s1 IC => ?_) rfl rfl rfl
    obtain ⟨h1, tk1, rfl⟩ := IC.toInCall.same
    have kp : ∀ c o, s.heap.get? c = some o → h1.get? c = some o := IC.toInCall.keep
    have ns := IC.toInCall.ns
    have X1 : K.In h1 := X.keeps kp
    have a1 := kp _ _ ha
    show wpAny _ _ (execs _ _) _ _ _
    refine wpAny_execs_cons (plainObj_wpAny_Assign_Attribute ?_)
    refine local_read (v := v) ns (by first | rfl | with_unfolding_all rfl | kernel_rfl) ?_
    refine local_read (v := .ref a) ns (by first | rfl | with_unfolding_all rfl | kernel_rfl) ?_
    refine set_plain X1 (ox := excO C t0) (od := none) ⟨a1, rfl, rfl, trivial⟩ hsa ?_
    refine store_first X1 a1 hover hdict htk (fun h3 tk3 dx k3 dn dne a3 n3 => ?_)
    show wpAny _ _ (execs _ _) _ _ _
    have lt : s.heap.objs.size < h1.objs.size := ns.lt
    exact wpAny_execs_nil (hq h3 tk3 dx ⟨fun c o hc e => k3 c o hc (kp c o e), a3, Nat.le_of_lt (Nat.lt_of_lt_of_le lt dn), dne, n3⟩)
end
section
variable {M : Model} {prog : Program} {w : World} {A : Around} {E : Value → Shared → Prop} {R : Result → Shared → Prop} {h : Heap} {g : Array GenState} {d : Drawn} {t : Nat} {os : OsState}
variable {nm q : Str} {C N : Addr} {bs bm : List Value} {hdct : Bool} {sn : List Str} {sub : List Value} {ab : Bool} {col : Option Bool} {dd : Option Addr} {k0 k1 k2 k3 k5 : Option Value}
/-- the base's own tail, told -/
structure TailIs (bm : List Value) : Prop where
  ex : bm.contains (.type "Exception") = true
  atr : bm.contains (.type "AttributeError") = false
  nme : bm.contains (.type "NameError") = false
theorem check_call_kw {kw : List (Str × Value)} {Q : Unit → Shared → Prop} (hC : h.get? C = some (excClassObj nm q C N bs bm hdct sn sub ab col dd k0 k1 k2 k3 k5 "Exception.__new__")) (hq : Q () ⟨h, g, d, t, os⟩) :
    wpAny M A (checkBuiltinCall "type.__call__" ⟨[.ref C], kw⟩) Q E ⟨h, g, d, t, os⟩ := by
  have f3 := tc_sub
  have hT : (⟨h, g, d, t, os⟩ : Shared).TypeIs (.ref C) "type" := ⟨_, hC, rfl⟩
  simp only [checkBuiltinCall, tc_kind, tc_split]
  repeat (any_goals (first | assumption | (with_reducible refine wpAny_loadPart_at hC ?_) | (with_reducible refine wpAny_onRaise ?_) | (with_reducible refine wpAny_map ?_) | wp_step))
theorem check_new_kw (T : TailIs bm) {kw : List (Str × Value)} {Q : Unit → Shared → Prop} (hC : h.get? C = some (excClassObj nm q C N bs bm hdct sn sub ab col dd k0 k1 k2 k3 k5 "Exception.__new__")) (hq : Q () ⟨h, g, d, t, os⟩) :
    wpAny M A (checkBuiltinCall "Exception.__new__" ⟨[.ref C], kw⟩) Q E ⟨h, g, d, t, os⟩ := by
  have FB := F.excBase_Exception
  have hc : (Value.ref C :: bm).contains (.type "Exception") = true := by rw [List.contains_cons, T.ex, Bool.or_true]
  have hstar := FB.noStar
  simp only [checkBuiltinCall, FB.newKind, FB.newSplit, FB.newRow]
  repeat (first | (refine wpAny_loadPart_at hC ?_) | (refine wpAny_isSubtype_exc hC ?_; rw [hc]) | (refine wpAny_staticBase_exc hC ?_) | (refine wpAny_madeBy_exc hC ?_) | (simp only [bne_self_eq_false, Bool.false_eq_true, if_false]) | wp_step)
  exact hq
theorem new_kw (T : TailIs bm) {kw : List (Str × Value)} (hC : h.get? C = some (excClassObj nm q C N bs bm hdct sn sub ab col dd k0 k1 k2 k3 k5 "Exception.__new__"))
    (hq : R (.ok (.ret (.ref (h.objs.size + 1)))) ⟨(h.push { cls := .type "tuple", data := .seq #[] }).push (excO C h.objs.size), g, d, t, os⟩) :
    codeAny (model prog w) A (.builtin "Exception.__new__" ⟨[.ref C], kw⟩) R ⟨h, g, d, t, os⟩ := by
  have FB := F.excBase_Exception
  have hends := FB.ends
  have c1 : (Value.ref C :: bm).contains (.type "Exception") = true := by rw [List.contains_cons, T.ex, Bool.or_true]
  have c2 : (Value.ref C :: bm).contains (.type "AttributeError") = false := by
    rw [List.contains_cons, T.atr]
    rfl
  have c3 : (Value.ref C :: bm).contains (.type "NameError") = false := by
    rw [List.contains_cons, T.nme]
    rfl
  refine codeAny_builtinAt FB.entry ?_
  unfold Builtin.«BaseException.__new__»
  refine PySem.wpAt_bind ?_
  show PySem.wpAt _ _ _ (stack >>= _) _ _ _
  refine PySem.wpAt_bind (PySem.wpAt_stack fun p below => PySem.wpAt_of_wpAny ?_)
  wp_walk
  refine PySem.wpAt_of_wpAny ?_
  rw [FB.owner]
  repeat (first | (with_reducible refine wpAny_madeHere_exc FB.canon hC ?_) | (with_reducible refine wpAny_loadPart_at hC ?_) | (with_reducible refine wpAny_isSubtype_exc hC ?_; first | rw [c1] | rw [c2] | rw [c3]) | wp_step)
  show R _ _
  rw [Heap.size_push]
  exact hq
theorem type_call_kw (T : TailIs bm) {kw : List (Str × Value)} {i : Addr} {Q : Fin → Shared → Prop} (hC : h.get? C = some (excClassObj nm q C N bs bm hdct sn sub ab col dd k0 k1 k2 k3 k5 "Exception.__new__"))
    (hi : Looks (model prog w) h (typeLookup (.ref C) "__init__") (some (.ref i))) (hb : ∀ self, Looks (model prog w) h (bindSpecial (.ref i) self) (.ref i, [self]))
    (hq : codeAny (model prog w) A (.call (.ref i) ⟨[.ref (h.objs.size + 1)], kw⟩)
      (fun r s' => match r with | .ok (.ret v) => v = .none ∧ Q (.done (.ret (.ref (h.objs.size + 1)))) s' | .ok _ => False | .error e => E e s')
      ⟨(h.push (kdv_tup [])).push (excO C h.objs.size), g, d, t, os⟩) :
    wpAny (model prog w) A (Builtin.«type.__call__» ⟨[.ref C], kw⟩) Q E ⟨h, g, d, t, os⟩ := by
  have FB := F.excBase_Exception
  repeat (first | (with_reducible refine wpAny_loadPart_at hC ?_) | (with_reducible refine wpAny_madeBy_exc hC ?_) | wp_step)
  refine codeAny_call_builtin_code (Code.quiet_builtin _ FB.quiet) (check_new_kw T hC ?_)
  refine new_kw T hC ?_
  show wpAny _ _ _ _ _ _
  have kp : ∀ c o, h.get? c = some o → ((h.push (kdv_tup [])).push (excO C h.objs.size)).get? c = some o := fun c o e => Heap.get?_push_of_some _ (Heap.get?_push_of_some _ e)
  have hC1 := kp _ _ hC
  have it : ((h.push (kdv_tup [])).push (excO C h.objs.size)).get? (h.objs.size + 1) = some (excO C h.objs.size) := by heap_get
  have cc : (Value.ref C :: bm).contains (.ref C) = true := by simp
  have i1 := hi.keeps kp
  have b1 := (hb (.ref (h.objs.size + 1))).keeps kp
  unfold isInstance
  repeat (first | (with_reducible refine wpAny_loadPart_at it ?_) | (with_reducible refine wpAny_isSubtype_exc hC1 ?_; rw [cc]) | wp_step)
  show wpAny _ _ (typeLookup (.ref C) _) _ _ _
  refine i1.at (wpAny_holding (wpAny_bind (b1.at (wpAny_bind (wpAny_call (codeAny_mono hq fun r s' z => ?_))))))
  rcases r with e | (v | _ | _ | _) <;> first | exact z | exact z.elim | skip
  obtain ⟨rfl, z⟩ := z
  first
    | exact wpAny_pure (wpAny_pure z)
    | (wp_walk; exact z)
theorem call_kw (T : TailIs bm) {kw : List (Str × Value)} {i : Addr} (hC : h.get? C = some (excClassObj nm q C N bs bm hdct sn sub ab col dd k0 k1 k2 k3 k5 "Exception.__new__"))
    (hi : Looks (model prog w) h (typeLookup (.ref C) "__init__") (some (.ref i))) (hb : ∀ self, Looks (model prog w) h (bindSpecial (.ref i) self) (.ref i, [self]))
    (hq : codeAny (model prog w) (A.under (.builtin "type.__call__" ⟨[.ref C], kw⟩)) (.call (.ref i) ⟨[.ref (h.objs.size + 1)], kw⟩) (InitBack (h.objs.size + 1) R)
      ⟨(h.push (kdv_tup [])).push (excO C h.objs.size), g, d, t, os⟩) :
    codeAny (model prog w) A (.call (.ref C) ⟨[], kw⟩) R ⟨h, g, d, t, os⟩ := by
  have f1 := tc_lookup
  have f2 := tc_bind (.ref C)
  have hT : (⟨h, g, d, t, os⟩ : Shared).TypeIs (.ref C) "type" := ⟨_, hC, rfl⟩
  refine codeAny_of_tree ?_
  show wpAny _ _ (callAny (.ref C) _) _ _ _
  repeat (any_goals (first | assumption | (with_reducible refine wpAny_loadPart_at hC ?_) | wp_step))
  refine ⟨rfl, ?_⟩
  refine codeAny_call_builtin_at (Code.quiet_builtin _ (by decide +kernel)) entry_typeCall (check_call_kw hC (type_call_kw T hC hi hb ?_))
  refine codeAny_mono hq fun r s' z => ?_
  rcases r with e | (v | _ | _ | _) <;> exact z
end
section
variable {prog : Program} {w : World} {A : Around} {E : Value → Shared → Prop} {R : Result → Shared → Prop} {s : Shared} {K : Frag} {mg : Str → Option Value} {b x qn f : Str} {B C i : Addr}
theorem made_kw (T : ErrTxt K mg B x C) (U : InitTxt K qn f C i) {v : Value} (X : K.In s.heap) (hlim : s.heap.NoLimit) (hroom : A.depth + 1 < recursionLimit)
    (hq : ∀ h' tk e d, MadeErr s.heap h' e C d f v → R (.ok (.ret (.ref e))) { s with heap := h', toks := tk }) : codeAny (model prog w) A (.call (.ref C) ⟨[], [(f, v)]⟩) R s := by
  obtain ⟨q, N, bs, sn, sub, ab, col, dd, k0, k1, k2, k3, k5, hC⟩ := T.at_
  obtain ⟨hp, g, dr, tk, os⟩ := s
  have kp : ∀ c o, hp.get? c = some o → ((hp.push (kdv_tup [])).push (excO C hp.objs.size)).get? c = some o := fun c o e => Heap.get?_push_of_some _ (Heap.get?_push_of_some _ e)
  have it : ((hp.push (kdv_tup [])).push (excO C hp.objs.size)).get? (hp.objs.size + 1) = some (excO C hp.objs.size) := by heap_get
  refine call_kw ⟨rfl, rfl, rfl⟩ (X _ _ hC) (looks_findIn X U.iC) (fun self => bind_fn X self U.tI) ?_
  refine init_kw (s := ⟨(hp.push (kdv_tup [])).push (excO C hp.objs.size), g, dr, tk, os⟩) T U (X.keeps kp) (hlim.keeps kp) it ?_ fun h' tk' dx ⟨st, hx, dn, dne, hns⟩ => ?_
  · show A.depth + 1 < recursionLimit
    exact hroom
  · have old : ∀ c o, hp.get? c = some o → h'.get? c = some o := fun c o e => st c o (Nat.ne_of_lt (Nat.lt_succ_of_lt (Heap.lt_size e))) (kp c o e)
    have z : hp.objs.size + 1 + 1 ≤ dx := by
      have q := dn
      rw [Heap.size_push, Heap.size_push] at q
      exact q
    refine ⟨rfl, hq h' tk' (hp.objs.size + 1) dx ⟨old, Nat.le_succ _, ⟨_, _, hx, rfl, rfl, rfl, rfl⟩, ?_, dne, hns⟩⟩
    show hp.objs.size ≤ dx
    omega
end
end FX
/-! The layer's rules for such errors. -/
namespace FX
open PySem PySem.Spec PyProof.Rows L2
/-- what a field's dict answers -/
theorem one_field {v : V} {u : Value} (r : RelV v u) (f g : Str) : RelO (List.lookup g [(f, v)]) (if g = f then some u else none) := by
  by_cases e : g = f
  · subst e
    have q : List.lookup g [(g, v)] = some v := by simp [List.lookup]
    rw [q, if_pos rfl]
    exact r
  · have q : List.lookup g [(f, v)] = none := by
      have z : (g == f) = false := by simpa using e
      simp [List.lookup, z]
    rw [q, if_neg e]
    exact True.intro
section
variable {X : Cx} {x b qn f : Str} {B C i : Addr}
/-- behind the making: the error is no object of ours, its dict is -/
theorem make_end {pins : List (Addr × Obj)} {σ : L2.St} {H1 : Hp} {s1 : Shared} {h' : Heap} {tk' : Nat} {e d : Addr} {v : V} {u : Value} (I1 : Inv X pins σ H1 s1) (rv : RelV v u) (M : MadeErr s1.heap h' e C d f u) :
    ∃ G : Heap, Inv X pins σ (upd H1 d (.xd [(f, v)])) { s1 with heap := G, toks := tk' } ∧ (∀ c o, G.get? c = some o → h'.get? c = some o) ∧ G.get? e = none ∧ (upd H1 d (.xd [(f, v)])) e = none ∧ H1 d = none := by
  obtain ⟨G, g1, g2⟩ := restrict h' fun c => decide (c ≠ e)
  have gk : ∀ c, c ≠ e → G.get? c = h'.get? c := fun c hc => g1 c (decide_eq_true hc)
  have ge : G.get? e = none := g2 e (by simp)
  have ob : ObjOk X.prog X.w (upd H1 d (.xd [(f, v)])) G d (.xd [(f, v)]) := ⟨_, M.has.at (fun o q => (gk d M.ne).trans q), fun g => one_field rv f g⟩
  refine ⟨G, I1.laid (fun c o q => ?_) M.up ob, fun c o q => ?_, ge, ?_, I1.hok.fresh M.up⟩
  · have hce : c ≠ e := Nat.ne_of_lt (Nat.lt_of_lt_of_le (Heap.lt_size q) M.new)
    rw [gk c hce]
    exact M.stay c o q
  · by_cases hce : c = e
    · subst hce
      rw [ge] at q
      cases q
    · rw [← gk c hce]
      exact q
  · rw [upd_ne (Ne.symm M.ne)]
    exact I1.hok.fresh M.new
/-- x(e), e's value kept under f -/
def tMk (C : Addr) (f : Str) (ta : TA) : L2.St → Hp → XK → Prop := fun σ H Q => ta σ H fun vs H1 => ∃ v, vs = [v] ∧ ∀ d, H1 d = none → Q (.ref C) (some d) (upd H1 d (.xd [(f, v)]))
theorem pmk_err {a : Expr} {ta : TA} {p pos : Pos} {k : Nat} (T : ErrTxt X.K X.mg B x C) (U : InitTxt X.K qn f C i) (hr : Room k X.A) (ha : PA X [a] ta) (hg : Gl X x := by rfl) (hdb : (x == ("__debug__" : Str)) = false := by decide)
    (he : starEach (a :: []) X.env = (false, eval a X.env) :: starEach [] X.env := by rfl) (hpl : (backTo pos (starEach [] X.env)).any (·.1) = false := by rfl) :
    PMk X (.Call (.Name x p) [a] [] pos) (tMk C f ta) := fun pins s σ H Q I h => by
  refine wpAny_Call_Name_kw (ld_glob I hg T.gC ?_ hdb)
  refine PySem.W.callWith_K (h₀ := X.base) I.ok.mod.kin T.kC (thn (ha.run pos pins s σ H _ I h) fun us s1 hh => ?_) he hpl
  obtain ⟨vs, H1, I1, r1, v, ev, q1⟩ := hh
  subst ev
  cases r1 with
  | @cons _ u _ us' rv rn =>
    cases rn
    refine ⟨I1.kIn, ?_⟩
    show wpAny _ _ (call (.ref C) [u]) _ _ _
    refine wpAny_call (made_run T U I1.kIn I1.nolimit (by have := hr.dp; omega) fun h' tk' e d M => ?_)
    obtain ⟨G, J, kG, ge, ne, nd⟩ := make_end (tk' := tk') I1 rv M
    obtain ⟨oe, fv, hoe, hc, hd, hdat, h1⟩ := M.it
    exact ⟨e, oe, fv, _, _, .ref C, some d, rfl, J, kG, ge, hoe, ⟨hc, hd⟩, hdat, h1, ne, rfl, I1.bare, raises_own T.sub T.ty, q1 d nd⟩
def tRaise (C : Addr) (f : Str) (W : WX) (ta : TA) : TS := fun _ σ H => tMk C f ta σ H fun cls d H' => W cls d σ H'
/-- raise x(e) -/
theorem ps_err {a : Expr} {ta : TA} {W : WX} {p pos pos2 : Pos} {k : Nat} (hc : X.calm = true) (T : ErrTxt X.K X.mg B x C) (U : InitTxt X.K qn f C i) (hr : Room k X.A) (tk : Takes X W) (ha : PA X [a] ta) (hg : Gl X x := by rfl) (hdb : (x == ("__debug__" : Str)) = false := by decide)
    (he : starEach (a :: []) X.env = (false, eval a X.env) :: starEach [] X.env := by rfl) (hpl : (backTo pos (starEach [] X.env)).any (·.1) = false := by rfl) :
    PS X (.Raise (some (.Call (.Name x p) [a] [] pos)) none pos2) (tRaise C f W ta) := ps_raise hc tk (pmk_err T U hr ha hg hdb he hpl)
/-- x() where no class over it has an __init__ of the program -/
theorem pmk_bare {bmB : List Value} {Bn newId initId : String} {p pos : Pos} (F : ExcBaseFacts Bn newId initId bmB) (q : PySem.W.excIn X.K C bmB newId = true) (gC : X.mg x = some (.ref C)) (kC : PySem.W.keepIn X.K (.ref C) = true) (r : Raises X (.ref C)) (hg : Gl X x := by rfl)
    (hdb : (x == ("__debug__" : Str)) = false := by decide) : PMk X (.Call (.Name x p) [] [] pos) (fun _ H Q => Q (.ref C) none H) := fun pins s σ H Q I h => by
  refine wpAny_Call_Name_kw (ld_glob I hg gC ?_ hdb)
  refine PySem.W.callWith_K0 (K := X.K) (Inv.kIn (I.tok _)) kC ?_
  show wpAny _ _ (call (.ref C) []) _ _ _
  obtain ⟨bm, N, nm, qn, bs, hdct, sn, sub, ab, col, dd, k0, k1, k2, k3, k5, mN, hC, hN, hni, T⟩ := exc_obj I.kIn q
  refine wpAny_call_exc_subT F T hC hN hni (fun h' e hm => ?_) (by show 0 ≤ sizeLine; exact Nat.zero_le _)
  exact mk_of (I.tok _) hm r h (I.hok.gone hm.new)
/-- x(f=e).f: the error is dropped -/
theorem pe_kwfield {e : Expr} {kp p2 p3 pos : Pos} {te : TE} {k : Nat} (T : ErrTxt X.K X.mg B x C) (U : InitTxt X.K qn f C i) (hr : Room k X.A) (he : PE X e te) (hg : Gl X x := by rfl) (hdb : (x == ("__debug__" : Str)) = false := by decide)
    (hb : attributeBase (.Call (.Name x p2) [] [{ arg := some f, value := e, pos := kp }] p3) f X.env (eval (.Call (.Name x p2) [] [{ arg := some f, value := e, pos := kp }] p3) X.env) = eval (.Call (.Name x p2) [] [{ arg := some f, value := e, pos := kp }] p3) X.env := by rfl) :
    PE X (.Attribute (.Call (.Name x p2) [] [{ arg := some f, value := e, pos := kp }] p3) f pos) te := by
  refine ⟨fun pins s σ H Q I h => attr_of hb ?_⟩
  refine wpAny_Call_Name_kw (ld_glob I hg T.gC ?_ hdb)
  refine PySem.W.callWith_KW0 (K := X.K) (h₀ := X.base) I.ok.mod.kin T.kC rfl ?_ rfl
  let Q1 : List V → Hp → Prop := fun vs H1 => match vs with
    | v :: _ => Q v H1
    | [] => False
  refine thn ((pk_cons (nm := some f) (kpos := kp) he pk_nil).run p3 pins _ σ H Q1 (I.tok _) h) fun us s1 hh => ?_
  obtain ⟨vs, H1, I1, r1, q1⟩ := hh
  cases r1 with
  | nil => exact q1.elim
  | @cons v u _ us' rv rn =>
    refine ⟨I1.kIn, ?_⟩
    show wpAny _ _ (call (.ref C) [] [(f, u)]) _ _ _
    refine wpAny_call (made_kw T U I1.kIn I1.nolimit (by have := hr.dp; omega) fun h' tk' e d M => ?_)
    obtain ⟨oe, fv, hoe, hc, hd, hdat, h1⟩ := M.it
    obtain ⟨od, ho, hl⟩ := lookIn_ns M.has
    have J : PySem.W.InstAt h' e oe C (some od) := ⟨hoe, hc, by unfold PySem.W.notCls; rw [hdat] <;> rfl, by rw [hd]; exact ho⟩
    refine HandSPX.exc_get (s := { s1 with heap := h', toks := tk' }) (I1.kIn.keeps M.stay) J U.ga U.gg T.sub (v := u) (PySem.W.findObj_own T.dict U.noF rfl (by rw [hl, if_pos rfl])) (handed_of rv) ?_
    exact ⟨v, H1, (I1.kept M.stay), rv, q1⟩
/-- what e.f reads off an error at a that a suite holds -/
def tFld (C : Addr) (f : Str) (a : Addr) (cls : Value) (d : Option Addr) (te : TE) : TE := fun σ H Q => te σ H fun z H1 => z = .ref a ∧ cls = .ref C ∧ ∃ (dd : Addr) (v : V), d = some dd ∧ H1 dd = some (.xd [(f, v)]) ∧ Q v H1
theorem pe_errfield {a : Addr} {oe : Obj} {cls : Value} {d : Option Addr} {pn : List (Addr × Obj)} {e : Expr} {te : TE} {pos : Pos} (T : ErrTxt X.K X.mg B x C) (U : InitTxt X.K qn f C i) (hz : Zc cls d oe) (hf : ∃ vs, oe.data = .fields vs) (he : PE (X.suite a ((a, oe) :: pn)) e te)
    (hb : attributeBase e f X.env (eval e X.env) = eval e X.env := by rfl) : PE (X.suite a ((a, oe) :: pn)) (.Attribute e f pos) (tFld C f a cls d te) := by
  refine ⟨fun pins s σ H Q I h => attr_of hb (thn (he.run pins s σ H _ I h) fun u s1 hh => ?_)⟩
  obtain ⟨z, H1, I1, rz, ez, ec, dd, v, ed, ea, q⟩ := hh
  subst ez ec ed
  obtain rfl : u = Value.ref a := rz
  obtain ⟨at_a, _⟩ := I1.pin (a, oe) (List.mem_append_left _ List.mem_cons_self)
  obtain ⟨vs, hd⟩ := hf
  obtain ⟨mA, hns, hrel⟩ : ObjOk X.prog X.w H1 s1.heap dd (.xd [(f, v)]) := I1.hok dd _ ea
  obtain ⟨od, ho, hl⟩ := lookIn_ns hns
  obtain ⟨w', hw, rw'⟩ := RelO.some_of (v := v) (o := mA f) (by
    have q := hrel f
    simpa [List.lookup] using q)
  have J : PySem.W.InstAt s1.heap a oe C (some od) := ⟨at_a, hz.1, by unfold PySem.W.notCls; rw [hd] <;> rfl, by rw [hz.2]; exact ho⟩
  exact HandSPX.exc_get I1.kIn J U.ga U.gg T.sub (PySem.W.findObj_own T.dict U.noF rfl (by rw [hl, hw])) (handed_of rw') ⟨v, H1, I1.tok _, rw', q⟩
end
end FX
/-! try: .. with several clauses, each with a name for the error or without one. -/
namespace FX
open PySem PySem.Spec PyProof.Rows L2
/-- a suite: the error's address, class, dict; then as a statement -/
abbrev Su := Addr → Value → Option Addr → TS
/-- behind a suite the slot i of the error's name is empty -/
def gone (i : Nat) (D : Ends) : Ends := { nx := fun σ H => D.nx (σ.set i none) H, rt := D.rt, bk := fun σ H => D.bk (σ.set i none) H, ct := fun σ H => D.ct (σ.set i none) H }
/-- what the clauses wish of the body's error; a clause: the class, the name's slot, the suite -/
def wCl (K : PySem.W.Frag) (Wout : WX) (D : Ends) : List (Value × Option Nat × Su) → WX
  | [] => Wout
  | (c, none, t) :: r => fun cls d σ H => ∃ y, PySem.W.exmOne K cls c = some y ∧ (y = true → ∀ a, H a = none → t a cls d D σ H) ∧ (y = false → wCl K Wout D r cls d σ H)
  | (c, some i, t) :: r => fun cls d σ H => ∃ y, PySem.W.exmOne K cls c = some y ∧ (y = true → ∀ a, H a = none → t a cls d (gone i D) (σ.set i (some (.ref a))) H) ∧ (y = false → wCl K Wout D r cls d σ H)
/-- the clauses' suites as terms of rules -/
inductive Cl (X : Cx) : List ExceptHandler → List (Value × Option Nat × Su) → Prop
  | nil : Cl X [] []
  | bare {x : Str} {c : Value} {t : Su} {b₀ : Stmt} {more : List Stmt} {np pos : Pos} {hds : List ExceptHandler} {l : List (Value × Option Nat × Su)} (hc : Names X x c)
      (hs : ∀ (a : Addr) (oe : Obj) (cls : Value) (d : Option Addr) (pn : List (Addr × Obj)), Zc cls d oe → (∃ vs, oe.data = .fields vs) → PSs (X.suite a ((a, oe) :: pn)) (b₀ :: more) (t a cls d)) (r : Cl X hds l) :
      Cl X (.ExceptHandler (some (.Name x np)) none (b₀ :: more) pos :: hds) ((c, none, t) :: l)
  | named {x n : Str} {i : Nat} {c : Value} {t : Su} {b₀ : Stmt} {more : List Stmt} {np pos : Pos} {hds : List ExceptHandler} {l : List (Value × Option Nat × Su)} (hi : X.N[i]? = some n) (hln : X.env.kindOf n = some .local) (hc : Names X x c)
      (hs : ∀ (a : Addr) (oe : Obj) (cls : Value) (d : Option Addr) (pn : List (Addr × Obj)), Zc cls d oe → (∃ vs, oe.data = .fields vs) → PSs (X.suite a ((a, oe) :: pn)) (b₀ :: more) (t a cls d)) (r : Cl X hds l) :
      Cl X (.ExceptHandler (some (.Name x np)) (some n) (b₀ :: more) pos :: hds) ((c, some i, t) :: l)
section
variable {X : Cx} {pins pins' : List (Addr × Obj)} {σ : L2.St} {H : Hp} {D : Ends} {Wout : WX} {a : Addr} {B : Heap} {sI s' : Shared} {cls : Value} {d : Option Addr}
/-- what is known when the clauses are asked -/
structure Asked (X : Cx) (pins : List (Addr × Obj)) (σ : L2.St) (H : Hp) (a : Addr) (B : Heap) (sI s' : Shared) (cls : Value) (d : Option Addr) (h3 : Heap) : Prop where
  J : Inv X pins σ H sI
  nb : ∀ b o, sI.heap.get? b = some o → b ∉ frs X.stack → B.get? b = some o
  up : sI.heap.UpToSlots h3
  fl : HandSPX.FlyingZ B (X.env :: X.outer) a (Zc cls d) h3
  na : H a = none
  os : s'.os = sI.os
  ag : AllBare s'.gens
theorem Asked.far (Z : Asked X pins σ H a B sI s' cls d h3) {h : Heap} {o : Obj} {vs : Array Value} (ff : h.FunFrames B (X.env :: X.outer)) (e : h.get? a = some o) (dd : o.data = .fields vs) : a ∉ frs (X.env :: X.outer) := fun hm => by
  obtain ⟨_, o', e', hnf⟩ := ff.mem hm
  rw [e] at e'
  cases e'
  exact hnf _ dd
theorem Asked.notL (Z : Asked X pins σ H a B sI s' cls d h3) (hf : X.env.frame = some X.env.locals) : a ≠ X.env.locals ∧ a ∉ X.fs := by
  obtain ⟨oe, vs, he, hz, hd⟩ := Z.fl.there
  have nfr := Z.far Z.fl.2.2.1 he hd
  refine ⟨fun z => nfr (List.mem_filterMap.mpr ⟨X.env, List.mem_cons_self, by rw [hf, z]⟩), fun hm => ?_⟩
  obtain ⟨e, q1, q2⟩ := List.mem_filterMap.mp hm
  exact nfr (List.mem_filterMap.mpr ⟨e, List.mem_cons_of_mem _ q1, q2⟩)
/-- the clauses, one behind another -/
theorem clauses (ok : X.Ok) (hs : X.stack = X.env :: X.outer) (hf : X.env.frame = some X.env.locals) (hN : X.N.Nodup) (tk : Takes X Wout) {h3 : Heap} (Z : Asked X pins σ H a B sI s' cls d h3) :
    ∀ {hds : List ExceptHandler} {l : List (Value × Option Nat × Su)}, Cl X hds l → wCl X.K Wout D l cls d σ H → wpAny (model X.prog X.w) X.A (handleBy (.ref a) X.env hds) (SP X pins D) X.xe { s' with heap := h3 } := by
  obtain ⟨nL, nF⟩ := Z.notL hf
  obtain ⟨oe3, vs3, he3, hz3, hd3⟩ := Z.fl.there
  have S3 := (Z.J.landed Z.nb Z.fl.1 (s' := { s' with heap := h3 }) Z.up Z.os Z.ag).suite he3 hd3 Z.na nL nF
  have kin : X.K.In h3 := (Z.J.landed Z.nb Z.fl.1 (s' := { s' with heap := h3 }) Z.up Z.os Z.ag).kIn
  have ask : ∀ {x : Str} {np : Pos} {c : Value} {Q : Value → Shared → Prop} {E : Value → Shared → Prop}, Names X x c → Q c { s' with heap := h3 } → wpAny (model X.prog X.w) (X.A.mark (some (.ref a))) (eval (.Name x np) X.env) Q E { s' with heap := h3 } := fun {x np c Q E} hc q => by
    obtain ⟨hg, hdbg, hm | ⟨hm, hv, hnn⟩⟩ := hc
    · exact ld_glob (X := X.suite a ((a, oe3) :: (X.pn ++ pins))) S3 hg hm q hdbg
    · exact ld_blt (X := X.suite a ((a, oe3) :: (X.pn ++ pins))) S3 hg hm hv q hnn hdbg
  have fits : ∀ {c : Value} {y : Bool}, PySem.W.exmOne X.K cls c = some y → PySem.W.Looks (model X.prog X.w) h3 (excMatches (.ref a) c) y := fun e =>
    PySem.W.exm_one (M := model X.prog X.w) kin (fun A Q E s k q => wpAny_typeOf_ref (k _ _ he3) (by rw [hz3.1]; exact q)) e
  intro hds l hk
  induction hk with
  | nil =>
    intro w
    refine wpAny_handleBy_nil ?_
    obtain ⟨k1, k2, k3, oe, vs, T, oT, ts', he, hz, hd, h1, hr⟩ := id Z.fl
    have fin : wpAny (model X.prog X.w) X.A (setFlight (.ref a) X.env.frame) (fun _ s4 => wpAny (model X.prog X.w) X.A (throw (.ref a) : Sem Flow) (SP X pins D) X.xe s4) X.xe { s' with heap := h3 } := by
      rw [hf]
      refine HandSPX.setFlight_upZ Z.fl fun h4 hh4 up4 => wpAny_throw (tk _ _ ?_)
      exact ⟨a, B, sI, pins, σ, H, cls, d, rfl, Z.J, Z.nb, Z.up.trans up4, .inr (.inr (by rw [hs]; exact hh4)), Z.na, Z.os, Z.ag, w⟩
    unfold PySem.passOn
    refine wpAny_bind (wpAny_field he hd h1 ?_)
    rw [if_neg (show ¬ ((Value.ref T == Value.none) = true) from by simp)]
    first
      | exact wpAny_bind (wpAny_pure (wpAny_bind fin))
      | exact wpAny_bind fin
  | @bare x c t b₀ more np pos hds2 l2 hc hsu r ih =>
    intro ⟨y, e, yes, no⟩
    refine wpAny_handleBy_cons (codeAny_handlers_test (ask hc ((fits e).here ?_))) (by intro q; cases q)
    cases y with
    | false => exact ih (no rfl)
    | true =>
      refine codeAny_handlers_suite (HandSPX.lands_againZ Z.fl fun h4 fl4 up4 => ?_)
      have J4 : Inv X pins σ H { s' with heap := h4 } := Z.J.landed Z.nb fl4.1 (Z.up.trans up4) Z.os Z.ag
      obtain ⟨oe4, vs4, he4, hz4, hd4⟩ := fl4.there
      refine wpAny_mono ((hsu a oe4 cls d (X.pn ++ pins) hz4 ⟨_, hd4⟩).run [] _ _ H _ (J4.suite he4 hd4 Z.na nL nF) (yes rfl a Z.na)) (fun f s6 hsp => ?_) (fun _ _ z => False.elim z)
      cases f with
      | ret u =>
        obtain ⟨v6, σ6, H6, S6, r6, q6⟩ := hsp
        exact ⟨_, _, _, S6.unsuite ok, r6, q6⟩
      | next | brk | cont =>
        obtain ⟨σ6, H6, S6, q6⟩ := hsp
        exact ⟨_, _, S6.unsuite ok, q6⟩
  | @named x n i c t b₀ more np pos hds2 l2 hi hln hc hsu r ih =>
    intro ⟨y, e, yes, no⟩
    refine wpAny_handleBy_cons (codeAny_handlers_test (ask hc ((fits e).here ?_))) (by intro q; cases q)
    cases y with
    | false => exact ih (no rfl)
    | true =>
      refine codeAny_handlers_suite_as (HandSPX.lands_againZ Z.fl fun h4 fl4 up4 => ?_)
      have J4 : Inv X pins σ H { s' with heap := h4 } := Z.J.landed Z.nb fl4.1 (Z.up.trans up4) Z.os Z.ag
      obtain ⟨oe4, vs4, he4, hz4, hd4⟩ := fl4.there
      refine store_ok (X := X.suite a ((a, oe4) :: (X.pn ++ pins))) (v := .ref a) (J4.suite he4 hd4 Z.na nL nF) hN hi (.inl hln) rfl (fun s5 S5 => ?_) (.inr hln)
      refine wpAny_mono ((hsu a oe4 cls d (X.pn ++ pins) hz4 ⟨_, hd4⟩).run [] s5 _ H _ S5 (yes rfl a Z.na)) (fun f s6 hsp => ?_) (fun _ _ z => False.elim z)
      cases f with
      | ret u =>
        obtain ⟨v6, σ6, H6, S6, r6, q6⟩ := hsp
        exact gone_ok (S6.unsuite ok) hN hi hln fun s7 J7 => ⟨_, _, _, J7, r6, q6⟩
      | next | brk | cont =>
        obtain ⟨σ6, H6, S6, q6⟩ := hsp
        exact gone_ok (S6.unsuite ok) hN hi hln fun s7 J7 => ⟨_, _, J7, q6⟩
end
/-- try: body, the clauses -/
theorem ps_tryCl {X : Cx} {body : List Stmt} {h₀ : ExceptHandler} {hds : List ExceptHandler} {l : List (Value × Option Nat × Su)} {pos : Pos} {tb : WX → TS} {Wout : WX} (hs : X.stack = X.env :: X.outer) (hf : X.env.frame = some X.env.locals) (hN : X.N.Nodup) (tk : Takes X Wout)
    (hb : ∀ (W : WX) (pn : List (Addr × Obj)) (xe : Value → Shared → Prop), Takes (X.tr pn xe) W → PassesOwn (model X.prog X.w) X.A X.env xe → PSs (X.tr pn xe) body (tb W)) (hh : Cl X (h₀ :: hds) l) :
    PS X (.Try body (h₀ :: hds) [] [] pos) (fun D σ H => tb (wCl X.K Wout D l) D σ H) := by
  refine ⟨fun pins s σ H D I h => ?_⟩
  have ok := I.ok
  have hfr : X.A.frames = some (X.env :: X.outer) := by rw [ok.frames, hs]
  refine wpAny_Try_except (wpAny_mono ((hb (wCl X.K Wout D l) (X.pn ++ pins) (fun e s1 => wpAny (model X.prog X.w) X.A (noteFrame e X.env) (fun _ s2 => wpAny (model X.prog X.w) X.A (setFlight e none) (fun _ s3 =>
    wpAny (model X.prog X.w) X.A (handleBy e X.env (h₀ :: hds)) (SP X pins D) X.xe s3) X.xe s2) X.xe s1) (fun u s' xx => ?_) PassesOwn.looking).run [] s σ H D (I.toTry _) h) (fun f s1 hsp => ?_) fun e s1 he => he)
  · obtain ⟨a, B, sI, pins', σ', H', cls, d, rfl, J', nb, up, sky, na, os, ag, w⟩ := xx
    have sky' : Sky B (X.env :: X.outer) a (Zc cls d) X.env.locals s'.heap := by rw [← hs]; exact sky
    exact Sky.land Zc.steady hfr hf sky' fun h3 fl3 up3 => clauses ok hs hf hN tk ⟨J'.ofTry ok, nb, up.trans up3, fl3, na, os, ag⟩ hh w
  · cases f with
    | next =>
      obtain ⟨σ', H', J', q⟩ := hsp
      exact wpAny_execs_nil ⟨σ', H', J'.ofTry ok, q⟩
    | ret u =>
      obtain ⟨v, σ', H', J', r, q⟩ := hsp
      exact ⟨v, σ', H', J'.ofTry ok, r, q⟩
    | brk | cont =>
      obtain ⟨σ', H', J', q⟩ := hsp
      exact ⟨σ', H', J'.ofTry ok, q⟩
end FX
namespace FX
open PySem PySem.Spec PyProof.Rows L2
theorem go_t {y : Bool} {A D : Prop} (h : y = true) (k : A) : if y = true then A else D := by
  rw [if_pos h]
  exact k
theorem go_f {y : Bool} {A D : Prop} (h : y = false) (k : D) : if y = true then A else D := by
  rw [if_neg (by rw [h]; decide)]
  exact k
/-- clauses told by numbers, each with a name for the error at the slot i -/
def byNo (C : Nat → Addr) (i : Nat) (su : Nat → Su) (js : List Nat) : List (Value × Option Nat × Su) := js.map fun j => (.ref (C j), some i, su j)
variable {K : PySem.W.Frag} {Wout : WX} {D : Ends} {C : Nat → Addr} {i n : Nat} {su : Nat → Su} {d : Option Addr} {σ : L2.St} {H : Hp} {l : List (Value × Option Nat × Su)}
theorem wCl_past (hno : ∀ j, j < 25 → j ≠ n → PySem.W.exmOne K (.ref (C n)) (.ref (C j)) = some false) (w : wCl K Wout D l (.ref (C n)) d σ H) :
    ∀ {js : List Nat}, (∀ j ∈ js, j < 25 ∧ j ≠ n) → wCl K Wout D (byNo C i su js ++ l) (.ref (C n)) d σ H
  | [], _ => w
  | j :: js, h => ⟨false, hno j (h j (List.mem_cons_self ..)).1 (h j (List.mem_cons_self ..)).2, fun z => (nomatch z), fun _ => wCl_past hno w fun y hy => h y (List.mem_cons_of_mem _ hy)⟩
theorem wCl_hit (hno : ∀ j, j < 25 → j ≠ n → PySem.W.exmOne K (.ref (C n)) (.ref (C j)) = some false) (hyes : PySem.W.exmOne K (.ref (C n)) (.ref (C n)) = some true)
    (w : ∀ a, H a = none → su n a (.ref (C n)) d (gone i D) (σ.set i (some (.ref a))) H) :
    ∀ {js : List Nat}, (∀ j ∈ js, j < 25) → n ∈ js → wCl K Wout D (byNo C i su js ++ l) (.ref (C n)) d σ H
  | [], _, h => by cases h
  | j :: js, h, hn => by
    by_cases e : j = n
    · subst e
      exact ⟨true, hyes, fun _ => w, fun z => (nomatch z)⟩
    · refine ⟨false, hno j (h j (List.mem_cons_self ..)) e, fun z => (nomatch z), fun _ => ?_⟩
      refine wCl_hit hno hyes w (fun y hy => h y (List.mem_cons_of_mem _ hy)) ?_
      rcases List.mem_cons.mp hn with q | q
      · exact absurd q.symm e
      · exact q
end FX
/-! The predicates over any value, told by data. -/
namespace K46
open PySem L2 FX
def top (i : Nat) : Stmt := PySem.Challenge.pw_foldsall_k46_whole_one_place_or_two_at_w.main.body.getD i (.Pass ⟨0, 0, 0, 0⟩)
/-- a def of the module -/
structure At (K : PySem.W.Frag) (mg : Str → Option Value) (x : Str) (st : Stmt) (f : Addr) (fd : FuncData) (ps : List Str) : Prop where
  F : Fun K x x st f fd
  g : mg x = some (.ref f)
  b : Binds K fd ps []
/-- the built-ins' names are free -/
structure Bi (mg : Str → Option Value) : Prop where
  int : mg "int" = none
  bool : mg "bool" = none
  list : mg "list" = none
  tuple : mg "tuple" = none
  isinstance : mg "isinstance" = none
  len : mg "len" = none
  range : mg "range" = none
  zip : mg "zip" = none
  all : mg "all" = none
  enumerate : mg "enumerate" = none
  abs : mg "abs" = none
  max : mg "max" = none
  min : mg "min" = none
  set : mg "set" = none
  repr : mg "repr" = none
  str : mg "str" = none
/-! ### data -/
abbrev D := PyData
def tyN : D → String
  | .none => "NoneType" | .bool _ => "bool" | .int _ => "int" | .str _ => "str" | .list _ => "list" | .tuple _ => "tuple" | .dict _ => "dict"
theorem ty_data {K : PySem.W.Frag} {H : Hp} {v : V} {d : D} (h : Dp K H v d) : TyX K H v (.type (tyN d)) := by
  cases h with
  | non => exact .base .non
  | bl b => exact .base (.bl b)
  | int i => exact .base (.int i)
  | str x => exact .base (.str x)
  | lst q _ =>
    rcases q with (q | ⟨o, q⟩) | ⟨o, its, n, q, c, _⟩
    · exact .base (.lst q)
    · exact .base (.frz q)
    · exact .kList q c
  | tup q _ =>
    rcases q with (q | ⟨o, q⟩) | ⟨o, its, n, q, c, _⟩
    · exact .base (.tup q)
    · exact .fTuple q
    · exact .kTuple q c
def isI : D → Bool | .int _ => true | _ => false
def isSq : D → Bool | .list _ => true | .tuple _ => true | _ => false
def items : D → List D | .list xs => xs | .tuple xs => xs | _ => []
def intV : D → Int | .int i => i | _ => 0
/-- one value, a bool comes back -/
def spB (K : PySem.W.Frag) (f : D → Bool) : Sp := fun vs H Q _ => ∃ v d, vs = [v] ∧ Dp K H v d ∧ ∀ H', Same H H' → Q (.bl (f d)) H'
section
variable {P : Program} {w : World} {K : PySem.W.Frag} {mg : Str → Option Value} {base : Heap}
abbrev sInteger : Stmt := top 1
theorem kInt {K : PySem.W.Frag} : ∀ d : D, PySem.W.kitOne K (.type (tyN d)) (.type "int") = some (match d with | .int _ => true | .bool _ => true | _ => false) := fun d => by
  cases d <;> (refine kit_ty ?_; dsimp only [tyN]; decide +kernel)
theorem kBool {K : PySem.W.Frag} : ∀ d : D, PySem.W.kitOne K (.type (tyN d)) (.type "bool") = some (match d with | .bool _ => true | _ => false) := fun d => by
  cases d <;> (refine kit_ty ?_; dsimp only [tyN]; decide +kernel)
theorem kList {K : PySem.W.Frag} : ∀ d : D, PySem.W.kitOne K (.type (tyN d)) (.type "list") = some (match d with | .list _ => true | _ => false) := fun d => by
  cases d <;> (refine kit_ty ?_; dsimp only [tyN]; decide +kernel)
theorem kTuple {K : PySem.W.Frag} : ∀ d : D, PySem.W.kitOne K (.type (tyN d)) (.type "tuple") = some (match d with | .tuple _ => true | _ => false) := fun d => by
  cases d <;> (refine kit_ty ?_; dsimp only [tyN]; decide +kernel)
theorem scInteger : FnScope ["value"] ["value"] (defScope sInteger) := ⟨rfl, rfl, rfl, by decide +kernel, rfl, by decide +kernel, by decide +kernel⟩
theorem ok_integer {f : Addr} {fd : FuncData} (F : Fun K "is_integer" "is_integer" sInteger f fd) (Z : Bi mg) : FnOk P w K mg base CX0 1 f fd ["value"] (spB K isI) := by
  refine F.ok scInteger (fun vs H Q E h => ?_) (fun cdv A outer s H vs Q E hr h => ?_)
  · obtain ⟨v, d, rfl, _⟩ := h
    rfl
  · obtain ⟨v, d, rfl, hd, k⟩ := h
    have k' : Q (.bl (isI d)) H := k H (Same.refl H)
    refine ⟨_, pss_one (ps_ret (pe_and (pe_callB call_isi (by rfl) Z.isinstance (by decide +kernel) (pa_cons (pv 0) (pa_cons (pe_bltn (v := .ty "int") (by rfl) Z.int (by decide +kernel) rfl) pa_nil)))
      (pe_one (pe_not (pe_callB call_isi (by rfl) Z.isinstance (by decide +kernel) (pa_cons (pv 0) (pa_cons (pe_bltn (v := .ty "bool") (by rfl) Z.bool (by decide +kernel) rfl) pa_nil))))))), ?_⟩
    refine ⟨_, rfl, v, _, _, _, _, rfl, .ty "int", ty_data hd, kInt d, _, rfl, ?_⟩
    cases d with
    | int i => refine iteT ⟨_, rfl, v, _, _, _, _, rfl, .ty "bool", ty_data hd, kBool (.int i), _, rfl, k'⟩
    | bool b => refine iteT ⟨_, rfl, v, _, _, _, _, rfl, .ty "bool", ty_data hd, kBool (.bool b), _, rfl, k'⟩
    | none | str _ | list _ | tuple _ | dict _ => exact iteF k'
end
end K46
namespace K46
open PySem L2 FX
theorem seqT {K : PySem.W.Frag} {H H' : Hp} {a : Addr} {xs : List V} (e : Same H H') (h : SqT K H a xs) : SqT K H' a xs := by
  rcases h with (h | ⟨o, h⟩) | h
  · exact .inl (.inl (e _ _ h))
  · exact .inl (.inr ⟨o, e _ _ h⟩)
  · exact .inr h
mutual
theorem dp_same {K : PySem.W.Frag} {H H' : Hp} (s : Same H H') : ∀ {v : V} {d : D}, Dp K H v d → Dp K H' v d
  | _, _, .non => .non
  | _, _, .bl b => .bl b
  | _, _, .int i => .int i
  | _, _, .str x => .str x
  | _, _, .lst q r => .lst (s.seq q) (dpAll_same s r)
  | _, _, .tup q r => .tup (seqT s q) (dpAll_same s r)
theorem dpAll_same {K : PySem.W.Frag} {H H' : Hp} (s : Same H H') : ∀ {vs : List V} {ds : List D}, DpAll K H vs ds → DpAll K H' vs ds
  | _, _, .nil => .nil
  | _, _, .cons h r => .cons (dp_same s h) (dpAll_same s r)
end
theorem dpAll_len {K : PySem.W.Frag} {H : Hp} : ∀ {vs : List V} {ds : List D}, DpAll K H vs ds → vs.length = ds.length
  | _, _, .nil => rfl
  | _, _, .cons _ r => congrArg Nat.succ (dpAll_len r)
theorem dpAll_at {K : PySem.W.Frag} {H : Hp} : ∀ {vs : List V} {ds : List D} {i : Nat} {d : D}, DpAll K H vs ds → ds[i]? = some d → ∃ v, vs[i]? = some v ∧ Dp K H v d
  | _, _, _, _, .nil, e => by simp at e
  | _, _, 0, _, .cons h _, e => by
    simp at e
    subst e
    exact ⟨_, rfl, h⟩
  | _, _, i + 1, _, .cons _ r, e => by
    obtain ⟨v, h1, h2⟩ := dpAll_at (i := i) r (by simpa using e)
    exact ⟨v, by simpa using h1, h2⟩
/-- a list or a tuple, told by its things -/
theorem dp_seq {K : PySem.W.Frag} {H : Hp} {v : V} {d : D} (h : Dp K H v d) (hs : isSq d = true) : ∃ a xs, v = .ref a ∧ (SqL K H a xs ∨ SqT K H a xs) ∧ DpAll K H xs (items d) := by
  cases h with
  | non => cases hs
  | bl b => cases hs
  | int i => cases hs
  | str x => cases hs
  | lst q r => exact ⟨_, _, rfl, .inl q, r⟩
  | tup q r => exact ⟨_, _, rfl, .inr q, r⟩
theorem dp_int {K : PySem.W.Frag} {H : Hp} {v : V} {d : D} (h : Dp K H v d) (hs : isI d = true) : ∃ i, v = .int i ∧ d = .int i := by
  cases h with
  | int i => exact ⟨i, rfl, rfl⟩
  | non => cases hs
  | bl b => cases hs
  | str x => cases hs
  | lst q r => cases hs
  | tup q r => cases hs
section
variable {P : Program} {w : World} {K : PySem.W.Frag} {mg : Str → Option Value} {base : Heap}
abbrev sNumber : Stmt := top 2
abbrev sBelow : Stmt := top 3
abbrev sBetween : Stmt := top 4
abbrev sSequence : Stmt := top 5
abbrev sRowOf : Stmt := top 6
abbrev sPower : Stmt := top 7
def isN (d : D) : Bool := isI d && decide (0 ≤ intV d)
def isB (m : Int) (d : D) : Bool := isN d && decide (intV d < m)
def isBt (a b : Int) (d : D) : Bool := isI d && (decide (a ≤ intV d) && decide (intV d ≤ b))
def isRow (m : Int) (d : D) : Bool := isSq d && decide (((items d).length : Int) = m)
def spB1 (K : PySem.W.Frag) (f : Int → D → Bool) : Sp := fun vs H Q _ => ∃ m v d, vs = [.int m, v] ∧ Dp K H v d ∧ ∀ H', Same H H' → Q (.bl (f m d)) H'
def spB2 (K : PySem.W.Frag) (f : Int → Int → D → Bool) : Sp := fun vs H Q _ => ∃ m n v d, vs = [.int m, .int n, v] ∧ Dp K H v d ∧ ∀ H', Same H H' → Q (.bl (f m n d)) H'
theorem and_t {a b : Bool} (h : a = true) : (a && b) = b := by rw [h]; rfl
theorem and_f {a b : Bool} (h : a = false) : (a && b) = false := by rw [h]; rfl
theorem scNumber : FnScope ["value"] ["value"] (defScope sNumber) := ⟨rfl, rfl, rfl, by decide +kernel, rfl, by decide +kernel, by decide +kernel⟩
theorem ok_number {f fI : Addr} {fd fdI : FuncData} (F : Fun K "is_number" "is_number" sNumber f fd) (Z : Bi mg) (FI : At K mg "is_integer" sInteger fI fdI ["value"]) : FnOk P w K mg base CX0 2 f fd ["value"] (spB K isN) := by
  have GI : FnOk P w K mg base CX0 1 fI fdI ["value"] (spB K isI) := ok_integer FI.F Z
  refine F.ok scNumber (fun vs H Q E h => ?_) (fun cdv A outer s H vs Q E hr h => ?_)
  · obtain ⟨v, d, rfl, _⟩ := h
    rfl
  · obtain ⟨v, d, rfl, hd, k⟩ := h
    refine ⟨_, pss_one (ps_ret (pe_and (pe_call GI hr rfl FI.g FI.F.kp FI.b .nil pass0 (by exact (pa_cons (pv 0) pa_nil))) (pe_one (pe_cmpR op_ge (pv 0) pe_int (nomark _))))), ?_⟩
    refine ⟨_, rfl, v, d, rfl, hd, fun H1 s1 => ⟨_, rfl, ?_⟩⟩
    have kk := k H1 s1
    by_cases hi : isI d = true
    · refine go_t hi ?_
      obtain ⟨i, rfl, rfl⟩ := dp_int hd hi
      exact ⟨_, rfl, _, _, rfl, rfl, kk⟩
    · have hi' : isI d = false := by simpa using hi
      refine go_f hi' ?_
      rw [show isN d = false from and_f hi'] at kk
      exact kk
theorem scBelow : FnScope ["many", "value"] ["many", "value"] (defScope sBelow) := ⟨rfl, rfl, rfl, by decide +kernel, rfl, by decide +kernel, by decide +kernel⟩
theorem ok_below {f fN : Addr} {fd fdN : FuncData} (F : Fun K "is_below" "is_below" sBelow f fd) (FN : At K mg "is_number" sNumber fN fdN ["value"]) (GN : FnOk P w K mg base CX0 2 fN fdN ["value"] (spB K isN)) :
    FnOk P w K mg base CX0 3 f fd ["many", "value"] (spB1 K isB) := by
  refine F.ok scBelow (fun vs H Q E h => ?_) (fun cdv A outer s H vs Q E hr h => ?_)
  · obtain ⟨m, v, d, rfl, _⟩ := h
    rfl
  · obtain ⟨m, v, d, rfl, hd, k⟩ := h
    refine ⟨_, pss_one (ps_ret (pe_and (pe_call GN hr rfl FN.g FN.F.kp FN.b .nil pass0 (by exact (pa_cons (pv 1) pa_nil))) (pe_one (pe_cmpR op_lt (pv 1) (pv 0) (nomark _))))), ?_⟩
    refine ⟨_, rfl, v, d, rfl, hd, fun H1 s1 => ⟨_, rfl, ?_⟩⟩
    have kk := k H1 s1
    by_cases hi : isN d = true
    · refine go_t hi ?_
      obtain ⟨i, rfl, rfl⟩ := dp_int hd (by
        unfold isN at hi
        simp only [Bool.and_eq_true] at hi
        exact hi.1)
      rw [show isB m (.int i) = decide (i < m) from and_t hi] at kk
      exact ⟨_, rfl, _, rfl, _, _, rfl, rfl, kk⟩
    · have hi' : isN d = false := by simpa using hi
      refine go_f hi' ?_
      rw [show isB m d = false from and_f hi'] at kk
      exact kk
theorem scBetween : FnScope ["least", "most", "value"] ["least", "most", "value"] (defScope sBetween) := ⟨rfl, rfl, rfl, by decide +kernel, rfl, by decide +kernel, by decide +kernel⟩
theorem ok_between {f fI : Addr} {fd fdI : FuncData} (F : Fun K "is_between" "is_between" sBetween f fd) (FI : At K mg "is_integer" sInteger fI fdI ["value"]) (GI : FnOk P w K mg base CX0 1 fI fdI ["value"] (spB K isI)) :
    FnOk P w K mg base CX0 2 f fd ["least", "most", "value"] (spB2 K isBt) := by
  refine F.ok scBetween (fun vs H Q E h => ?_) (fun cdv A outer s H vs Q E hr h => ?_)
  · obtain ⟨m, n, v, d, rfl, _⟩ := h
    rfl
  · obtain ⟨m, n, v, d, rfl, hd, k⟩ := h
    refine ⟨_, pss_one (ps_ret (pe_and (pe_call GI hr rfl FI.g FI.F.kp FI.b .nil pass0 (by exact (pa_cons (pv 2) pa_nil))) (pe_one (pe_chain op_le op_le (pv 0) (pv 2) (pv 1))))), ?_⟩
    refine ⟨_, rfl, v, d, rfl, hd, fun H1 s1 => ⟨_, rfl, ?_⟩⟩
    have kk := k H1 s1
    by_cases hi : isI d = true
    · refine go_t hi ?_
      obtain ⟨i, rfl, rfl⟩ := dp_int hd hi
      refine ⟨_, rfl, _, rfl, _, _, rfl, rfl, _, rfl, ?_⟩
      rw [show isBt m n (.int i) = (decide (m ≤ i) && decide (i ≤ n)) from rfl] at kk
      by_cases h1 : m ≤ i
      · refine go_t (decide_eq_true h1) ?_
        rw [and_t (decide_eq_true h1)] at kk
        exact ⟨_, rfl, _, _, rfl, rfl, kk⟩
      · refine go_f (decide_eq_false h1) ?_
        rw [and_f (decide_eq_false h1)] at kk
        exact kk
    · have hi' : isI d = false := by simpa using hi
      refine go_f hi' ?_
      rw [show isBt m n d = false from and_f hi'] at kk
      exact kk
theorem scSequence : FnScope ["value"] ["value"] (defScope sSequence) := ⟨rfl, rfl, rfl, by decide +kernel, rfl, by decide +kernel, by decide +kernel⟩
theorem kSq {K : PySem.W.Frag} (d : D) : PySem.W.kitAny K (.type (tyN d)) [.type "list", .type "tuple"] = some (isSq d) := by
  unfold PySem.W.kitAny PySem.W.kitAny PySem.W.kitAny
  rw [kList d, kTuple d]
  cases d <;> rfl
theorem ok_sequence {f : Addr} {fd : FuncData} (F : Fun K "is_sequence" "is_sequence" sSequence f fd) (Z : Bi mg) : FnOk P w K mg base CX0 1 f fd ["value"] (spB K isSq) := by
  refine F.ok scSequence (fun vs H Q E h => ?_) (fun cdv A outer s H vs Q E hr h => ?_)
  · obtain ⟨v, d, rfl, _⟩ := h
    rfl
  · obtain ⟨v, d, rfl, hd, k⟩ := h
    refine ⟨_, pss_one (ps_ret (pe_callB call_isiT (by rfl) Z.isinstance (by decide +kernel) (pa_cons (pv 0) (pa_cons (pe_tup (pa_cons (pe_bltn (v := .ty "list") (by rfl) Z.list (by decide +kernel) rfl) (pa_cons (pe_bltn (v := .ty "tuple") (by rfl) Z.tuple (by decide +kernel) rfl) pa_nil))) pa_nil)))), ?_⟩
    refine ⟨_, rfl, (by show 2 ≤ sizeLine; decide), fun t ht => ?_⟩
    have s1 : Same H (upd H t (.tup [.ty "list", .ty "tuple"])) := fun c o e => by
      rw [upd_ne (ne_of_none e ht)]
      exact e
    exact ⟨v, t, _, _, _, _, rfl, upd_same, .cons (.ty "list") (.cons (.ty "tuple") .nil), ty_data (dp_same s1 hd), kSq d, k _ s1⟩
theorem scRowOf : FnScope ["many", "value"] ["many", "value"] (defScope sRowOf) := ⟨rfl, rfl, rfl, by decide +kernel, rfl, by decide +kernel, by decide +kernel⟩
theorem ok_rowOf {f fS : Addr} {fd fdS : FuncData} (F : Fun K "is_row_of" "is_row_of" sRowOf f fd) (Z : Bi mg) (FS : At K mg "is_sequence" sSequence fS fdS ["value"]) (GS : FnOk P w K mg base CX0 1 fS fdS ["value"] (spB K isSq)) :
    FnOk P w K mg base CX0 2 f fd ["many", "value"] (spB1 K isRow) := by
  refine F.ok scRowOf (fun vs H Q E h => ?_) (fun cdv A outer s H vs Q E hr h => ?_)
  · obtain ⟨m, v, d, rfl, _⟩ := h
    rfl
  · obtain ⟨m, v, d, rfl, hd, k⟩ := h
    refine ⟨_, pss_one (ps_ret (pe_and (pe_call GS hr rfl FS.g FS.F.kp FS.b .nil pass0 (by exact (pa_cons (pv 1) pa_nil))) (pe_one (pe_cmpR op_eq (pe_callB call_len_seq (by rfl) Z.len PySem.boot_len (pa_cons (pv 1) pa_nil)) (pv 0) (nomark _))))), ?_⟩
    refine ⟨_, rfl, v, d, rfl, hd, fun H1 s1 => ⟨_, rfl, ?_⟩⟩
    have kk := k H1 s1
    by_cases hi : isSq d = true
    · refine go_t hi ?_
      obtain ⟨a, xs, rfl, q, r⟩ := dp_seq (dp_same s1 hd) hi
      rw [show isRow m d = decide (((items d).length : Int) = m) from and_t hi, ← dpAll_len r] at kk
      refine ⟨_, rfl, a, xs, rfl, q, _, rfl, rfl, ?_⟩
      rw [show decide (V.int xs.length = V.int m) = decide ((xs.length : Int) = m) from by
        by_cases e : (xs.length : Int) = m
        · rw [decide_eq_true e, decide_eq_true (congrArg V.int e)]
        · rw [decide_eq_false e, decide_eq_false fun z => e (V.int.inj z)]]
      exact kk
    · have hi' : isSq d = false := by simpa using hi
      refine go_f hi' ?_
      rw [show isRow m d = false from and_f hi'] at kk
      exact kk
def pow' (b : Int) : Nat → Int
  | 0 => 1
  | n + 1 => pow' b n * b
def spPower : Sp := fun vs H Q _ => ∃ (b : Int) (n : Nat), vs = [.int b, .int n] ∧ 0 ≤ b ∧ b < 100 ∧ n < 100 ∧ Q (.int (pow' b n)) H
theorem scPower : FnScope ["base", "times", "product_now", "_"] ["base", "times"] (defScope sPower) := ⟨rfl, rfl, rfl, by decide +kernel, rfl, by decide +kernel, by decide +kernel⟩
theorem ok_power {f : Addr} {fd : FuncData} (F : Fun K "power" "power" sPower f fd) (Z : Bi mg) : FnOk P w K mg base CX0 1 f fd ["base", "times"] spPower := by
  refine F.ok scPower (fun vs H Q E h => ?_) (fun cdv A outer s H vs Q E hr h => ?_)
  · obtain ⟨m, v, rfl, _⟩ := h
    rfl
  · obtain ⟨b, n, rfl, b0, b1, hn, k⟩ := h
    refine ⟨_, pss_cons (ps_set (i := 2) scPower.nd rfl (Or.inl rfl) pe_int)
      (pss_cons (ps_for PassesOwn.never rfl (pi_range1 rfl Z.range (pa_cons (pv 1) pa_nil)) (pg_name (i := 3) scPower.nd rfl (Or.inl rfl))
        (pss_one (ps_aug (i := 2) scPower.nd rfl (Or.inl rfl) (pv 0) iop_mul)))
      (pss_one (ps_ret (pv 2)))), ?_⟩
    refine ⟨_, rfl, n, rfl, by omega, by omega, ?_⟩
    have e0 : ((n : Int)).toNat = n := by omega
    rw [e0]
    refine for_range (n := n) (fun i σ H' => ∃ u : Option V, σ = [some (.int b), some (.int n), some (.int (pow' b i)), u] ∧ H' = H) ⟨none, rfl, rfl⟩ ?_ ?_
    · rintro i σ H' hi ⟨u, rfl, rfl⟩
      exact ⟨_, rfl, _, rfl, _, _, rfl, rfl, .inr ⟨by omega, by omega⟩, _, rfl, rfl⟩
    · rintro σ H' ⟨u, rfl, rfl⟩
      exact ⟨_, rfl, k⟩
end
end K46
namespace K46
open PySem L2 FX
/-- the loop of a walk, whatever a turn does -/
theorem walk_it {J : It} {n : Nat} {G : Hp → Prop} {Y : Nat → Hp → V → Hp → Prop} (w : Walk J n G Y) {H0 : Hp} {B : V → Hp → (Hp → Prop) → Prop} {Qd : Hp → Prop} (Pv : Nat → Hp → Prop) (h0 : Pv 0 H0) (hG : ∀ i H, i ≤ n → Pv i H → G H)
    (hs : ∀ i x H H', i < n → Pv i H → Y i H x H' → B x H' (Pv (i + 1))) (hd : ∀ H, Pv n H → Qd H) :
    ∃ W : Nat → Nat → Hp → Prop, (∃ m, W 0 m H0) ∧ ∀ i m H, W i m H → (J.stop i H ∧ Qd H) ∨ (J.go i H ∧ ∃ Nx : Hp → Prop, (∀ H', Nx H' → ∃ m', m' < m ∧ W (i + 1) m' H') ∧ ∀ x H', J.yld i H x H' → B x H' Nx) := by
  refine ⟨fun i m H => m = n - i ∧ i ≤ n ∧ Pv i H, ⟨n, by simp, Nat.zero_le _, h0⟩, ?_⟩
  rintro i m H ⟨rfl, hi, p⟩
  by_cases hlt : i < n
  · exact .inr ⟨w.goes i H hlt (hG i H hi p), Pv (i + 1), fun H' p' => ⟨n - (i + 1), by omega, rfl, hlt, p'⟩, fun x H' y => hs i x H H' hlt p (w.yields i H x H' hlt (hG i H hi p) y)⟩
  · have e : i = n := by omega
    subst e
    exact .inl ⟨w.stops H (hG _ H hi p), hd H p⟩
/-! ### a list in the making -/
def off (H : Hp) (a : Addr) : Hp := fun b => if b = a then none else H b
theorem off_ne {H : Hp} {a b : Addr} (h : b ≠ a) : off H a b = H b := if_neg h
theorem off_same {H : Hp} {a : Addr} : off H a a = none := if_pos rfl
theorem off_upd {H : Hp} {a : Addr} {o : HO} : off (upd H a o) a = off H a := by
  funext b
  by_cases h : b = a
  · rw [h, off_same, off_same]
  · rw [off_ne h, off_ne h, upd_ne h]
theorem off_le {H : Hp} {a : Addr} : Same (off H a) H := fun c o e => by
  by_cases h : c = a
  · rw [h, off_same] at e
    cases e
  · rw [off_ne h] at e
    exact e
theorem off_mono {H H' : Hp} {a : Addr} (s : ∀ c o, c ≠ a → H c = some o → H' c = some o) : Same (off H a) (off H' a) := fun c o e => by
  by_cases h : c = a
  · rw [h, off_same] at e
    cases e
  · rw [off_ne h] at e ⊢
    exact s c o h e
/-- at a stands a list that is still filled: its things don't hang on it -/
def Grow (K : PySem.W.Frag) (H : Hp) (a : Addr) (ds : List D) : Prop := ∃ vs, H a = some (.lst vs) ∧ DpAll K (off H a) vs ds
theorem Grow.nil {K : PySem.W.Frag} {H : Hp} {a : Addr} : Grow K (upd H a (.lst [])) a [] := ⟨[], upd_same, .nil⟩
theorem Grow.dp {K : PySem.W.Frag} {H : Hp} {a : Addr} {ds : List D} (g : Grow K H a ds) : Dp K H (.ref a) (.list ds) := by
  obtain ⟨vs, e, r⟩ := g
  exact .lst (SqL.of e) (dpAll_same off_le r)
theorem Grow.keep {K : PySem.W.Frag} {H H' : Hp} {a : Addr} {ds : List D} (g : Grow K H a ds) (s : Same H H') : Grow K H' a ds := by
  obtain ⟨vs, e, r⟩ := g
  exact ⟨vs, s _ _ e, dpAll_same (off_mono fun c o _ q => s c o q) r⟩
theorem dpAll_snoc {K : PySem.W.Frag} {H : Hp} : ∀ {vs : List V} {ds : List D} {v : V} {d : D}, DpAll K H vs ds → Dp K H v d → DpAll K H (vs ++ [v]) (ds ++ [d])
  | _, _, _, _, .nil, h => .cons h .nil
  | _, _, _, _, .cons h r, q => .cons h (dpAll_snoc r q)
theorem dpAll_app {K : PySem.W.Frag} {H : Hp} : ∀ {vs ws : List V} {ds es : List D}, DpAll K H vs ds → DpAll K H ws es → DpAll K H (vs ++ ws) (ds ++ es)
  | _, _, _, _, .nil, h => h
  | _, _, _, _, .cons h r, q => .cons h (dpAll_app r q)
/-- a thing is put behind all: it doesn't hang on the list -/
theorem Grow.put {K : PySem.W.Frag} {H : Hp} {a : Addr} {ds : List D} {acc : List V} {v : V} {d : D} (g : Grow K H a ds) (e : H a = some (.lst acc)) (h : Dp K (off H a) v d) : Grow K (upd H a (.lst (acc ++ [v]))) a (ds ++ [d]) := by
  obtain ⟨vs, e', r⟩ := g
  rw [e] at e'
  cases e'
  refine ⟨_, upd_same, ?_⟩
  rw [off_upd]
  exact dpAll_snoc r h
theorem Grow.len {K : PySem.W.Frag} {H : Hp} {a : Addr} {ds : List D} {acc : List V} (g : Grow K H a ds) (e : H a = some (.lst acc)) : acc.length = ds.length := by
  obtain ⟨vs, e', r⟩ := g
  rw [e] at e'
  cases e'
  exact dpAll_len r
/-- what stood ahead of the list doesn't hang on it -/
theorem dp_off {K : PySem.W.Frag} {H0 H : Hp} {a : Addr} {v : V} {d : D} (h : Dp K H0 v d) (s : Same H0 H) (n : H0 a = none) : Dp K (off H a) v d :=
  dp_same (fun c o e => by
    rw [off_ne (ne_of_none e n)]
    exact s c o e) h
theorem same_new {H : Hp} {l : Addr} {o : HO} (h : H l = none) : Same H (upd H l o) := fun c u e => by
  rw [upd_ne (ne_of_none e h)]
  exact e
/-- H, but for a, is kept by a change of a alone -/
theorem same_of {H0 H : Hp} {a : Addr} {o : HO} (s : Same H0 H) (n : H0 a = none) : Same H0 (upd H a o) := fun c u e => by
  rw [upd_ne (ne_of_none e n)]
  exact s c u e
/-! ### all rows of choices -/
def stepRows (acc : List (List D)) (c : List D) : List (List D) := acc.flatMap fun r => c.map fun x => r ++ [x]
def rowsOf (css : List (List D)) : List (List D) := css.foldl stepRows [[]]
theorem flat_len {α β : Type} {f : α → List β} {m : Nat} (h : ∀ r, (f r).length ≤ m) : ∀ l : List α, (l.flatMap f).length ≤ m * l.length
  | [] => by simp
  | r :: l => by
    have h1 := flat_len h l
    have h2 := h r
    rw [List.flatMap_cons, List.length_append, List.length_cons, Nat.mul_add, Nat.mul_one]
    omega
theorem rows_len (css : List (List D)) : ∀ (acc : List (List D)) (n : Nat), (∀ r ∈ acc, r.length = n) → ∀ r ∈ css.foldl stepRows acc, r.length = n + css.length := by
  induction css with
  | nil => exact fun acc n h r hr => h r hr
  | cons c css ih =>
    intro acc n h r hr
    have q := ih (stepRows acc c) (n + 1) (fun r' hr' => by
      obtain ⟨r0, h0, hm⟩ := List.mem_flatMap.mp hr'
      obtain ⟨x, _, rfl⟩ := List.mem_map.mp hm
      rw [List.length_append, h r0 h0]
      rfl) r hr
    rw [q, List.length_cons]
    omega
theorem rows_many (css : List (List D)) (hc : ∀ c ∈ css, c.length ≤ 8) : ∀ acc : List (List D), (css.foldl stepRows acc).length ≤ 8 ^ css.length * acc.length := by
  induction css with
  | nil => exact fun acc => by simp
  | cons c css ih =>
    intro acc
    have h1 := ih (fun c' h' => hc c' (List.mem_cons_of_mem _ h')) (stepRows acc c)
    have h2 : (stepRows acc c).length ≤ 8 * acc.length := flat_len (fun r => by rw [List.length_map]; exact hc c (List.mem_cons_self ..)) acc
    have h3 : 8 ^ css.length * (stepRows acc c).length ≤ 8 ^ css.length * (8 * acc.length) := Nat.mul_le_mul_left _ h2
    rw [List.foldl_cons, List.length_cons, Nat.pow_succ, Nat.mul_assoc]
    exact Nat.le_trans h1 h3
theorem take_more {α : Type} : ∀ {l : List α} {i : Nat} {x : α}, l[i]? = some x → l.take (i + 1) = l.take i ++ [x]
  | [], i, x, h => by simp at h
  | a :: l, 0, x, h => by
    simp at h
    subst h
    rfl
  | a :: l, i + 1, x, h => by
    have ih := take_more (l := l) (i := i) (x := x) (by simpa using h)
    show a :: l.take (i + 1) = a :: l.take i ++ [x]
    rw [ih]
    rfl
abbrev rowD (r : List D) : D := .tuple r
section
variable {P : Program} {w : World} {K : PySem.W.Frag} {mg : Str → Option Value} {base : Heap}
abbrev sRows : Stmt := top 9
/-- choices: a list of lists -/
def spRows (K : PySem.W.Frag) : Sp := fun vs H Q _ => ∃ (v : V) (css : List (List D)), vs = [v] ∧ Dp K H v (.list (css.map .list)) ∧ css.length ≤ 4 ∧ (∀ c ∈ css, c.length ≤ 8) ∧
  ∀ H' w, Same H H' → Dp K H' w (.list ((rowsOf css).map rowD)) → Q w H'
theorem dp_list {K : PySem.W.Frag} {H : Hp} {v : V} {ds : List D} (h : Dp K H v (.list ds)) : ∃ a xs, v = .ref a ∧ SqL K H a xs ∧ DpAll K H xs ds := by
  cases h with
  | lst q r => exact ⟨_, _, rfl, q, r⟩
theorem dp_tup {K : PySem.W.Frag} {H : Hp} {v : V} {ds : List D} (h : Dp K H v (.tuple ds)) : ∃ a xs, v = .ref a ∧ SqT K H a xs ∧ DpAll K H xs ds := by
  cases h with
  | tup q r => exact ⟨_, _, rfl, q, r⟩
theorem dpAll_get {K : PySem.W.Frag} {H : Hp} : ∀ {vs : List V} {ds : List D} {i : Nat} {v : V}, DpAll K H vs ds → vs[i]? = some v → ∃ d, ds[i]? = some d ∧ Dp K H v d
  | _, _, _, _, .nil, e => by simp at e
  | _, _, 0, _, .cons h _, e => by
    simp at e
    subst e
    exact ⟨_, rfl, h⟩
  | _, _, i + 1, _, .cons _ r, e => by
    obtain ⟨d, h1, h2⟩ := dpAll_get (i := i) r (by simpa using e)
    exact ⟨d, by simpa using h1, h2⟩
abbrev NRows : List Str := ["choices", "rows", "things", "row", "thing"]
theorem scRows : FnScope NRows ["choices"] (defScope sRows) := ⟨rfl, rfl, rfl, by decide +kernel, rfl, by decide +kernel, by decide +kernel⟩
theorem ok_rows {f : Addr} {fd : FuncData} (F : Fun K "all_rows" "all_rows" sRows f fd) : FnOk P w K mg base CX0 1 f fd ["choices"] (spRows K) := by
  refine F.ok scRows (fun vs H Q E h => ?_) (fun cdv A outer s H vs Q E hr h => ?_)
  · obtain ⟨v, css, rfl, _⟩ := h
    rfl
  · obtain ⟨v, css, rfl, hd, h4, h8, k⟩ := h
    obtain ⟨a, xs, rfl, q, r⟩ := dp_list hd
    refine ⟨_, pss_cons (ps_set (i := 1) scRows.nd rfl (Or.inl rfl) (pe_lst (by exact (pa_cons (pe_tup pa_nil) pa_nil))))
      (pss_cons (ps_for PassesOwn.never rfl (pi_list (pv 0)) (pg_name (i := 2) scRows.nd rfl (Or.inr rfl))
        (pss_one (ps_setLc2 (i := 1) (own := [("row", 3), ("thing", 4)]) (vs1 := [4]) (g := gName 3) (tt := tYes) (g1 := gName 4) (tt1 := tYes) (wi1 := iList K (tVar 2)) (te := tTup (StX.tStar K (tVar 3) (tCons (tVar 4) tNil))) rfl scRows.nd rfl rfl (sw_true rfl rfl rfl (by decide +kernel)) (pi_list (pv 1)) (blkOk_by (N := NRows) (sc := defScope sRows) (by decide +kernel)) (by decide)
          (fun _ _ _ _ _ => pg_name (i := 3) scRows.nd rfl (Or.inl rfl)) (fun _ _ _ _ _ => pts_nil) (fun _ _ _ _ _ => pi_list (pv 2)) (fun _ _ _ _ _ => pg_name (i := 4) scRows.nd rfl (Or.inl rfl)) (fun _ _ _ _ _ => pts_nil)
          (fun _ _ _ _ _ => pe_tup (StX.pa_star (pv 3) (pa_cons (pv 4) pa_nil))))))
      (pss_one (ps_ret (pv 1)))), ?_⟩
    refine ⟨(by show 0 ≤ sizeLine; decide), fun t ht => ⟨(by show 1 ≤ sizeLine; decide), fun L hL => ?_⟩⟩
    have s0 : Same H (upd (upd H t (.tup [])) L (.lst [.ref t])) := (same_new ht).trans (same_new hL)
    have d0 : Dp K (upd (upd H t (.tup [])) L (.lst [.ref t])) (.ref L) (.list ([[]].map rowD)) := .lst (SqL.of upd_same) (.cons (.tup (SqT.of ((same_new hL) _ _ upd_same)) .nil) .nil)
    refine ⟨_, rfl, a, rfl, ⟨_, s0.seq q⟩, for_list (K := K) (a := a) (xs := xs) (fun i σ H' => ∃ (Li : V) (u : Option V), σ = [some (.ref a), some Li, u, none, none] ∧ Same H H' ∧ Dp K H' Li (.list (((css.take i).foldl stepRows [[]]).map rowD)))
      ⟨_, none, rfl, s0, d0⟩ (fun i σ H' _ ⟨_, _, _, s1, _⟩ => s1.seq q) ?_ ?_⟩
    · rintro i y σ H1 hi ⟨Li, u, rfl, s1, dL⟩
      obtain ⟨dc, hc, hy⟩ := dpAll_get r hi
      obtain ⟨c, hcc, rfl⟩ : ∃ c, css[i]? = some c ∧ dc = .list c := by
        rw [List.getElem?_map] at hc
        cases e : css[i]? with
        | none =>
          rw [e] at hc
          cases hc
        | some c =>
          rw [e] at hc
          exact ⟨c, rfl, (Option.some.inj hc).symm⟩
      have hil : i < css.length := (List.getElem?_eq_some_iff.mp hcc).1
      have hc8 : c.length ≤ 8 := h8 c (List.mem_of_getElem? hcc)
      obtain ⟨ac, xc, rfl, qc, rc⟩ := dp_list (dp_same s1 hy)
      obtain ⟨aL, xL, rfl, qL, rL⟩ := dp_list dL
      generalize hrows : (css.take i).foldl stepRows [[]] = rows at rL dL
      have many : rows.length ≤ 8 ^ 4 := by
        have h1 := rows_many (css.take i) (fun c' h' => h8 c' (List.mem_of_mem_take h')) [[]]
        rw [hrows, List.length_take, List.length_singleton, Nat.mul_one] at h1
        exact Nat.le_trans h1 (Nat.pow_le_pow_right (by decide) (by omega))
      have long : ∀ r' ∈ rows, r'.length ≤ 4 := fun r' h' => by
        have h1 := rows_len (css.take i) [[]] 0 (fun r'' h'' => by
          rw [List.mem_singleton] at h''
          subst h''
          rfl) r' (by rw [hrows]; exact h')
        rw [h1, List.length_take]
        omega
      have fl : ∀ r' : List D, (c.map fun x => rowD (r' ++ [x])).length ≤ 8 := fun r' => by
        rw [List.length_map]
        exact hc8
      refine ⟨_, rfl, aL, rfl, ⟨_, qL⟩, fun D hD => walk_it walk_list (fun j H2 => Same H1 H2 ∧ Grow K H2 D ((rows.take j).flatMap fun r' => c.map fun x => rowD (r' ++ [x]))) ⟨same_new hD, Grow.nil⟩ (fun _ _ _ p => p.1.seq qL) ?_ ?_⟩
      · rintro j x _ H2 hj ⟨s2, g2⟩ ⟨rfl, hx⟩
        refine ⟨rfl, ?_⟩
        obtain ⟨dr, hr', hxd⟩ := dpAll_get rL hx
        obtain ⟨r', hrr, rfl⟩ : ∃ r', rows[j]? = some r' ∧ dr = rowD r' := by
          rw [List.getElem?_map] at hr'
          cases e : rows[j]? with
          | none =>
            rw [e] at hr'
            cases hr'
          | some c =>
            rw [e] at hr'
            exact ⟨c, rfl, (Option.some.inj hr').symm⟩
        obtain ⟨ar, xr, rfl, qr, rr⟩ := dp_tup hxd
        have lr := long r' (List.mem_of_getElem? hrr)
        refine ⟨_, rfl, ac, rfl, ⟨_, s2.seq qc⟩, walk_it walk_list (fun k H3 => Same H1 H3 ∧ Grow K H3 D (((rows.take j).flatMap fun r' => c.map fun x => rowD (r' ++ [x])) ++ (c.take k).map fun x => rowD (r' ++ [x])))
          ⟨s2, by simpa using g2⟩ (fun _ _ _ p => p.1.seq qc) ?_ ?_⟩
        · rintro k z _ H3 hk ⟨s3, g3⟩ ⟨rfl, hz⟩
          refine ⟨rfl, ?_⟩
          obtain ⟨dz, hz1, hzd⟩ := dpAll_get rc hz
          refine ⟨_, rfl, ar, xr, rfl, .inl (seqT s3 qr), _, rfl, ?_⟩
          refine ⟨by
            have := dpAll_len rr
            rw [List.length_append, this]
            show r'.length + 1 ≤ sizeLine
            rw [sizeLine_eq]
            omega, fun t2 ht2 => ?_⟩
          obtain ⟨acc, eD, _⟩ := id g3
          have nt : D ≠ t2 := ne_of_none eD ht2
          have eD2 : upd H3 t2 (.tup (xr ++ [z])) D = some (.lst acc) := by
            rw [upd_ne nt]
            exact eD
          have lacc := g3.len eD
          refine ⟨acc, eD2, ?_, same_of (s3.trans (same_new ht2)) hD, ?_⟩
          · have h1 := flat_len fl (rows.take j)
            rw [List.length_append, List.length_map] at lacc
            rw [List.length_take] at h1 lacc
            rw [lacc, sizeLine_eq]
            omega
          · have e1 : ((rows.take j).flatMap fun r' => c.map fun x => rowD (r' ++ [x])) ++ (c.take (k + 1)).map (fun x => rowD (r' ++ [x])) = (((rows.take j).flatMap fun r' => c.map fun x => rowD (r' ++ [x])) ++ (c.take k).map fun x => rowD (r' ++ [x])) ++ [rowD (r' ++ [dz])] := by
              rw [take_more hz1, List.map_append, ← List.append_assoc]
              rfl
            rw [e1]
            refine (g3.keep (same_new ht2)).put eD2 ?_
            have sd := same_new (o := .tup (xr ++ [z])) ht2
            refine .tup (SqT.of (by rw [off_ne (Ne.symm nt), upd_same])) (dpAll_snoc ?_ ?_)
            · exact dpAll_same (fun c' o' e' => by
                rw [off_ne (ne_of_none e' hD)]
                exact sd _ _ (s3 _ _ e')) rr
            · exact dp_off hzd (s3.trans sd) hD
        · rintro H3 ⟨s3, g3⟩
          refine ⟨s3, ?_⟩
          have e1 : (rows.take (j + 1)).flatMap (fun r' => c.map fun x => rowD (r' ++ [x])) = ((rows.take j).flatMap fun r' => c.map fun x => rowD (r' ++ [x])) ++ (c.map fun x => rowD (r' ++ [x])) := by
            rw [take_more hrr, List.flatMap_append]
            simp
          rw [e1]
          have lc : xc.length = c.length := dpAll_len rc
          rw [lc, List.take_length] at g3
          exact g3
      · rintro H2 ⟨s2, g2⟩
        refine ⟨.ref D, _, rfl, s1.trans s2, ?_⟩
        have lL : xL.length = rows.length := by
          rw [dpAll_len rL, List.length_map]
        rw [lL, List.take_length] at g2
        have e1 : ((css.take (i + 1)).foldl stepRows [[]]).map rowD = rows.flatMap fun r' => c.map fun x => rowD (r' ++ [x]) := by
          rw [take_more hcc, List.foldl_append, hrows]
          show (stepRows rows c).map rowD = _
          unfold stepRows
          rw [List.map_flatMap]
          simp only [List.map_map]
          rfl
        rw [e1]
        exact g2.dp
    · rintro σ H' ⟨Li, u, rfl, s1, dL⟩
      have lx : xs.length = css.length := by
        rw [dpAll_len r, List.length_map]
      rw [lx, List.take_length] at dL
      exact ⟨_, rfl, k _ _ s1 dL⟩
end
end K46
/-! Walks over lists and tuples alike: zip of any two. -/
namespace SQ
open PySem PySem.Spec PyProof.Rows L2
/-- a list or a tuple -/
inductive Kd | L | T
def SqK (K : PySem.W.Frag) (H : Hp) : Kd → Addr → List V → Prop
  | .L => SqL K H
  | .T => SqT K H
def AtK (h : Heap) : Kd → Addr → Array Value → Prop
  | .L => h.IsList
  | .T => h.IsTuple
def ItK (h : Heap) : Kd → Addr → Addr → Nat → Prop
  | .L => h.IsListIter
  | .T => h.IsTupleIter
def itO : Kd → Addr → Obj
  | .L, a => { cls := .type "list_iterator", data := .fields #[.ref a, .int 0 0] }
  | .T, a => { cls := .type "tuple_iterator", data := .fields #[.ref a, .int 0 0] }
theorem draws {prog : Program} {w : World} {A : Around} (hh : A.handled = none) (it a : Addr) (hne : a ≠ it) (its : Array Value) : ∀ k : Kd, Draws prog w A it [it, a] its.size (fun i v => its[i]? = some v) (fun i h => ItK h k it a i ∧ AtK h k a its)
  | .L => Draws.list hh it a hne its
  | .T => Draws.tuple hh it a hne its
theorem begins (a : Addr) (its : Array Value) : ∀ k : Kd, Begins (.ref a) (itO k a) fun h => AtK h k a its
  | .L => begins_list a its
  | .T => begins_tuple a its
theorem it_obj {h : Heap} {it a : Addr} {i : Nat} : ∀ {k : Kd}, ItK h k it a i → ∃ o, h.get? it = some o ∧ ∀ v, o.data ≠ .cell v
  | .L, x => by
    obtain ⟨o, e, _, d⟩ := x
    exact ⟨o, e, fun v q => by rw [d] at q; cases q⟩
  | .T, x => by
    obtain ⟨o, e, _, d⟩ := x
    exact ⟨o, e, fun v q => by rw [d] at q; cases q⟩
theorem it_keep {h h' : Heap} {it a : Addr} {i : Nat} (kp : ∀ o, h.get? it = some o → h'.get? it = some o) : ∀ {k : Kd}, ItK h k it a i → ItK h' k it a i
  | .L, x => x.at kp
  | .T, x => x.at kp
theorem it_new {h : Heap} {it a : Addr} : ∀ {k : Kd}, h.get? it = some (itO k a) → ItK h k it a 0
  | .L, e => ⟨_, e, rfl, rfl⟩
  | .T, e => ⟨_, e, rfl, rfl⟩
section
variable {X : Cx} {pins : List (Addr × Obj)} {σ : L2.St} {H : Hp} {s : Shared}
theorem there (I : Inv X pins σ H s) {a : Addr} {xs : List V} : ∀ {k : Kd}, SqK X.K H k a xs → ∃ its : List Value, Vals xs its ∧ AtK s.heap k a its.toArray ∧ a < s.heap.objs.size
  | .L, q => by
    obtain ⟨its, r, p, _⟩ := I.list q
    exact ⟨its, r, p.isList, p.lt⟩
  | .T, q => by
    obtain ⟨its, r, p, _⟩ := I.tuple q
    obtain ⟨o, e, _⟩ := id p
    exact ⟨its, r, p, Heap.lt_size e⟩
theorem one (I : Inv X pins σ H s) {a : Addr} {xs ys : List V} : ∀ {k : Kd}, SqK X.K H k a xs → SqK X.K H k a ys → xs = ys
  | .L, q, q' => I.list_inj q q'
  | .T, q, q' => I.tuple_inj q q'
end
/-- the two as they stand at each turn, the items in new pairs -/
def Itz2 (K : PySem.W.Frag) (k k' : Kd) (a b : Addr) : It :=
  ⟨fun i H => ∃ (xs ys : List V) (x y : V), SqK K H k a xs ∧ SqK K H k' b ys ∧ xs[i]? = some x ∧ ys[i]? = some y,
    fun i H v H' => ∃ T x y, v = .ref T ∧ H T = none ∧ H' = upd H T (.tup [x, y]) ∧ (∀ xs, SqK K H k a xs → xs[i]? = some x) ∧ ∀ ys, SqK K H k' b ys → ys[i]? = some y,
    fun i H => ∃ xs ys : List V, SqK K H k a xs ∧ SqK K H k' b ys ∧ i = min xs.length ys.length⟩
theorem walk_zip2 {K : PySem.W.Frag} {k k' : Kd} {a b : Addr} {xs ys : List V} {n : Nat} (hn : n = min xs.length ys.length) : Walk (Itz2 K k k' a b) n (fun H => SqK K H k a xs ∧ SqK K H k' b ys) (YPair (fun i => xs[i]?) (fun i => ys[i]?)) := by
  subst hn
  refine ⟨fun i _ hi q => ?_, fun _ q => ⟨xs, ys, q.1, q.2, rfl⟩, fun i H v H' _ q y => ?_⟩
  · have h1 : i < xs.length := by omega
    have h2 : i < ys.length := by omega
    exact ⟨xs, ys, xs[i], ys[i], q.1, q.2, by simp [h1], by simp [h2]⟩
  · obtain ⟨T, x, z, h1, h2, h3, h4, h5⟩ := y
    exact ⟨T, x, z, h1, h2, h3, h4 xs q.1, h5 ys q.2⟩
theorem turn_zip2 {P : Program} {w : World} {K : PySem.W.Frag} {elts : List Expr} {kk : Nat} {tpos : Pos} {k k' : Kd} {a b z TI TO i1 i2 : Addr} (S : ZipSep2 z TI TO i1 i2 [i1, a] [i2, b]) (ne1 : a ≠ i1) (ne2 : b ≠ i2) :
    Turn P w K (.Tuple elts kk tpos) (Itz2 K k k' a b) [z, TI, TO, i1, i2] z (fun i h => IsZip h z TI TO .none ∧ IsTupOf2 h TI (.ref i1) (.ref i2) ∧ (∃ x y, IsTupOf2 h TO x y) ∧ ItK h k i1 a i ∧ ItK h k' i2 b i) where
  mem := by simp
  obj := fun i h st c hc => by
    obtain ⟨hz, hTI, ⟨x, y, hTO⟩, h1, h2⟩ := st
    have e' : c = z ∨ c = TI ∨ c = TO ∨ c = i1 ∨ c = i2 := by simpa using hc
    rcases e' with q | q | q | q | q
    · subst q
      exact ⟨_, hz, fun v q => nomatch q⟩
    · subst q
      exact ⟨_, hTI, fun v q => nomatch q⟩
    · subst q
      exact ⟨_, hTO, fun v q => nomatch q⟩
    · subst q
      exact it_obj h1
    · subst q
      exact it_obj h2
  keep := fun i h h' st kp => by
    obtain ⟨hz, hTI, ⟨x, y, hTO⟩, h1, h2⟩ := st
    exact ⟨kp z (by simp) _ hz, kp TI (by simp) _ hTI, ⟨x, y, kp TO (by simp) _ hTO⟩, it_keep (kp i1 (by simp)) h1, it_keep (kp i2 (by simp)) h2⟩
  item := by
    intro X hP hw hK hc i pins s σ H E I hf st hg
    subst hP hw hK
    obtain ⟨hz, hTI, hTO, h1, h2⟩ := st
    obtain ⟨xs, ys, x, y, qx, qy, hx, hy⟩ := hg
    obtain ⟨its, rv, p, _⟩ := there I qx
    obtain ⟨its2, rv2, p2, _⟩ := there I qy
    obtain ⟨u, hu, ru⟩ := rv.get hx
    obtain ⟨u2, hu2, ru2⟩ := rv2.get hy
    have hh : X.A.in1.handled = none := I.ok.hd hc
    have G := GoesN.zip2 (prog := X.prog) (w := X.w) (A := X.A) (elts := elts) (x1 := kk) (pos := tpos) S (draws hh i1 a ne1 its.toArray k) (draws hh i2 b ne2 its2.toArray k')
    have sm : ∀ c ∈ [z, TI, TO, i1, i2], c < s.heap.objs.size := fun c hc' => by
      have e' : c = z ∨ c = TI ∨ c = TO ∨ c = i1 ∨ c = i2 := by simpa using hc'
      rcases e' with q | q | q | q | q
      · subst q
        exact Heap.lt_size hz
      · subst q
        exact Heap.lt_size hTI
      · subst q
        obtain ⟨_, _, e⟩ := hTO
        exact Heap.lt_size e
      · subst q
        obtain ⟨_, e, _⟩ := it_obj h1
        exact Heap.lt_size e
      · subst q
        obtain ⟨_, e, _⟩ := it_obj h2
        exact Heap.lt_size e
    have l1 : i < its.length := (List.getElem?_eq_some_iff.mp hu).1
    have l2 : i < its2.length := (List.getElem?_eq_some_iff.mp hu2).1
    refine G.goes i s (fun u s2 => ∃ x H', Inv X pins σ H' s2 ∧ RelV x u ∧ (Itz2 X.K k k' a b).yld i H x H' ∧ (IsZip s2.heap z TI TO .none ∧ IsTupOf2 s2.heap TI (.ref i1) (.ref i2) ∧ (∃ x y, IsTupOf2 s2.heap TO x y) ∧ ItK s2.heap k i1 a (i + 1) ∧ ItK s2.heap k' i2 b (i + 1)) ∧ ∀ b ∈ [z, TI, TO, i1, i2], H' b = none) E
      (by simp; omega) ⟨hz, hTI, hTO, ⟨h1, p⟩, h2, p2⟩ fun v h' tk hY st' keep _ => ?_
    obtain ⟨T, x', y', rfl, hT, ex, ey, hnew⟩ := hY
    have ex' : its[i]? = some x' := by simpa using ex
    have ey' : its2[i]? = some y' := by simpa using ey
    rw [hu] at ex'
    rw [hu2] at ey'
    cases ex'
    cases ey'
    have new : ObjOk X.prog X.w (upd H T (.tup [x, y])) h' T (.tup [x, y]) := ⟨by show 2 ≤ sizeLine; decide, [u, u2], .cons ru (.cons ru2 .nil), hnew⟩
    have I1 : Inv X pins σ (upd H T (.tup [x, y])) { s with heap := h', toks := tk } := I.turnedNew (t' := tk) (ch := [z, TO, i1, i2]) keep (fun c hc' => hf c (by simp at hc' ⊢; rcases hc' with q | q | q | q <;> simp [q])) hT new
    obtain ⟨g1, g2, g3, g4, g5⟩ := st'
    refine ⟨.ref T, _, I1, rfl, ⟨T, x, y, rfl, I.hok.fresh hT, rfl, fun l hl => by rw [one I hl qx]; exact hx, fun l hl => by rw [one I hl qy]; exact hy⟩, ⟨g1, g2, g3, g4.1, g5.1⟩, fun c hc' => ?_⟩
    rw [upd_ne (Nat.ne_of_lt (Nat.lt_of_lt_of_le (sm c hc') hT))]
    exact (hf c hc').1
  done := by
    intro X hP hw hK hc i pins s σ H E I hf st hg
    subst hP hw hK
    obtain ⟨hz, hTI, hTO, h1, h2⟩ := st
    obtain ⟨xs, ys, qx, qy, hn⟩ := hg
    obtain ⟨its, rv, p, _⟩ := there I qx
    obtain ⟨its2, rv2, p2, _⟩ := there I qy
    have hh : X.A.in1.handled = none := I.ok.hd hc
    have G := GoesN.zip2 (prog := X.prog) (w := X.w) (A := X.A) (elts := elts) (x1 := kk) (pos := tpos) S (draws hh i1 a ne1 its.toArray k) (draws hh i2 b ne2 its2.toArray k')
    have en : i = min its.toArray.size its2.toArray.size := by
      rw [hn, rv.length, rv2.length]
      simp
    subst en
    exact G.stops s (fun s1 => Inv X pins σ H s1) E ⟨hz, hTI, hTO, ⟨h1, p⟩, h2, p2⟩ fun h' tk keep _ =>
      I.turnedL (t' := tk) (ch := [z, TO, i1, i2]) keep (fun c hc' => hf c (by simp at hc' ⊢; rcases hc' with q | q | q | q <;> simp [q]))
  self := fun A i s Q E st h => wpAny_pyIter_zip st.1 h
def iZip2 (K : PySem.W.Frag) (ta : TA) : TI := fun σ H R => ta σ H fun vs H1 => ∃ a b xs ys k k', vs = [.ref a, .ref b] ∧ SqK K H1 k a xs ∧ SqK K H1 k' b ys ∧ R (Itz2 K k k' a b) H1
theorem pi_zip2 {X : Cx} {e e2 : Expr} {ta : TA} {p pos tpos : Pos} {elts : List Expr} {kk : Nat} (hg : Gl X "zip") (hm : X.mg "zip" = none) (ha : PA X [e, e2] ta)
    (hs : starEach [e, e2] X.env = (false, eval e X.env) :: starEach [e2] X.env := by rfl) (hpl : (backTo pos (starEach [e2] X.env)).any (·.1) = false := by rfl) :
    PI X (.Tuple elts kk tpos) (.Call (.Name "zip" p) [e, e2] [] pos) (iZip2 X.K ta) := by
  refine ⟨fun pins s σ H R I h => Call_ (ld_blt I hg hm PyProof.Rows.boot_zip (PyProof.Rows.callWith_type1 (thn (ha.run pos pins s σ H _ I h) fun us s1 ⟨vs, H1, I1, r1, q1⟩ => ?_) hs hpl))⟩
  obtain ⟨a, b, xs, ys, k, k', ex, qx, qy, q⟩ := q1
  subst ex
  cases r1 with
  | cons r rr =>
    cases rr with
    | cons r' rr =>
      cases rr
      cases r
      cases r'
      obtain ⟨its, rv, p1, la⟩ := there I1 qx
      obtain ⟨its2, rv2, p2, lb⟩ := there I1 qy
      refine zip_begins2 (begins a its.toArray k) (begins b its2.toArray k') p1 p2 fun h' hz hTI hTO h1 h2 hsz hk => wpAny_pyIter_zip hz ?_
      have I2 : Inv X pins σ H1 { s1 with heap := h' } := I1.kept (t' := s1.toks) hk
      have S : ZipSep2 (s1.heap.objs.size + 4) (s1.heap.objs.size + 2) (s1.heap.objs.size + 3) s1.heap.objs.size (s1.heap.objs.size + 1) [s1.heap.objs.size, a] [s1.heap.objs.size + 1, b] :=
        zip_sep2 (N := s1.heap.objs.size) (fp1 := [a]) (fp2 := [b]) (fun c hc => by rw [List.mem_singleton.mp hc]; exact la) (fun c hc => by rw [List.mem_singleton.mp hc]; exact lb)
      refine ⟨s1.heap.objs.size + 4, [s1.heap.objs.size + 4, s1.heap.objs.size + 2, s1.heap.objs.size + 3, s1.heap.objs.size, s1.heap.objs.size + 1], _, _, H1, rfl, I2, turn_zip2 S (Nat.ne_of_lt la) (Nat.ne_of_lt (Nat.lt_succ_of_lt lb)), ⟨hz, hTI, ⟨_, _, hTO⟩, it_new h1, it_new h2⟩, fun c hcm => ?_, q⟩
      have hle : s1.heap.objs.size ≤ c := by
        have e' : c = s1.heap.objs.size + 4 ∨ c = s1.heap.objs.size + 2 ∨ c = s1.heap.objs.size + 3 ∨ c = s1.heap.objs.size ∨ c = s1.heap.objs.size + 1 := by simpa using hcm
        rcases e' with q | q | q | q | q
        · rw [q]; exact Nat.le_add_right _ _
        · rw [q]; exact Nat.le_add_right _ _
        · rw [q]; exact Nat.le_add_right _ _
        · rw [q]; exact Nat.le_refl _
        · rw [q]; exact Nat.le_add_right _ _
      exact I1.fpOk hle (I1.hok.fresh hle)
end SQ
/-! enumerate of a list or a tuple; a for over either. -/
namespace SQ
open PySem PySem.Spec PyProof.Rows L2
theorem meets_enum1 {v : Value} {o : Obj} {G : Heap → Prop} (B : Begins v o G) :
    Meets (Builtin.«enumerate.__new__» ⟨[.type "enumerate", v], []⟩) (fun _ R s => G s.heap ∧
      R (.ok (.ret (.ref (s.heap.push o).objs.size))) { s with heap := (s.heap.push o).push { cls := .type "enumerate", data := .fields #[.none, .bool false, .ref s.heap.objs.size, rawInt 0, .none, .none] } }) :=
  .of_wp fun prog w A R s h => by
    obtain ⟨hp, g, d, tk, os⟩ := s
    obtain ⟨h1, h⟩ := h
    have hsub := sub_enumerate
    have q1 : ∀ {A' : Around} {E : Value → Shared → Prop} {Q : Value → Shared → Prop}, Q (.ref hp.objs.size) ⟨hp.push o, g, d, tk, os⟩ → wpAny (model prog w) A' (pyIter v) Q E ⟨hp, g, d, tk, os⟩ := fun q => B.iter prog w _ _ ⟨hp, g, d, tk, os⟩ _ h1 q
    wp_walk using q1
    refine wpAny_stack_any fun st => wpAny_pure ?_
    split
    · rename_i c _ _ _ _ _
      cases (c == Value.type "enumerate")
      all_goals
        wp_walk using q1
        exact ⟨_, rfl, h⟩
    · wp_walk using q1
      exact ⟨_, rfl, h⟩
theorem enum1 {prog : Program} {w : World} {A : Around} {E : Value → Shared → Prop} {s : Shared} {v : Value} {o : Obj} {G : Heap → Prop} {Q : Value → Shared → Prop} (B : Begins v o G) (h1 : G s.heap)
    (h : ∀ h', IsEnum h' (s.heap.objs.size + 1) s.heap.objs.size 0 .none → h'.get? s.heap.objs.size = some o → h'.objs.size = s.heap.objs.size + 2 → (∀ b o, s.heap.get? b = some o → h'.get? b = some o) → Q (.ref (s.heap.objs.size + 1)) { s with heap := h' }) :
    wpAny (model prog w) A (call (.type "enumerate") [v]) Q E s := by
  refine callType_new F.called_enumerate (by decide) (F.typeCall_enumerate_1 _) (F.newCall_enumerate_1 _) (fun obj => F.args_object_init_2 obj _) F.entry_enumerate_new (meets_enum1 B) ⟨h1, ?_⟩
  have hz : (s.heap.push o).objs.size = s.heap.objs.size + 1 := Heap.size_push ..
  show _ ∧ _
  rw [hz]
  have he : IsEnum ((s.heap.push o).push { cls := .type "enumerate", data := .fields #[.none, .bool false, .ref s.heap.objs.size, rawInt 0, .none, .none] }) (s.heap.objs.size + 1) s.heap.objs.size 0 .none := by
    have q := Heap.get?_push_size (s.heap.push o) (o := { cls := .type "enumerate", data := .fields #[.none, .bool false, .ref s.heap.objs.size, rawInt 0, .none, .none] }) rfl
    rw [hz] at q
    exact q
  refine ⟨⟨_, he, rfl⟩, h _ he (Heap.get?_push_of_some _ (Heap.get?_push_size _ B.free)) (by rw [Heap.size_push, hz]) fun b o' q => Heap.get?_push_of_some _ (Heap.get?_push_of_some _ q)⟩
/-- the number and the thing at each turn, in a new pair -/
def Ite2 (K : PySem.W.Frag) (k : Kd) (a : Addr) : It :=
  ⟨fun i H => ∃ (xs : List V) (x : V), SqK K H k a xs ∧ xs[i]? = some x,
    fun i H v H' => ∃ T x, v = .ref T ∧ H T = none ∧ H' = upd H T (.tup [.int (i : Nat), x]) ∧ ∀ xs, SqK K H k a xs → xs[i]? = some x,
    fun i H => ∃ xs : List V, SqK K H k a xs ∧ i = xs.length⟩
theorem walk_enum2 {K : PySem.W.Frag} {k : Kd} {a : Addr} {xs : List V} {n : Nat} (hn : n = xs.length) : Walk (Ite2 K k a) n (fun H => SqK K H k a xs) (YPair (fun i => some (.int (i : Nat))) (fun i => xs[i]?)) := by
  subst hn
  refine ⟨fun i _ hi q => ⟨xs, xs[i], q, by simp [hi]⟩, fun _ q => ⟨xs, q, rfl⟩, fun i H v H' _ q y => ?_⟩
  obtain ⟨T, x, h1, h2, h3, h4⟩ := y
  exact ⟨T, _, x, h1, h2, h3, rfl, h4 xs q⟩
theorem turn_enum2 {P : Program} {w : World} {K : PySem.W.Frag} {elts : List Expr} {kk : Nat} {tpos : Pos} {k : Kd} {a e it : Addr} (ne : a ≠ it) (ne1 : e ≠ it) (ne2 : e ≠ a) :
    Turn P w K (.Tuple elts kk tpos) (Ite2 K k a) [e, it] e (fun i h => (∃ old, IsEnum h e it i old) ∧ ItK h k it a i) where
  mem := by simp
  obj := fun i h st c hc => by
    obtain ⟨⟨old, he⟩, h1⟩ := st
    have e' : c = e ∨ c = it := by simpa using hc
    rcases e' with q | q
    · subst q
      exact ⟨_, he, fun v q => nomatch q⟩
    · subst q
      exact it_obj h1
  keep := fun i h h' st kp => by
    obtain ⟨⟨old, he⟩, h1⟩ := st
    exact ⟨⟨old, kp e (by simp) _ he⟩, it_keep (kp it (by simp)) h1⟩
  item := by
    intro X hP hw hK hc i pins s σ H E I hf st hg
    subst hP hw hK
    obtain ⟨⟨old, he⟩, h1⟩ := st
    obtain ⟨xs, x, qx, hx⟩ := hg
    obtain ⟨its, rv, p, _⟩ := there I qx
    obtain ⟨u, hu, ru⟩ := rv.get hx
    have hh : X.A.in1.handled = none := I.ok.hd hc
    have G := GoesN.enumFrom (prog := X.prog) (w := X.w) (A := X.A) (elts := elts) (x1 := kk) (pos := tpos) 0 (draws hh it a ne its.toArray k) e ne1 (by simp [ne1, ne2]) (by simp)
    have sm : ∀ c ∈ [e, it], c < s.heap.objs.size := fun c hc' => by
      have e' : c = e ∨ c = it := by simpa using hc'
      rcases e' with q | q
      · subst q
        exact Heap.lt_size he
      · subst q
        obtain ⟨_, e, _⟩ := it_obj h1
        exact Heap.lt_size e
    have l1 : i < its.length := (List.getElem?_eq_some_iff.mp hu).1
    refine G.goes i s (fun u s2 => ∃ x H', Inv X pins σ H' s2 ∧ RelV x u ∧ (Ite2 X.K k a).yld i H x H' ∧ ((∃ old, IsEnum s2.heap e it ((i + 1 : Nat) : Int) old) ∧ ItK s2.heap k it a (i + 1)) ∧ ∀ b ∈ [e, it], H' b = none) E
      (by simpa using l1) ⟨⟨old, by rw [Int.zero_add]; exact he⟩, h1, p⟩ fun v h' tk hY st' keep _ => ?_
    obtain ⟨T, t, x', rfl, hT, ex, hnew⟩ := hY
    have ex' : its[i]? = some x' := by simpa using ex
    rw [hu] at ex'
    cases ex'
    have new : ObjOk X.prog X.w (upd H T (.tup [.int (i : Nat), x])) h' T (.tup [.int (i : Nat), x]) := ⟨by show 2 ≤ sizeLine; decide, [.int (0 + (i : Int)) t, u], .cons (show L2.RelV (.int (i : Nat)) (.int (0 + (i : Int)) t) from ⟨t, by rw [Int.zero_add]⟩) (.cons ru .nil), hnew⟩
    have I1 : Inv X pins σ (upd H T (.tup [.int (i : Nat), x])) { s with heap := h', toks := tk } := I.turnedNew (t' := tk) (ch := [e, it]) keep (fun c hc' => hf c hc') hT new
    obtain ⟨⟨old', g1⟩, g2⟩ := st'
    rw [Int.zero_add] at g1
    refine ⟨.ref T, _, I1, rfl, ⟨T, x, rfl, I.hok.fresh hT, rfl, fun l hl => by rw [one I hl qx]; exact hx⟩, ⟨⟨old', g1⟩, g2.1⟩, fun c hc' => ?_⟩
    rw [upd_ne (Nat.ne_of_lt (Nat.lt_of_lt_of_le (sm c hc') hT))]
    exact (hf c hc').1
  done := by
    intro X hP hw hK hc i pins s σ H E I hf st hg
    subst hP hw hK
    obtain ⟨⟨old, he⟩, h1⟩ := st
    obtain ⟨xs, qx, hn⟩ := hg
    obtain ⟨its, rv, p, _⟩ := there I qx
    have hh : X.A.in1.handled = none := I.ok.hd hc
    have G := GoesN.enumFrom (prog := X.prog) (w := X.w) (A := X.A) (elts := elts) (x1 := kk) (pos := tpos) 0 (draws hh it a ne its.toArray k) e ne1 (by simp [ne1, ne2]) (by simp)
    have en : i = its.toArray.size := by
      rw [hn, rv.length]
      simp
    subst en
    exact G.stops s (fun s1 => Inv X pins σ H s1) E ⟨⟨old, by rw [Int.zero_add]; exact he⟩, h1, p⟩ fun h' tk keep _ =>
      I.turnedL (t' := tk) (ch := [e, it]) keep (fun c hc' => hf c hc')
  self := fun A i s Q E st h => by
    obtain ⟨⟨old, he⟩, _⟩ := st
    exact wpAny_pyIter_enum he h
def iEnum2 (K : PySem.W.Frag) (ta : TA) : TI := fun σ H R => ta σ H fun vs H1 => ∃ a xs k, vs = [.ref a] ∧ SqK K H1 k a xs ∧ R (Ite2 K k a) H1
theorem pi_enum2 {X : Cx} {e : Expr} {ta : TA} {p pos tpos : Pos} {elts : List Expr} {kk : Nat} (hg : Gl X "enumerate") (hm : X.mg "enumerate" = none) (ha : PA X [e] ta) (hs : starEach [e] X.env = [(false, eval e X.env)] := by rfl) :
    PI X (.Tuple elts kk tpos) (.Call (.Name "enumerate" p) [e] [] pos) (iEnum2 X.K ta) := by
  refine ⟨fun pins s σ H R I h => Call_ (ld_blt I hg hm PyProof.Rows.boot_enumerate (PyProof.Rows.callWith_type1 (thn (ha.run pos pins s σ H _ I h) fun us s1 ⟨vs, H1, I1, r1, q1⟩ => ?_) hs rfl))⟩
  obtain ⟨a, xs, k, ex, qx, q⟩ := q1
  subst ex
  cases r1 with
  | cons r rr =>
    cases rr
    cases r
    obtain ⟨its, rv, p1, la⟩ := there I1 qx
    refine enum1 (begins a its.toArray k) p1 fun h' he h1 hsz hk => wpAny_pyIter_enum he ?_
    have I2 : Inv X pins σ H1 { s1 with heap := h' } := I1.kept (t' := s1.toks) hk
    refine ⟨s1.heap.objs.size + 1, [s1.heap.objs.size + 1, s1.heap.objs.size], _, _, H1, rfl, I2, turn_enum2 (e := s1.heap.objs.size + 1) (it := s1.heap.objs.size) (Nat.ne_of_lt la) (Nat.succ_ne_self _) (Nat.ne_of_gt (Nat.lt_succ_of_lt la)), ⟨⟨_, he⟩, it_new h1⟩, fun c hcm => ?_, q⟩
    have hle : s1.heap.objs.size ≤ c := by
      have e' : c = s1.heap.objs.size + 1 ∨ c = s1.heap.objs.size := by simpa using hcm
      rcases e' with q | q
      · rw [q]; exact Nat.le_add_right _ _
      · rw [q]; exact Nat.le_refl _
    exact I1.fpOk hle (I1.hok.fresh hle)
end SQ
/-! one of two readings; a walk over either kind; count; tuples without a dict. -/
namespace SQ
open PySem PySem.Spec PyProof.Rows L2
def tOr (t u : TE) : TE := fun σ H Q => t σ H Q ∨ u σ H Q
def iOr (t u : TI) : TI := fun σ H R => t σ H R ∨ u σ H R
section
variable {X : Cx}
theorem pe_or2 {e : Expr} {t u : TE} (h1 : PE X e t) (h2 : PE X e u) : PE X e (tOr t u) :=
  ⟨fun pins s σ H Q I h => h.elim (h1.run pins s σ H Q I) (h2.run pins s σ H Q I)⟩
theorem pi_or2 {tg e : Expr} {t u : TI} (h1 : PI X tg e t) (h2 : PI X tg e u) : PI X tg e (iOr t u) :=
  ⟨fun pins s σ H Q I h => h.elim (h1.run pins s σ H Q I) (h2.run pins s σ H Q I)⟩
def It2 (K : PySem.W.Frag) : Kd → Addr → It
  | .L => Itl K
  | .T => Itt K
def iSq (K : PySem.W.Frag) (tl : TE) : TI := iOr (iList K tl) (iTup K tl)
theorem pi_sq {tg l : Expr} {tl : TE} (h : PE X l tl) : PI X tg l (iSq X.K tl) := pi_or2 (pi_list h) (pi_tup h)
theorem walk_sq {K : PySem.W.Frag} {a : Addr} {xs : List V} {n : Nat} : ∀ {k : Kd}, n = xs.length → Walk (It2 K k a) n (fun H => SqK K H k a xs) (YAt xs)
  | .L, e => e ▸ walk_list
  | .T, e => e ▸ walk_tup
/-- the value is there at once -/
theorem iSq_var {K : PySem.W.Frag} {i : Nat} {σ : L2.St} {H : Hp} {R : It → Hp → Prop} {a : Addr} {xs : List V} : ∀ {k : Kd}, σ[i]? = some (some (.ref a)) → SqK K H k a xs → R (It2 K k a) H → iSq K (tVar i) σ H R
  | .L, e, q, r => .inl ⟨_, e, a, rfl, ⟨xs, q⟩, r⟩
  | .T, e, q, r => .inr ⟨_, e, a, rfl, ⟨xs, q⟩, r⟩
/-- a tuple without a dict of its own -/
def Nd (K : PySem.W.Frag) (H : Hp) (x : V) : Prop := ∃ a, x = .ref a ∧ ((∃ o u, H a = some (.frz o (.tup u)) ∧ o.dict = none) ∨ ∃ o, K.lookup a = some o ∧ o.cls = .type "tuple" ∧ o.dict = none)
theorem Nd.same {K : PySem.W.Frag} {H H' : Hp} {x : V} (s : Same H H') (h : Nd K H x) : Nd K H' x := by
  obtain ⟨a, e, h⟩ := h
  refine ⟨a, e, ?_⟩
  rcases h with ⟨o, u, h, d⟩ | h
  · exact .inl ⟨o, u, s _ _ h, d⟩
  · exact .inr h
theorem nd_is {pins : List (Addr × Obj)} {σ : L2.St} {H : Hp} {s : Shared} {x : V} {v : Value} (I : Inv X pins σ H s) (r : L2.RelV x v) (h : Nd X.K H x) : s.TypeIs v "tuple" ∧ ∀ a, v = .ref a → ∃ ob, s.heap.get? a = some ob ∧ ob.dict = none := by
  obtain ⟨a, rfl, h⟩ := h
  rcases h with ⟨o, u, h, d⟩ | ⟨o, h, c, d⟩
  · obtain rfl : v = .ref a := r
    obtain ⟨e, _, its, _, o', e', hc, _⟩ := I.hok a _ h
    rw [e] at e'
    cases e'
    refine ⟨⟨o, e, hc⟩, fun b hb => ?_⟩
    cases hb
    exact ⟨o, e, d⟩
  · exact tyV_is I r (T := "tuple") (x := .ref a) (.inr (.inl ⟨rfl, o, h, c, d⟩))
def tBMT (K : PySem.W.Frag) (r : V → List V → Hp → VK → Prop) (to : TE) (t : TA) : TE := fun σ H Q => to σ H fun x H1 => Nd K H1 x ∧ t σ H1 fun xs H2 => r x xs H2 Q
variable {o e : Expr} {es : List Expr} {to : TE} {t : TA} {name : Str} {apos cpos : Pos} {id : String} {r : V → List V → Hp → VK → Prop}
theorem pe_bmT (slot : Slot "tuple" name id) (hty : typeOf (.builtin id) = pure (.type "method_descriptor")) (hm : MtR X id r) (ho : PE X o to) (ha : PA X (e :: es) t)
    (hbase : attributeBase o name X.env (eval o X.env) = eval o X.env := by rfl)
    (hfew : ((backTo cpos (starEach (e :: es) X.env)).all (fun x => !x.1) && (backToKw cpos (keywordEach [] X.env)).all (fun x => x.1.isSome)
      && decide ((e :: es).length + ([] : List Keyword).length + (if ([] : List Keyword).isEmpty then 0 else 1) < 30)) = true := by rfl)
    (hline : (apos.endLine == cpos.line) = true := by rfl) (hs : starEach (e :: es) X.env = (false, eval e X.env) :: starEach es X.env := by rfl) (hplain : (backTo cpos (starEach es X.env)).any (·.1) = false := by rfl) :
    PE X (.Call (.Attribute o name apos) (e :: es) [] cpos) (tBMT X.K r to t) := by
  refine ⟨fun pins s σ H Q I h => ?_⟩
  refine wpAny_Call_method_late hbase hfew hline rfl (thn (ho.run pins s σ H _ I h) fun v s1 ⟨x, H1, I1, r1, ty, q1⟩ => ?_)
  obtain ⟨h1, h2⟩ := nd_is I1 r1 ty
  refine ⟨"tuple", id, PySem.F.plainAttrs_tuple, slot, hty, h1, h2, ?_⟩
  have hA := ha.run cpos pins s1 σ H1 _ I1 q1
  rw [hs] at hA ⊢
  refine Calls.callWith_builtin (by show (false || (backTo cpos (starEach es X.env)).any (·.1)) = false; rw [hplain] <;> rfl) (Calls.evalArgs_plain ?_)
  exact thn hA fun us s2 ⟨vs, H2, I2, r2, q2⟩ => hm pins s2 σ H2 x vs v us Q I2 r1 r2 q2
/-- xs.count(y), data of any depth -/
def rCntD (K : PySem.W.Frag) (mk : List PyData → PyData) : V → List V → Hp → VK → Prop := fun x xs H Q => ∃ (y : V) (d : PyData) (ds : List PyData), xs = [y] ∧ Dp K H x (mk ds) ∧ Dp K H y d ∧
  PyData.canLayAll0 ds = true ∧ SeqAt.shaped d = true ∧ Q (.int ((ds.countP fun z => PyData.eqv z d : Nat) : Int)) H
theorem shaped_room {A : Around} {ds : List PyData} {d : PyData} (sd : SeqAt.shaped d = true) (hu : A.units + 65 < cLine) : A.units + 1 + min (PyData.depthAll ds) d.depth < cLine := room_in_shaped sd hu
theorem mt_lcountD (hu : X.A.units + 65 < cLine) : MtR X "list.count" (rCntD X.K .list) := by
  intro pins s σ H x xs v us Q I rx rxs h
  obtain ⟨y, d, ds, rfl, hl, hy, sl, sd, q⟩ := h
  cases rxs with
  | cons ry rt =>
    rename_i uy ut
    cases rt
    obtain ⟨bs, r1⟩ := Dp.reads I d y uy hy ry
    have hroom : X.A.units + 1 + min (PyData.depthAll ds) d.depth < cLine := shaped_room sd hu
    cases hl with
    | lst hs ha =>
      rename_i a xs
      obtain rfl : v = .ref a := rx
      obtain ⟨its, rv, ⟨⟨cls, dd, data, sls⟩, n, ho, hc, hdn, hdt⟩, hlen⟩ := I.list hs
      simp only at hc hdt
      subst hc hdt
      obtain ⟨as, h4⟩ := Dp.readsAll I ds _ its ha rv
      have hmap : its.map (SeqAt.readOf s.heap) = ds := SeqAt.readsAll_map ds its as sl h4
      refine call_meets PySem.F.slot_list_count ⟨_, ho, rfl⟩ PySem.F.entry_list_count (PySem.F.args_list_count_2 _ _)
        (SeqAt.list_countAt a its.toArray n dd sls uy (fun u => PyData.eqv (SeqAt.readOf s.heap u) d)) ⟨ho, SeqAt.items_eqAt (vs := its.toArray) (show ReadsAll s.heap its.toArray.toList ds as from h4) r1 sl (SeqAt.canLay_of_shaped sd) hroom, ?_⟩
      have ec : its.toArray.toList.countP (fun u => PyData.eqv (SeqAt.readOf s.heap u) d) = ds.countP fun z => PyData.eqv z d := by
        rw [← hmap, List.countP_map]
        rfl
      rw [ec]
      exact ⟨.int _, H, I.tok _, ⟨s.toks, rfl⟩, q⟩
theorem mt_tcountD (hu : X.A.units + 65 < cLine) : MtR X "tuple.count" (rCntD X.K .tuple) := by
  intro pins s σ H x xs v us Q I rx rxs h
  obtain ⟨y, d, ds, rfl, hl, hy, sl, sd, q⟩ := h
  cases rxs with
  | cons ry rt =>
    rename_i uy ut
    cases rt
    obtain ⟨bs, r1⟩ := Dp.reads I d y uy hy ry
    have hroom : X.A.units + 1 + min (PyData.depthAll ds) d.depth < cLine := shaped_room sd hu
    cases hl with
    | tup hs ha =>
      rename_i a xs
      obtain rfl : v = .ref a := rx
      obtain ⟨its, rv, ⟨⟨cls, dd, data, sls⟩, ho, hc, n, hdt⟩, hlen⟩ := I.tuple hs
      simp only at hc hdt
      subst hc hdt
      obtain ⟨as, h4⟩ := Dp.readsAll I ds _ its ha rv
      have hmap : its.map (SeqAt.readOf s.heap) = ds := SeqAt.readsAll_map ds its as sl h4
      refine call_meets PySem.F.slot_tuple_count ⟨_, ho, rfl⟩ PySem.F.entry_tuple_count (PySem.F.args_tuple_count_2 _ _)
        (SeqAt.tuple_countAt a its.toArray n dd sls uy (fun u => PyData.eqv (SeqAt.readOf s.heap u) d)) ⟨ho, SeqAt.items_eqAt (vs := its.toArray) (show ReadsAll s.heap its.toArray.toList ds as from h4) r1 sl (SeqAt.canLay_of_shaped sd) hroom, ?_⟩
      have ec : its.toArray.toList.countP (fun u => PyData.eqv (SeqAt.readOf s.heap u) d) = ds.countP fun z => PyData.eqv z d := by
        rw [← hmap, List.countP_map]
        rfl
      rw [ec]
      exact ⟨.int _, H, I.tok _, ⟨s.toks, rfl⟩, q⟩
/-- tuple(x) of a list: a new tuple without a dict -/
def kTupF (K : PySem.W.Frag) (x : V) (H : Hp) (Q : VK) : Prop := ∃ p xs, x = .ref p ∧ SqL K H p xs ∧ ∀ q o, H q = none → o.dict = none → Q (.ref q) (upd H q (.frz o (.tup xs)))
theorem rl_tupleF (pins : List (Addr × Obj)) (s : Shared) (σ : L2.St) (H : Hp) (x : V) (v : Value) (Q : VK) (I : Inv X pins σ H s) (r : L2.RelV x v) (h : kTupF X.K x H Q) :
    wpAny (model X.prog X.w) X.A (call (.type "tuple") [v]) (EP X pins σ Q) X.xe s := by
  obtain ⟨p, xs, rfl, hs, q⟩ := h
  obtain rfl : v = .ref p := r
  obtain ⟨its, rv, pl, hz⟩ := I.list hs
  refine call_tuple_list pl.isList (fun h' hk => ?_) (by rw [List.size_toArray, ← rv.length]; exact hz)
  have I1 : Inv X pins σ H { s with heap := h' } := I.kept (t' := s.toks) hk
  have I2 : Inv X pins σ (upd H h'.objs.size (.frz { cls := .type "tuple", data := .seq its.toArray } (.tup xs))) { s with heap := h'.push { cls := .type "tuple", data := .seq its.toArray } } :=
    I1.laid (t' := s.toks) (fun b o e => Heap.get?_push_of_some _ e) (Nat.le_refl _) (show ObjOk X.prog X.w _ _ _ (.frz _ (.tup xs)) from ⟨Heap.get?_push_size _ rfl, hz, its, rv, IsTup.new _ _⟩)
  exact ⟨.ref h'.objs.size, _, I2, rfl, q _ _ (I1.hok.fresh (Nat.le_refl _)) rfl⟩
theorem pe_tupleF {a : Expr} {ta : TE} {p pos : Pos} (hg : Gl X "tuple") (hm : X.mg "tuple" = none) (ha : PE X a ta) (na : starEach [a] X.env = (false, eval a X.env) :: starEach [] X.env := by rfl) :
    PE X (.Call (.Name "tuple" p) [a] [] pos) (tThen ta (kTupF X.K)) := by
  refine ⟨fun pins s σ H Q I h => ?_⟩
  exact Call_ (ld_blt I hg hm boot_tuple (PyProof.Rows.callWith_type1 (one_arg ha I h (fun v s2 x H2 I2 r q => rl_tupleF pins s2 σ H2 x v Q I2 r q) na) na))
end
end SQ
/-! how many are held, whether all are alike, where an answer stands. -/
namespace K46
open PySem L2 FX SQ
theorem hr65 {k : Nat} {A : Around} (hr : Room k A) : A.units + 65 < cLine := by
  have := hr.un
  omega
def nD (n : Nat) : D := .int n
def oD : Option Nat → D
  | none => .none
  | some n => nD n
/-- a list, or a tuple without a dict -/
def HeldV (K : PySem.W.Frag) (H : Hp) (v : V) (ds : List D) : Prop := Dp K H v (.list ds) ∨ Dp K H v (.tuple ds)
theorem HeldV.same {K : PySem.W.Frag} {H H' : Hp} {v : V} {ds : List D} (s : Same H H') (h : HeldV K H v ds) : HeldV K H' v ds :=
  h.elim (fun h => .inl (dp_same s h)) fun h => .inr (dp_same s h)
theorem HeldV.seq {K : PySem.W.Frag} {H : Hp} {v : V} {ds : List D} (h : HeldV K H v ds) : ∃ a xs k, v = .ref a ∧ SqK K H k a xs ∧ DpAll K H xs ds := by
  rcases h with h | h
  · obtain ⟨a, xs, e, q, r⟩ := dp_list h
    exact ⟨a, xs, .L, e, q, r⟩
  · obtain ⟨a, xs, e, q, r⟩ := dp_tup h
    exact ⟨a, xs, .T, e, q, r⟩
theorem sqK_or {K : PySem.W.Frag} {H : Hp} {a : Addr} {xs : List V} : ∀ {k : Kd}, SqK K H k a xs → SqL K H a xs ∨ SqT K H a xs
  | .L, h => .inl h
  | .T, h => .inr h
theorem sqK_same {K : PySem.W.Frag} {H H' : Hp} {a : Addr} {xs : List V} (s : Same H H') : ∀ {k : Kd}, SqK K H k a xs → SqK K H' k a xs
  | .L, h => s.seq h
  | .T, h => seqT s h
theorem lay_o : ∀ os : List (Option Nat), PyData.canLayAll0 (os.map oD) = true
  | [] => rfl
  | none :: r => lay_o r
  | some n :: r => lay_o r
theorem lay_n : ∀ os : List Nat, PyData.canLayAll0 (os.map nD) = true
  | [] => rfl
  | n :: r => lay_n r
theorem cnt_o : ∀ os : List (Option Nat), (os.map oD).countP (fun z => PyData.eqv z .none) = os.countP fun o => o.isNone
  | [] => rfl
  | none :: r => by
    rw [List.map_cons, List.countP_cons, List.countP_cons, cnt_o r]
    rfl
  | some n :: r => by
    rw [List.map_cons, List.countP_cons, List.countP_cons, cnt_o r]
    rfl
theorem cnt_n (k : Nat) : ∀ ns : List Nat, (ns.map nD).countP (fun z => PyData.eqv z (nD k)) = ns.countP fun n => n == k
  | [] => rfl
  | n :: r => by
    have e : PyData.eqv (nD n) (nD k) = (n == k) := by
      show decide ((n : Int) = (k : Int)) = decide (n = k)
      by_cases h : n = k
      · rw [decide_eq_true h]
        exact decide_eq_true (by rw [h])
      · rw [decide_eq_false h]
        exact decide_eq_false fun q => h (by omega)
    rw [List.map_cons, List.countP_cons, List.countP_cons, cnt_n k r, e]
section
variable {P : Program} {w : World} {K : PySem.W.Frag} {mg : Str → Option Value} {base : Heap}
abbrev sSpot : Stmt := top 10
end
end K46
/-! where an answer stands; the answers left by what is held. -/
namespace K46
open PySem L2 FX SQ
def spotN (s : Nat) (rs : List Nat) : Nat := rs.foldl (fun a r => a * s + r) 0
theorem spot_lt {s : Nat} (hs : s ≤ 8) : ∀ (rs : List Nat), (∀ r ∈ rs, r < s) → spotN s rs < s ^ rs.length ∨ rs = [] := by
  intro rs
  suffices h : ∀ (rs : List Nat) (a n : Nat), a < s ^ n → (∀ r ∈ rs, r < s) → rs.foldl (fun a r => a * s + r) a < s ^ (n + rs.length) by
    intro hr
    have := h rs 0 0 (by simp) hr
    rw [Nat.zero_add] at this
    exact .inl this
  intro rs
  induction rs with
  | nil => exact fun a n h _ => by simpa using h
  | cons r rs ih =>
    intro a n h hr
    have h1 := hr r (List.mem_cons_self ..)
    have h2 : a * s + r < s ^ (n + 1) := by
      have : (a + 1) * s ≤ s ^ n * s := Nat.mul_le_mul_right _ h
      rw [Nat.add_mul, Nat.one_mul] at this
      rw [Nat.pow_succ]
      omega
    have h3 := ih (a * s + r) (n + 1) h2 fun r' h' => hr r' (List.mem_cons_of_mem _ h')
    rw [List.length_cons]
    rw [show n + (rs.length + 1) = n + 1 + rs.length from by omega]
    exact h3
theorem spot_lt' {s : Nat} (hs : s ≤ 8) {rs : List Nat} (hr : ∀ r ∈ rs, r < s) : spotN s rs < s ^ rs.length := by
  rcases spot_lt hs rs hr with h | h
  · exact h
  · subst h
    show 0 < s ^ 0
    simp
theorem dpAll_n {K : PySem.W.Frag} {H : Hp} : ∀ {vs : List V} {ns : List Nat} {i : Nat} {n : Nat}, DpAll K H vs (ns.map nD) → ns[i]? = some n → vs[i]? = some (.int n) := by
  intro vs ns i n r e
  obtain ⟨v, h1, h2⟩ := dpAll_at (i := i) (d := nD n) r (by rw [List.getElem?_map, e]; rfl)
  cases h2
  exact h1
theorem dpAll_mkn {K : PySem.W.Frag} {H : Hp} : ∀ ns : List Nat, DpAll K H (ns.map fun n : Nat => V.int n) (ns.map nD)
  | [] => .nil
  | n :: r => .cons (.int _) (dpAll_mkn r)
section
variable {P : Program} {w : World} {K : PySem.W.Frag} {mg : Str → Option Value} {base : Heap}
def spSpot (K : PySem.W.Frag) : Sp := fun vs H Q _ => ∃ (v1 v2 : V) (s : Nat) (rs : List Nat), vs = [v1, v2] ∧ Dp K H v1 (.list ((List.replicate rs.length s).map nD)) ∧ Dp K H v2 (.tuple (rs.map nD)) ∧ rs.length ≤ 4 ∧ s ≤ 8 ∧ (∀ r ∈ rs, r < s) ∧
  ∀ H', Same H H' → Q (.int (spotN s rs)) H'
abbrev NSpot : List Str := ["sizes", "row", "spot", "size", "value"]
theorem scSpot : FnScope NSpot ["sizes", "row"] (defScope sSpot) := ⟨rfl, rfl, rfl, by decide +kernel, rfl, by decide +kernel, by decide +kernel⟩
theorem ok_spot {f : Addr} {fd : FuncData} (F : Fun K "spot_in" "spot_in" sSpot f fd) (Z : Bi mg) : FnOk P w K mg base CX0 1 f fd ["sizes", "row"] (spSpot K) := by
  refine F.ok scSpot (fun vs H Q E h => ?_) (fun cdv A outer s H vs Q E hr h => ?_)
  · obtain ⟨v1, v2, s, rs, rfl, _⟩ := h
    rfl
  · obtain ⟨v1, v2, s, rs, rfl, h1, h2, h4, h8, hlt, k⟩ := h
    obtain ⟨a, xs, rfl, q, r⟩ := dp_list h1
    obtain ⟨b, ys, rfl, q2, r2⟩ := dp_tup h2
    have lx : xs.length = rs.length := by rw [dpAll_len r, List.length_map, List.length_replicate]
    have ly : ys.length = rs.length := by rw [dpAll_len r2, List.length_map]
    refine ⟨_, pss_cons (ps_set (i := 2) scSpot.nd rfl (Or.inl rfl) pe_int)
      (pss_cons (ps_for PassesOwn.never rfl (pi_zip2 (by rfl) Z.zip (pa_cons (pv 0) (pa_cons (pv 1) pa_nil))) (pg_tup rfl (pgs_cons (pg_name (i := 3) scSpot.nd rfl (Or.inl rfl)) (pgs_cons (pg_name (i := 4) scSpot.nd rfl (Or.inl rfl)) pgs_nil)))
        (pss_one (ps_set (i := 2) scSpot.nd rfl (Or.inl rfl) (pe_op op_add (pe_op op_mul (pv 2) (pv 3)) (pv 4)))))
      (pss_one (ps_ret (pv 2)))), ?_⟩
    refine ⟨_, rfl, _, rfl, a, b, xs, ys, .L, .T, rfl, q, q2, for_it (walk_zip2 (k := .L) (k' := .T) (a := a) (b := b) (xs := xs) (ys := ys) (n := rs.length) (by omega)) (fun i σ H' => ∃ u1 u2 : Option V, σ = [some (.ref a), some (.ref b), some (.int (spotN s (rs.take i) : Nat)), u1, u2] ∧ Same H H')
      ⟨none, none, rfl, Same.refl H⟩ (fun i σ H' _ ⟨_, _, _, s1⟩ => ⟨s1.seq q, seqT s1 q2⟩) ?_ ?_⟩
    · rintro i x σ H1 H2 hi ⟨u1, u2, rfl, s1⟩ ⟨T, x1, x2, rfl, hT, rfl, hx1, hx2⟩
      have e1 : x1 = .int s := by
        have := dpAll_n (i := i) (n := s) r (by rw [List.getElem?_replicate, if_pos hi])
        exact Option.some.inj (hx1.symm.trans this)
      obtain ⟨ri, hri⟩ : ∃ ri, rs[i]? = some ri := ⟨rs[i], List.getElem?_eq_getElem hi⟩
      have e2 : x2 = .int ri := by
        have := dpAll_n (i := i) (n := ri) r2 hri
        exact Option.some.inj (hx2.symm.trans this)
      subst e1 e2
      have lt := spot_lt' h8 (rs := rs.take i) fun r' h' => hlt r' (List.mem_of_mem_take h')
      have lt2 : s ^ (rs.take i).length ≤ 8 ^ 4 := Nat.le_trans (Nat.pow_le_pow_left h8 _) (Nat.pow_le_pow_right (by decide) (by rw [List.length_take]; omega))
      refine ⟨T, _, rfl, SqT.of upd_same, rfl, _, _, rfl, _, _, rfl, rfl, _, rfl, _, rfl, _, _, rfl, rfl, ?_, _, rfl, _, _, rfl, rfl, some (.int s), some (.int ri), ?_, s1.trans (same_new hT)⟩
      · exact .inr ⟨by omega, by omega⟩
      · have es : spotN s (rs.take (i + 1)) = spotN s (rs.take i) * s + ri := by
          unfold spotN
          rw [take_more hri, List.foldl_append]
          rfl
        rw [es, Int.natCast_add, Int.natCast_mul]
        rfl
    · rintro σ H' ⟨u1, u2, rfl, s1⟩
      have e : rs.take rs.length = rs := List.take_length
      rw [e]
      exact ⟨_, rfl, k H' s1⟩
end
end K46
/-! the answers left by what is held. -/
namespace K46
open PySem L2 FX SQ
def choiceN (s : Nat) : Option Nat → List Nat
  | none => List.range s
  | some n => [n]
def stepN (acc : List (List Nat)) (c : List Nat) : List (List Nat) := acc.flatMap fun r => c.map fun x => r ++ [x]
def rowsN (css : List (List Nat)) : List (List Nat) := css.foldl stepN [[]]
theorem rows_nD (css : List (List Nat)) : rowsOf (css.map fun c => c.map nD) = (rowsN css).map fun r => r.map nD := by
  suffices h : ∀ acc : List (List Nat), (css.map fun c => c.map nD).foldl stepRows (acc.map fun r => r.map nD) = (css.foldl stepN acc).map fun r => r.map nD from h [[]]
  induction css with
  | nil => exact fun acc => rfl
  | cons c css ih =>
    intro acc
    rw [List.map_cons, List.foldl_cons, List.foldl_cons, ← ih]
    congr 1
    unfold stepRows stepN
    rw [List.flatMap_map, List.map_flatMap]
    congr 1
    funext r
    rw [List.map_map, List.map_map]
    congr 1
    funext x
    simp
theorem rowsN_len (css : List (List Nat)) : ∀ r ∈ rowsN css, r.length = css.length := by
  suffices h : ∀ (acc : List (List Nat)) (n : Nat), (∀ r ∈ acc, r.length = n) → ∀ r ∈ css.foldl stepN acc, r.length = n + css.length by
    intro r hr
    have := h [[]] 0 (fun r h => by rw [List.mem_singleton] at h; subst h; rfl) r hr
    rw [this, Nat.zero_add]
  induction css with
  | nil => exact fun acc n h r hr => h r hr
  | cons c css ih =>
    intro acc n h r hr
    have q := ih (stepN acc c) (n + 1) (fun r' hr' => by
      obtain ⟨r0, h0, hm⟩ := List.mem_flatMap.mp hr'
      obtain ⟨x, _, rfl⟩ := List.mem_map.mp hm
      rw [List.length_append, h r0 h0]
      rfl) r hr
    rw [q, List.length_cons]
    omega
theorem rowsN_lt {s : Nat} (css : List (List Nat)) (hc : ∀ c ∈ css, ∀ x ∈ c, x < s) : ∀ r ∈ rowsN css, ∀ x ∈ r, x < s := by
  suffices h : ∀ (acc : List (List Nat)), (∀ r ∈ acc, ∀ x ∈ r, x < s) → ∀ r ∈ css.foldl stepN acc, ∀ x ∈ r, x < s from
    h [[]] fun r h => by
      rw [List.mem_singleton] at h
      subst h
      exact fun x hx => by cases hx
  induction css with
  | nil => exact fun acc h r hr => h r hr
  | cons c css ih =>
    intro acc h
    refine ih (fun c' h' => hc c' (List.mem_cons_of_mem _ h')) (stepN acc c) fun r' hr' => ?_
    obtain ⟨r0, h0, hm⟩ := List.mem_flatMap.mp hr'
    obtain ⟨x, hx, rfl⟩ := List.mem_map.mp hm
    intro y hy
    rcases List.mem_append.mp hy with hy | hy
    · exact h r0 h0 y hy
    · rw [List.mem_singleton] at hy
      subst hy
      exact hc c (List.mem_cons_self ..) y hx
def heldAns (s : Nat) (as : List Nat) (os : List (Option Nat)) : List Nat := (rowsN (os.map (choiceN s))).map fun r => as.getD (spotN s r) 0
theorem choice_lt {s : Nat} {os : List (Option Nat)} (h : ∀ n, some n ∈ os → n < s) : ∀ c ∈ os.map (choiceN s), ∀ x ∈ c, x < s := by
  intro c hc x hx
  obtain ⟨o, ho, rfl⟩ := List.mem_map.mp hc
  cases o with
  | none => exact List.mem_range.mp hx
  | some n =>
    have : x = n := List.mem_singleton.mp hx
    subst this
    exact h _ ho
theorem choice_len {s : Nat} (h8 : s ≤ 8) (os : List (Option Nat)) : ∀ c ∈ os.map (choiceN s), c.length ≤ 8 := by
  intro c hc
  obtain ⟨o, ho, rfl⟩ := List.mem_map.mp hc
  cases o with
  | none =>
    show (List.range s).length ≤ 8
    rw [List.length_range]
    exact h8
  | some n => exact by show 1 ≤ 8; decide
section
variable {P : Program} {w : World} {K : PySem.W.Frag} {mg : Str → Option Value} {base : Heap}
abbrev sHeldA : Stmt := top 11
def spHeldA (K : PySem.W.Frag) : Sp := fun vs H Q _ => ∃ (va vz vh : V) (s : Nat) (as : List Nat) (os : List (Option Nat)), vs = [va, vz, vh] ∧ Dp K H va (.tuple (as.map nD)) ∧ Dp K H vz (.list ((List.replicate os.length s).map nD)) ∧
  HeldV K H vh (os.map oD) ∧ os.length ≤ 4 ∧ s ≤ 8 ∧ (∀ n, some n ∈ os → n < s) ∧ as.length = s ^ os.length ∧
  ∀ H' v, Same H H' → Dp K H' v (.tuple ((heldAns s as os).map nD)) → Nd K H' v → Q v H'
abbrev NHeldA : List Str := ["answers", "sizes", "held", "choices", "size", "value", "row"]
theorem scHeldA : FnScope NHeldA ["answers", "sizes", "held"] (defScope sHeldA) := ⟨rfl, rfl, rfl, by decide +kernel, rfl, by decide +kernel, by decide +kernel⟩
theorem ok_heldA {f fS fR : Addr} {fd fdS fdR : FuncData} (F : Fun K "held_answers" "held_answers" sHeldA f fd) (Z : Bi mg)
    (FS : At K mg "spot_in" sSpot fS fdS ["sizes", "row"]) (FR : At K mg "all_rows" sRows fR fdR ["choices"]) : FnOk P w K mg base CX0 2 f fd ["answers", "sizes", "held"] (spHeldA K) := by
  have GS : FnOk P w K mg base CX0 1 fS fdS ["sizes", "row"] (spSpot K) := ok_spot FS.F Z
  have GR : FnOk P w K mg base CX0 1 fR fdR ["choices"] (spRows K) := ok_rows FR.F
  refine F.ok scHeldA (fun vs H Q E h => ?_) (fun cdv A outer s H vs Q E hr h => ?_)
  · obtain ⟨va, vz, vh, s, as, os, rfl, _⟩ := h
    rfl
  · obtain ⟨va, vz, vh, s, as, os, rfl, h1, h2, h3, h4, h8, hlt, hlen, k⟩ := h
    refine ⟨_, pss_cons (ps_setLc (i := 3) (own := [("size", 4), ("value", 5)]) (g := gTup K 2 (gCons (gName 4) (gCons (gName 5) gNil))) (tt := tYes) (wi := iZip2 K (tCons (tVar 1) (tCons (tVar 2) tNil)))
        (te := tIf _ _ _) rfl scHeldA.nd rfl rfl (sw_true rfl rfl rfl (by decide +kernel)) (pi_zip2 (by rfl) Z.zip (pa_cons (pv 1) (pa_cons (pv 2) pa_nil))) (blkOk_by (N := NHeldA) (sc := defScope sHeldA) (by decide +kernel))
        (fun _ _ _ _ _ => pg_tup rfl (pgs_cons (pg_name (i := 4) scHeldA.nd rfl (Or.inl rfl)) (pgs_cons (pg_name (i := 5) scHeldA.nd rfl (Or.inl rfl)) pgs_nil))) (fun _ _ _ _ _ => pts_nil)
        (fun _ _ _ _ _ => pe_ifExp (pt_cmpR op_isN (pv 5) pe_non (nomark _)) (pe_listRg rfl (by rfl) Z.list (prg_1 (by rfl) Z.range (pv 4))) (pe_lst (pa_cons (pv 5) pa_nil))))
      (pss_one (ps_ret (pe_tupleF (by rfl) Z.tuple (pe_lc (own := [("row", 6)]) (g := gName 6) (tt := tYes) (wi := iList K (tCall (spRows K) [] E0 (tCons (tVar 3) tNil))) (te := tOp (rIxT K) (tVar 0) (tCall (spSpot K) [] E0 (tCons (tVar 1) (tCons (tVar 6) tNil)))) rfl scHeldA.nd (pi_list (pe_call GR hr (by rfl) FR.g FR.F.kp FR.b .nil pass0 (by exact (pa_cons (pv 3) pa_nil))))
        (blkOk_by (N := NHeldA) (sc := defScope sHeldA) (by decide +kernel)) (fun _ _ _ _ _ => pg_name (i := 6) scHeldA.nd rfl (Or.inl rfl)) (fun _ _ _ _ _ => pts_nil)
        (fun _ _ _ _ _ => pe_ix ix_tup (pv 0) (pe_call GS hr (by rfl) FS.g FS.F.kp FS.b .nil pass0 (by exact (pa_cons (pv 1) (pa_cons (pv 6) pa_nil)))) (fun _ _ => rfl)))))), ?_⟩
    obtain ⟨a1, x1s, rfl, q1, r1⟩ := dp_list h2
    obtain ⟨a2, x2s, k2, rfl, q2, r2⟩ := h3.seq
    have l1 : x1s.length = os.length := by rw [dpAll_len r1, List.length_map, List.length_replicate]
    have l2 : x2s.length = os.length := by rw [dpAll_len r2, List.length_map]
    refine ⟨_, rfl, _, rfl, a1, a2, x1s, x2s, .L, k2, rfl, q1, q2, fun D hD => walk_it (walk_zip2 (k := .L) (k' := k2) (a := a1) (b := a2) (xs := x1s) (ys := x2s) (n := os.length) (by omega))
      (fun i H' => Same H H' ∧ Grow K H' D ((os.take i).map fun o => .list ((choiceN s o).map nD))) ⟨same_new hD, Grow.nil⟩ (fun i H' _ p => ⟨p.1.seq q1, sqK_same p.1 q2⟩) ?_ ?_⟩
    · rintro i x H1 H2 hi ⟨s1, g1⟩ ⟨T, x1, x2, rfl, hT, rfl, hx1, hx2⟩
      have e1 : x1 = .int s := by
        have := dpAll_n (i := i) (n := s) r1 (by rw [List.getElem?_replicate, if_pos hi])
        exact Option.some.inj (hx1.symm.trans this)
      obtain ⟨o, ho⟩ : ∃ o, os[i]? = some o := ⟨os[i], List.getElem?_eq_getElem hi⟩
      obtain ⟨x2', e2, d2⟩ := dpAll_at (i := i) (d := oD o) r2 (by rw [List.getElem?_map, ho]; rfl)
      obtain rfl : x2' = x2 := Option.some.inj (e2.symm.trans hx2)
      subst e1
      obtain ⟨acc, eD, _⟩ := id g1
      have nT : D ≠ T := ne_of_none eD hT
      have g2 := g1.keep (same_new (o := .tup [.int s, x2']) hT)
      have eD2 : (upd H1 T (.tup [.int s, x2'])) D = some (.lst acc) := by rw [upd_ne nT]; exact eD
      have lacc := g1.len eD
      rw [List.length_map, List.length_take] at lacc
      have et : (os.take (i + 1)).map (fun o => PyData.list ((choiceN s o).map nD)) = ((os.take i).map fun o => PyData.list ((choiceN s o).map nD)) ++ [.list ((choiceN s o).map nD)] := by
        rw [take_more ho, List.map_append]
        rfl
      have fin : ∀ (L : Addr) (ys : List V), (upd H1 T (.tup [.int s, x2'])) L = none → DpAll K (upd H1 T (.tup [.int s, x2'])) ys ((choiceN s o).map nD) → (∀ H3 : Hp, DpAll K H3 ys ((choiceN s o).map nD)) →
          ∃ acc, (upd (upd H1 T (.tup [.int s, x2'])) L (.lst ys)) D = some (.lst acc) ∧ acc.length < sizeLine ∧ (Same H (upd (upd (upd H1 T (.tup [.int s, x2'])) L (.lst ys)) D (.lst (acc ++ [.ref L]))) ∧ Grow K (upd (upd (upd H1 T (.tup [.int s, x2'])) L (.lst ys)) D (.lst (acc ++ [.ref L]))) D ((os.take (i + 1)).map fun o => .list ((choiceN s o).map nD))) := by
        intro L ys hL _ hy
        have nL : D ≠ L := ne_of_none eD2 hL
        have eD3 : (upd (upd H1 T (.tup [.int s, x2'])) L (.lst ys)) D = some (.lst acc) := by rw [upd_ne nL]; exact eD2
        refine ⟨acc, eD3, by rw [lacc, sizeLine_eq]; omega, same_of ((s1.trans (same_new hT)).trans (same_new hL)) hD, ?_⟩
        rw [et]
        exact (g2.keep (same_new hL)).put eD3 (.lst (SqL.of (by rw [off_ne (Ne.symm nL), upd_same])) (hy _))
      refine ⟨T, _, rfl, SqT.of upd_same, rfl, _, _, rfl, _, _, rfl, rfl, rfl, ?_⟩
      cases o with
      | none =>
        cases d2
        refine ⟨_, rfl, rfl, _, rfl, ?_⟩
        refine ⟨_, rfl, _, rfl, RgOk.of_le (by omega) (by omega) (by omega) (by omega), fun L hL => ?_⟩
        have er : rgV 0 (s : Int) = (List.range s).map fun n : Nat => V.int n := by
          unfold rgV
          rw [Int.sub_zero, Int.toNat_natCast]
          exact List.map_congr_left fun n _ => by rw [Int.zero_add]
        rw [er]
        exact fin L _ hL (dpAll_mkn _) (fun _ => dpAll_mkn _)
      | some n =>
        cases d2
        refine ⟨_, rfl, rfl, _, rfl, ?_⟩
        refine ⟨_, rfl, (by show 1 ≤ sizeLine; decide), fun L hL => ?_⟩
        exact fin L _ hL (.cons (.int _) .nil) (fun _ => .cons (.int _) .nil)
    · rintro H1 ⟨s1, g1⟩
      rw [List.take_length] at g1
      have dch : Dp K H1 (.ref D) (.list ((os.map (choiceN s)).map fun c => .list (c.map nD))) := by
        rw [List.map_map]
        exact g1.dp
      obtain ⟨a0, x0s, rfl, q0, r0⟩ := dp_tup h1
      have hcl : ((os.map (choiceN s)).map fun c => c.map nD).length ≤ 4 := by rw [List.length_map, List.length_map]; exact h4
      have hc8 : ∀ c ∈ (os.map (choiceN s)).map (fun c => c.map nD), c.length ≤ 8 := fun c hc => by
        obtain ⟨c0, h0, rfl⟩ := List.mem_map.mp hc
        rw [List.length_map]
        exact choice_len h8 os c0 h0
      refine ⟨_, rfl, .ref D, (os.map (choiceN s)).map (fun c => c.map nD), rfl, by
        have e : ((os.map (choiceN s)).map fun c => c.map nD).map PyData.list = (os.map (choiceN s)).map fun c => PyData.list (c.map nD) := by rw [List.map_map]; rfl
        rw [e]
        exact dch, hcl, hc8, fun H2 wv s2 dw => ?_⟩
      have many : (rowsN (os.map (choiceN s))).length ≤ 8 ^ 4 := by
        have h1 := rows_many ((os.map (choiceN s)).map fun c => c.map nD) hc8 [[]]
        have h2 : (rowsOf ((os.map (choiceN s)).map fun c => c.map nD)).length = (rowsN (os.map (choiceN s))).length := by rw [rows_nD, List.length_map]
        have h3 : (rowsOf ((os.map (choiceN s)).map fun c => c.map nD)).length ≤ 8 ^ ((os.map (choiceN s)).map fun c => c.map nD).length * 1 := h1
        rw [h2, Nat.mul_one] at h3
        exact Nat.le_trans h3 (Nat.pow_le_pow_right (by decide) hcl)
      have rl := rowsN_len (os.map (choiceN s))
      have rlt := rowsN_lt (os.map (choiceN s)) (choice_lt hlt)
      rw [rows_nD, List.map_map] at dw
      have s02 : Same H H2 := s1.trans s2
      generalize hrs : rowsN (os.map (choiceN s)) = rows at dw many rl rlt
      obtain ⟨aw, xw, rfl, qw, rw'⟩ := dp_list dw
      have lw : xw.length = rows.length := by rw [dpAll_len rw', List.length_map]
      refine ⟨aw, rfl, ⟨_, qw⟩, fun D2 hD2 => walk_it walk_list (fun i H' => Same H2 H' ∧ Grow K H' D2 ((rows.take i).map fun r => nD (as.getD (spotN s r) 0))) ⟨same_new hD2, Grow.nil⟩ (fun i H' _ p => p.1.seq qw) ?_ ?_⟩
      · rintro i x _ H3 hi ⟨s3, g3⟩ ⟨rfl, hx⟩
        refine ⟨rfl, ?_⟩
        obtain ⟨dr, hr', hxd⟩ := dpAll_get rw' hx
        obtain ⟨r, hrr, rfl⟩ : ∃ r, rows[i]? = some r ∧ dr = .tuple (r.map nD) := by
          rw [List.getElem?_map] at hr'
          cases e : rows[i]? with
          | none =>
            rw [e] at hr'
            cases hr'
          | some c =>
            rw [e] at hr'
            exact ⟨c, rfl, (Option.some.inj hr').symm⟩
        have hm := List.mem_of_getElem? hrr
        have hrl : r.length = os.length := by rw [rl r hm, List.length_map]
        have s03 : Same H H3 := s02.trans s3
        have hsp := spot_lt' h8 (rs := r) (rlt r hm)
        rw [hrl, ← hlen] at hsp
        refine ⟨_, rfl, _, rfl, _, rfl, .ref a1, x, s, r, rfl, by rw [hrl]; exact dp_same s03 h2, dp_same s3 hxd, by rw [hrl]; exact h4, h8, rlt r hm, fun H4 s4 => ?_⟩
        have s04 := s03.trans s4
        have eat : x0s[spotN s r]? = some (.int (as[spotN s r] : Nat)) := dpAll_n r0 (List.getElem?_eq_getElem hsp)
        refine ⟨a0, x0s, _, .int (as[spotN s r] : Nat), rfl, rfl, seqT s04 q0, atI_nat eat, ?_⟩
        have g4 := g3.keep s4
        obtain ⟨acc, eD, _⟩ := id g4
        have lacc := g4.len eD
        rw [List.length_map, List.length_take] at lacc
        refine ⟨acc, eD, by rw [lacc, sizeLine_eq]; omega, same_of (s3.trans s4) hD2, ?_⟩
        have et : (rows.take (i + 1)).map (fun r => nD (as.getD (spotN s r) 0)) = ((rows.take i).map fun r => nD (as.getD (spotN s r) 0)) ++ [nD as[spotN s r]] := by
          rw [take_more hrr, List.map_append, List.map_singleton, List.getD_eq_getElem?_getD, List.getElem?_eq_getElem hsp]
          rfl
        rw [et]
        exact g4.put eD (.int _)
      · rintro H3 ⟨s3, g3⟩
        rw [lw, List.take_length] at g3
        obtain ⟨vs, e3, d3⟩ := id g3
        refine ⟨D2, vs, rfl, SqL.of e3, fun q o hq ho => ?_⟩
        have s4 := same_new (o := .frz o (.tup vs)) hq
        have ef : (heldAns s as os).map nD = rows.map fun r => nD (as.getD (spotN s r) 0) := by
          unfold heldAns
          rw [hrs, List.map_map]
          rfl
        refine k _ _ ((s02.trans s3).trans s4) ?_ ⟨q, rfl, .inl ⟨o, vs, upd_same, ho⟩⟩
        rw [ef]
        exact .tup (.inl (.inr ⟨o, upd_same⟩)) (dpAll_same (off_le.trans s4) d3)
end
end K46
/-! sizes, tables, operations. -/
namespace K46
open PySem L2 FX SQ
theorem iSq_of {K : PySem.W.Frag} {tl : TE} {σ : L2.St} {H : Hp} {R : It → Hp → Prop} {a : Addr} {xs : List V} (ht : ∀ Q : VK, Q (.ref a) H → tl σ H Q) : ∀ {kd : Kd}, SqK K H kd a xs → R (It2 K kd a) H → iSq K tl σ H R
  | .L, q, r => .inl (ht _ ⟨a, rfl, ⟨xs, q⟩, r⟩)
  | .T, q, r => .inr (ht _ ⟨a, rfl, ⟨xs, q⟩, r⟩)
theorem ixS {K : PySem.W.Frag} {H : Hp} {v : V} {d x : D} {i : Nat} (h : Dp K H v d) (hs : isSq d = true) (e : (items d)[i]? = some x) : ∃ u, Dp K H u x ∧ ∀ Q : VK, Q u H → rIx K v (.int (i : Nat)) H Q := by
  obtain ⟨a, xs, rfl, q, r⟩ := dp_seq h hs
  obtain ⟨u, eu, hu⟩ := dpAll_at (i := i) r e
  refine ⟨u, hu, fun Q k => ?_⟩
  rcases q with q | q
  · exact .inl ⟨a, xs, _, u, rfl, rfl, q, atI_nat eu, k⟩
  · exact .inr (.inl ⟨a, xs, _, u, rfl, rfl, q, atI_nat eu, k⟩)
def isTable (s lo hi : Int) (d : D) : Bool := isRow 2 d && (isBt lo hi ((items d).getD 0 .none) && (isRow (pow' s (intV ((items d).getD 0 .none)).toNat) ((items d).getD 1 .none) && (items ((items d).getD 1 .none)).all (isB s)))
theorem pow_le {s : Int} (s0 : 0 ≤ s) (s8 : s ≤ 8) : ∀ n : Nat, 0 ≤ pow' s n ∧ pow' s n ≤ 8 ^ n
  | 0 => ⟨Int.le_of_lt Int.one_pos, Int.le_refl _⟩
  | n + 1 => by
    obtain ⟨h0, h1⟩ := pow_le s0 s8 n
    refine ⟨Int.mul_nonneg h0 s0, ?_⟩
    show pow' s n * s ≤ 8 ^ n * 8
    exact Int.mul_le_mul h1 s8 s0 (by exact Int.le_trans h0 h1)
section
variable {P : Program} {w : World} {K : PySem.W.Frag} {mg : Str → Option Value} {base : Heap}
abbrev sSize : Stmt := top 20
abbrev sNeedSize : Stmt := top 21
abbrev sTable : Stmt := top 22
abbrev sOper : Stmt := top 23
theorem scSize : FnScope ["value"] ["value"] (defScope sSize) := ⟨rfl, rfl, rfl, by decide +kernel, rfl, by decide +kernel, by decide +kernel⟩
theorem ok_size {f fB : Addr} {fd fdB : FuncData} (F : Fun K "is_size" "is_size" sSize f fd) (FB : At K mg "is_between" sBetween fB fdB ["least", "most", "value"]) (GB : FnOk P w K mg base CX0 2 fB fdB ["least", "most", "value"] (spB2 K isBt)) :
    FnOk P w K mg base CX0 3 f fd ["value"] (spB K (isBt 2 8)) := by
  refine F.ok scSize (fun vs H Q E h => ?_) (fun cdv A outer s H vs Q E hr h => ?_)
  · obtain ⟨v, d, rfl, _⟩ := h
    rfl
  · obtain ⟨v, d, rfl, hd, k⟩ := h
    refine ⟨_, pss_one (ps_ret (pe_call GB hr rfl FB.g FB.F.kp FB.b .nil pass0 (by exact (pa_cons pe_int (pa_cons pe_int (pa_cons (pv 0) pa_nil)))))), ?_⟩
    exact ⟨_, rfl, 2, 8, v, d, rfl, hd, fun H1 s1 => k H1 s1⟩
/-- what a table asks -/
def spTable (K : PySem.W.Frag) : Sp := fun vs H Q _ => ∃ (s lo hi : Int) (v : V) (d : D), vs = [.int s, .int lo, .int hi, v] ∧ 0 ≤ s ∧ s ≤ 8 ∧ 0 ≤ lo ∧ hi ≤ 6 ∧ Dp K H v d ∧ ∀ H', Same H H' → Q (.bl (isTable s lo hi d)) H'
abbrev NTable : List Str := ["size", "least", "most", "value", "answer"]
theorem scTable : FnScope NTable ["size", "least", "most", "value"] (defScope sTable) := ⟨rfl, rfl, rfl, by decide +kernel, rfl, by decide +kernel, by decide +kernel⟩
theorem ok_table {f fR fW fB fL : Addr} {fd fdR fdW fdB fdL : FuncData} (F : Fun K "is_table" "is_table" sTable f fd) (Z : Bi mg) (FR : At K mg "is_row_of" sRowOf fR fdR ["many", "value"]) (GR : FnOk P w K mg base CX0 2 fR fdR ["many", "value"] (spB1 K isRow))
    (FW : At K mg "power" sPower fW fdW ["base", "times"]) (FB : At K mg "is_between" sBetween fB fdB ["least", "most", "value"]) (GB : FnOk P w K mg base CX0 2 fB fdB ["least", "most", "value"] (spB2 K isBt))
    (FL : At K mg "is_below" sBelow fL fdL ["many", "value"]) (GL : FnOk P w K mg base CX0 3 fL fdL ["many", "value"] (spB1 K isB)) :
    FnOk P w K mg base CX0 4 f fd ["size", "least", "most", "value"] (spTable K) := by
  have GW : FnOk P w K mg base CX0 1 fW fdW ["base", "times"] spPower := ok_power FW.F Z
  refine F.ok scTable (fun vs H Q E h => ?_) (fun cdv A outer s H vs Q E hr h => ?_)
  · obtain ⟨s, lo, hi, v, d, rfl, _⟩ := h
    rfl
  · obtain ⟨s, lo, hi, v, d, rfl, s0, s8, l0, h6, hd, k⟩ := h
    have hr2 := hr
    refine ⟨_, pss_cons (ps_if (PW.pt (pw_or (pt_not (pt_val (pe_call GR (hr.mono (by decide)) rfl FR.g FR.F.kp FR.b .nil pass0 (by exact (pa_cons pe_int (pa_cons (pv 3) pa_nil))))))
        (pw_or1 (pt_not (pt_val (pe_call GB (hr.mono (by decide)) rfl FB.g FB.F.kp FB.b .nil pass0 (by exact (pa_cons (pv 1) (pa_cons (pv 2) (pa_cons (pe_ix ix_seq (pv 3) pe_int (fun _ _ => rfl)) pa_nil))))))))))
        (pss_one (ps_ret pe_bl)) pss_nil)
      (pss_cons (ps_if (pt_not (pt_val (pe_call GR (hr.mono (by decide)) rfl FR.g FR.F.kp FR.b .nil pass0 (by exact (pa_cons (pe_call GW (hr.mono (by decide)) rfl FW.g FW.F.kp FW.b .nil pass0 (by exact (pa_cons (pv 0) (pa_cons (pe_ix ix_seq (pv 3) pe_int (fun _ _ => rfl)) pa_nil)))) (pa_cons (pe_ix ix_seq (pv 3) pe_int (fun _ _ => rfl)) pa_nil))))))
        (pss_one (ps_ret pe_bl)) pss_nil)
      (pss_one (ps_ret (pe_callB (cr_all rfl) (by rfl) Z.all (by decide +kernel) (pa_cons
        (pe_lc (own := [("answer", 4)]) (g := gName 4) (tt := tYes) (wi := iSq K (tOp (rIx K) (tVar 3) (tC (.int 1)))) (te := tCall (spB1 K isB) [] E0 (tCons (tVar 0) (tCons (tVar 4) tNil))) rfl scTable.nd (pi_sq (pe_ix ix_seq (pv 3) pe_int (fun _ _ => rfl)))
          (blkOk_by (N := NTable) (sc := defScope sTable) (by decide +kernel)) (fun _ _ _ _ _ => pg_name (i := 4) scTable.nd rfl (Or.inl rfl)) (fun _ _ _ _ _ => pts_nil)
          (fun _ _ _ _ _ => pe_call GL (hr.mono (by decide)) (by rfl) FL.g FL.F.kp FL.b .nil pass0 (by exact (pa_cons (pv 0) (pa_cons (pv 4) pa_nil))))) pa_nil))))), ?_⟩
    have no : isTable s lo hi d = false → ∀ H', Same H H' → Q (.bl false) H' := fun e H' s' => e ▸ k H' s'
    refine ⟨_, rfl, 2, v, d, rfl, hd, fun H1 s1 => ⟨_, rfl, ?_⟩⟩
    by_cases hrow : isRow 2 d = true
    case neg =>
      have hf : isRow 2 d = false := by simpa using hrow
      refine go_t (by rw [hf]; rfl) ?_
      refine go_t rfl ?_
      exact no (and_f hf) H1 s1
    refine go_f (by rw [hrow]; rfl) ?_
    have hsq : isSq d = true := by
      unfold isRow at hrow
      simp only [Bool.and_eq_true] at hrow
      exact hrow.1
    have hl2 : (items d).length = 2 := by
      unfold isRow at hrow
      simp only [Bool.and_eq_true, decide_eq_true_eq] at hrow
      omega
    obtain ⟨d0, d1, hit⟩ : ∃ d0 d1, items d = [d0, d1] := by
      match items d, hl2 with
      | [a, b], _ => exact ⟨a, b, rfl⟩
    have e0 : (items d)[0]? = some d0 := by rw [hit]; rfl
    have e1 : (items d)[1]? = some d1 := by rw [hit]; rfl
    have eT : isTable s lo hi d = (isBt lo hi d0 && (isRow (pow' s (intV d0).toNat) d1 && (items d1).all (isB s))) := by
      unfold isTable
      rw [and_t hrow, hit]
      rfl
    obtain ⟨u0, hu0, k0⟩ := ixS (i := 0) (dp_same s1 hd) hsq e0
    refine ⟨_, rfl, _, rfl, _, rfl, k0 _ ⟨lo, hi, u0, d0, rfl, hu0, fun H2 s2 => ⟨_, rfl, ?_⟩⟩⟩
    have s02 := s1.trans s2
    by_cases hbt : isBt lo hi d0 = true
    case neg =>
      have hf : isBt lo hi d0 = false := by simpa using hbt
      refine go_t (by rw [hf]; rfl) ?_
      exact no (by rw [eT]; exact and_f hf) H2 s02
    refine go_f (by rw [hbt]; rfl) ?_
    rw [and_t hbt] at eT
    have hb3 : isI d0 = true ∧ lo ≤ intV d0 ∧ intV d0 ≤ hi := by
      unfold isBt at hbt
      simp only [Bool.and_eq_true, decide_eq_true_eq] at hbt
      exact ⟨hbt.1, hbt.2.1, hbt.2.2⟩
    obtain ⟨i0, rfl, rfl⟩ := dp_int hu0 hb3.1
    have hi0 : lo ≤ i0 ∧ i0 ≤ hi := hb3.2
    obtain ⟨n, rfl⟩ : ∃ n : Nat, i0 = (n : Int) := ⟨i0.toNat, by omega⟩
    have eT' : isTable s lo hi d = (isRow (pow' s n) d1 && (items d1).all (isB s)) := eT
    obtain ⟨u0', hu0', k0'⟩ := ixS (i := 0) (dp_same s02 hd) hsq e0
    have eu : u0' = .int (n : Int) := by cases hu0'; rfl
    subst eu
    obtain ⟨u1, hu1, k1⟩ := ixS (i := 1) (dp_same s02 hd) hsq e1
    refine ⟨_, rfl, _, rfl, k0' _ ⟨s, n, rfl, s0, by omega, by omega, ?_⟩⟩
    refine ⟨_, rfl, k1 _ ⟨pow' s n, u1, d1, rfl, hu1, fun H3 s3 => ⟨_, rfl, ?_⟩⟩⟩
    have s03 := s02.trans s3
    by_cases hr1 : isRow (pow' s n) d1 = true
    case neg =>
      have hf : isRow (pow' s n) d1 = false := by simpa using hr1
      refine go_t (by rw [hf]; rfl) ?_
      exact no (by rw [eT']; exact and_f hf) H3 s03
    refine go_f (by rw [hr1]; rfl) ?_
    rw [and_t hr1] at eT'
    have hs1 : isSq d1 = true ∧ ((items d1).length : Int) = pow' s n := by
      unfold isRow at hr1
      simp only [Bool.and_eq_true, decide_eq_true_eq] at hr1
      exact hr1
    have hlen : (items d1).length ≤ 262144 := by
      have h1 := (pow_le s0 s8 n).2
      have h2 : (8 : Nat) ^ n ≤ 8 ^ 6 := Nat.pow_le_pow_right (by decide) (by omega)
      have h3 : (8 : Nat) ^ 6 = 262144 := by decide
      have h4 : (8 : Int) ^ n = ((8 ^ n : Nat) : Int) := by rw [Int.natCast_pow]; rfl
      rw [h4] at h1
      omega
    obtain ⟨u1', hu1', k1'⟩ := ixS (i := 1) (dp_same s03 hd) hsq e1
    obtain ⟨a, xs, rfl, q, r⟩ := dp_seq hu1' hs1.1
    obtain ⟨kd, qk⟩ : ∃ kd, SqK K H3 kd a xs := q.elim (fun q => ⟨.L, q⟩) fun q => ⟨.T, q⟩
    have lx : xs.length = (items d1).length := dpAll_len r
    refine iSq_of (kd := kd) (fun Q kq => ⟨_, rfl, k1' Q kq⟩) qk fun D hD => walk_it (walk_sq (n := xs.length) rfl) (fun i H' => Same H3 H' ∧ H' D = some (.lst (((items d1).take i).map fun d => V.bl (isB s d)))) ⟨same_new hD, upd_same⟩ (fun i H' _ p => sqK_same p.1 qk) ?_ ?_
    · rintro i x _ H4 hi ⟨s4, eD⟩ ⟨rfl, hx⟩
      refine ⟨rfl, ?_⟩
      obtain ⟨dx, hdx, hxd⟩ := dpAll_get r hx
      refine ⟨_, rfl, _, rfl, s, x, dx, rfl, dp_same s4 hxd, fun H5 s5 => ?_⟩
      refine ⟨_, s5 _ _ eD, ?_, same_of (s4.trans s5) hD, ?_⟩
      · rw [List.length_map, List.length_take, sizeLine_eq]
        omega
      · rw [upd_same, take_more hdx, List.map_append]
        rfl
    · rintro H4 ⟨s4, eD⟩
      rw [lx, List.take_length] at eD
      refine ⟨D, (items d1).map (isB s), rfl, ?_, ?_⟩
      · rw [List.map_map]
        exact SqL.of eD
      · rw [List.all_map]
        rw [show (items d1).all (id ∘ isB s) = isTable s lo hi d from by rw [eT']; rfl]
        exact k H4 (s03.trans s4)
end
end K46
/-! what raises: sizes, operations, books, held values. -/
namespace SQ
open PySem PySem.Spec PyProof.Rows L2
def gOr (g1 g2 : TG) : TG := fun v σ H Q => g1 v σ H Q ∨ g2 v σ H Q
theorem pg_or2 {X : Cx} {t : Expr} {g1 g2 : TG} (h1 : PG X t g1) (h2 : PG X t g2) : PG X t (gOr g1 g2) :=
  ⟨fun pins s σ H v u Q I r h => h.elim (fun h => h1.run pins s σ H v u Q I r h) fun h => h2.run pins s σ H v u Q I r h⟩
end SQ
namespace K46
open PySem L2 FX SQ
/-- the error of a class is out, v in its field -/
def Thr (C : Addr) (f : Str) (v : V) (H : Hp) (E : XK) : Prop := ∀ H' d, Same H H' → H' d = none → E (.ref C) (some d) (upd H' d (.xd [(f, v)]))
theorem Thr.same {C : Addr} {f : Str} {v : V} {H H' : Hp} {E : XK} (s : Same H H') (h : Thr C f v H E) : Thr C f v H' E := fun H2 d s2 hd => h H2 d (s.trans s2) hd
structure Er (K : PySem.W.Frag) (mg : Str → Option Value) (B : Addr) (x qn f : Str) (C i : Addr) : Prop where
  T : ErrTxt K mg B x C
  U : InitTxt K qn f C i
structure Ers (K : PySem.W.Frag) (mg : Str → Option Value) (B cB iB cO iO cV iV cS iS : Addr) : Prop where
  S : BaseTxt K mg "FoldError" B
  b : Er K mg B "InvalidBook" "InvalidBook.__init__" "at" cB iB
  o : Er K mg B "InvalidOperation" "InvalidOperation.__init__" "at" cO iO
  v : Er K mg B "InvalidIndex" "InvalidIndex.__init__" "at" cV iV
  s : Er K mg B "InvalidSize" "InvalidSize.__init__" "word" cS iS
section
variable {P : Program} {w : World} {K : PySem.W.Frag} {mg : Str → Option Value} {base : Heap} {B cB iB cO iO cV iV cS iS : Addr}
def spOper (K : PySem.W.Frag) : Sp := fun vs H Q _ => ∃ (s : Int) (v : V) (d : D), vs = [.int s, v] ∧ 0 ≤ s ∧ s ≤ 8 ∧ Dp K H v d ∧ ∀ H', Same H H' → Q (.bl (isTable s 1 3 d)) H'
theorem scOper : FnScope ["size", "value"] ["size", "value"] (defScope sOper) := ⟨rfl, rfl, rfl, by decide +kernel, rfl, by decide +kernel, by decide +kernel⟩
theorem ok_oper {f fT : Addr} {fd fdT : FuncData} (F : Fun K "is_operation" "is_operation" sOper f fd) (FT : At K mg "is_table" sTable fT fdT ["size", "least", "most", "value"]) (GT : FnOk P w K mg base CX0 4 fT fdT ["size", "least", "most", "value"] (spTable K)) :
    FnOk P w K mg base CX0 5 f fd ["size", "value"] (spOper K) := by
  refine F.ok scOper (fun vs H Q E h => ?_) (fun cdv A outer s H vs Q E hr h => ?_)
  · obtain ⟨s, v, d, rfl, _⟩ := h
    rfl
  · obtain ⟨s, v, d, rfl, s0, s8, hd, k⟩ := h
    refine ⟨_, pss_one (ps_ret (pe_call GT hr rfl FT.g FT.F.kp FT.b .nil pass0 (by exact (pa_cons (pv 0) (pa_cons pe_int (pa_cons pe_int (pa_cons (pv 1) pa_nil))))))), ?_⟩
    exact ⟨_, rfl, _, rfl, s, 1, 3, v, d, rfl, s0, s8, by decide, by decide, hd, k⟩
def spNeedSize (K : PySem.W.Frag) (cS : Addr) : Sp := fun vs H Q E => ∃ (v : V) (d : D), vs = [v] ∧ Dp K H v d ∧ (isBt 2 8 d = true → ∀ H', Same H H' → Q .non H') ∧ (isBt 2 8 d = false → Thr cS "word" (.str "size") H E)
theorem scNeedSize : FnScope ["value"] ["value"] (defScope sNeedSize) := ⟨rfl, rfl, rfl, by decide +kernel, rfl, by decide +kernel, by decide +kernel⟩
theorem ok_needSize {f fS : Addr} {fd fdS : FuncData} (F : Fun K "need_size" "need_size" sNeedSize f fd) (T : Ers K mg B cB iB cO iO cV iV cS iS) (FS : At K mg "is_size" sSize fS fdS ["value"]) (GS : FnOk P w K mg base CX0 3 fS fdS ["value"] (spB K (isBt 2 8))) :
    FnOk P w K mg base (L2.CX P w) 4 f fd ["value"] (spNeedSize K cS) := by
  refine F.okX scNeedSize (fun vs H Q E h => ?_) (fun cdv A outer s H vs Q E hr h => ?_)
  · obtain ⟨v, d, rfl, _⟩ := h
    rfl
  · obtain ⟨v, d, rfl, hd, k1, k2⟩ := h
    refine ⟨_, pss_one (ps_if (pt_not (pt_val (pe_call GS hr rfl FS.g FS.F.kp FS.b .nil pass0 (by exact (pa_cons (pv 0) pa_nil)))))
      (pss_one (ps_err rfl T.s.T T.s.U hr (takes_of rfl rfl rfl rfl) (by exact (pa_cons pe_str pa_nil)))) pss_nil), ?_⟩
    refine ⟨_, rfl, v, d, rfl, hd, fun H1 s1 => ⟨_, rfl, ?_⟩⟩
    by_cases hb : isBt 2 8 d = true
    · refine go_f (by rw [hb]; rfl) ?_
      exact k1 hb H1 s1
    · have hf : isBt 2 8 d = false := by simpa using hb
      refine go_t (by rw [hf]; rfl) ?_
      exact ⟨_, rfl, fun d' hd' => k2 hf H1 d' s1 hd'⟩
/-- an operation in tuples -/
def opD (d : D) : D := .tuple [(items d).getD 0 .none, .tuple (items ((items d).getD 1 .none))]
theorem table_is {s lo hi : Int} {d : D} (h : isTable s lo hi d = true) : isSq d = true ∧ ∃ (n : Int) (d1 : D), items d = [.int n, d1] ∧ lo ≤ n ∧ n ≤ hi ∧ isSq d1 = true ∧ ((items d1).length : Int) = pow' s n.toNat ∧ (items d1).all (isB s) = true := by
  unfold isTable at h
  simp only [Bool.and_eq_true] at h
  obtain ⟨h1, h2, h3, h4⟩ := h
  unfold isRow at h1
  simp only [Bool.and_eq_true, decide_eq_true_eq] at h1
  obtain ⟨d0, d1, hit⟩ : ∃ d0 d1, items d = [d0, d1] := by
    match items d, (show (items d).length = 2 by omega) with
    | [a, b], _ => exact ⟨a, b, rfl⟩
  rw [hit] at h2 h3 h4
  unfold isBt at h2
  simp only [Bool.and_eq_true, decide_eq_true_eq] at h2
  obtain ⟨h21, h22, h23⟩ := h2
  cases d0 with
  | int n =>
    unfold isRow at h3
    simp only [Bool.and_eq_true, decide_eq_true_eq] at h3
    exact ⟨h1.1, n, d1, hit, h22, h23, h3.1, h3.2, h4⟩
  | none => cases h21
  | bool _ => cases h21
  | str _ => cases h21
  | list _ => cases h21
  | tuple _ => cases h21
  | dict _ => cases h21
def spNeedOp (K : PySem.W.Frag) (cO cS : Addr) : Sp := fun vs H Q E => ∃ (vz v : V) (dz d : D), vs = [vz, v] ∧ Dp K H vz dz ∧ Dp K H v d ∧ (isBt 2 8 dz = false → Thr cS "word" (.str "size") H E) ∧
  (isBt 2 8 dz = true → isTable (intV dz) 1 3 d = false → Thr cO "at" (.int (-1)) H E) ∧
  (isBt 2 8 dz = true → isTable (intV dz) 1 3 d = true → ∀ H' v', Same H H' → Dp K H' v' (opD d) → Q v' H')
theorem scNeedOp : FnScope ["size", "value"] ["size", "value"] (defScope (top 24)) := ⟨rfl, rfl, rfl, by decide +kernel, rfl, by decide +kernel, by decide +kernel⟩
abbrev sNeedOp : Stmt := top 24
theorem bt_int {a b : Int} {d : D} (h : isBt a b d = true) : ∃ i, d = .int i ∧ a ≤ i ∧ i ≤ b := by
  unfold isBt at h
  simp only [Bool.and_eq_true, decide_eq_true_eq] at h
  cases d with
  | int i => exact ⟨i, rfl, h.2.1, h.2.2⟩
  | none => cases h.1
  | bool _ => cases h.1
  | str _ => cases h.1
  | list _ => cases h.1
  | tuple _ => cases h.1
  | dict _ => cases h.1
/-- tuple(x) of a list or a tuple -/
theorem kTup_sq {H : Hp} {v : V} {d : D} {Q : VK} (h : Dp K H v d) (hs : isSq d = true) (k : ∀ H' v', Same H H' → Dp K H' v' (.tuple (items d)) → Q v' H') : kTup K v H Q := by
  obtain ⟨a, xs, rfl, q, r⟩ := dp_seq h hs
  rcases q with q | q
  · exact .inl ⟨a, xs, rfl, q, fun t ht => k _ _ (same_new ht) (.tup (SqT.of upd_same) (dpAll_same (same_new ht) r))⟩
  · exact .inr ⟨a, xs, rfl, q, k _ _ (Same.refl H) (.tup q r)⟩
theorem ok_needOp {f fS fO : Addr} {fd fdS fdO : FuncData} (F : Fun K "need_operation" "need_operation" sNeedOp f fd) (Z : Bi mg) (T : Ers K mg B cB iB cO iO cV iV cS iS) (FS : At K mg "need_size" sNeedSize fS fdS ["value"])
    (GS : FnOk P w K mg base (L2.CX P w) 4 fS fdS ["value"] (spNeedSize K cS)) (FO : At K mg "is_operation" sOper fO fdO ["size", "value"]) (GO : FnOk P w K mg base CX0 5 fO fdO ["size", "value"] (spOper K)) :
    FnOk P w K mg base (L2.CX P w) 6 f fd ["size", "value"] (spNeedOp K cO cS) := by
  refine F.okX scNeedOp (fun vs H Q E h => ?_) (fun cdv A outer s H vs Q E hr h => ?_)
  · obtain ⟨vz, v, dz, d, rfl, _⟩ := h
    rfl
  · obtain ⟨vz, v, dz, d, rfl, hz, hd, k1, k2, k3⟩ := h
    refine ⟨_, pss_cons (ps_expr (pe_callS GS (hr.mono (by decide)) rfl FS.g FS.F.kp FS.b (fun σ => passAt (takes_of rfl rfl rfl rfl) σ) (by exact (pa_cons (pv 0) pa_nil))))
      (pss_cons (ps_if (pt_not (pt_val (pe_call GO hr rfl FO.g FO.F.kp FO.b .nil pass0 (by exact (pa_cons (pv 0) (pa_cons (pv 1) pa_nil))))))
        (pss_one (ps_err rfl T.o.T T.o.U hr (takes_of rfl rfl rfl rfl) (by exact (pa_cons (pe_un un_neg pe_int) pa_nil)))) pss_nil)
      (pss_one (ps_ret (pe_tup (by exact (pa_cons (pe_ix ix_seq (pv 1) pe_int (fun _ _ => rfl)) (pa_cons (pe_tupleOf (by rfl) Z.tuple (pe_ix ix_seq (pv 1) pe_int (fun _ _ => rfl))) pa_nil))))))), ?_⟩
    refine ⟨_, rfl, vz, dz, rfl, hz, fun hb H1 s1 => ?_, k1⟩
    obtain ⟨i, rfl, i2, i8⟩ := bt_int hb
    obtain rfl : vz = .int i := by cases hz; rfl
    refine ⟨_, rfl, _, rfl, i, v, d, rfl, by omega, i8, dp_same s1 hd, fun H2 s2 => ⟨_, rfl, ?_⟩⟩
    have s02 := s1.trans s2
    by_cases ht : isTable i 1 3 d = true
    · refine go_f (by rw [ht]; rfl) ?_
      obtain ⟨hsq, n, d1, hit, n1, n3, hs1, _, _⟩ := table_is ht
      have e0 : (items d)[0]? = some (.int n) := by rw [hit]; rfl
      have e1 : (items d)[1]? = some d1 := by rw [hit]; rfl
      obtain ⟨u0, hu0, kk0⟩ := ixS (i := 0) (dp_same s02 hd) hsq e0
      obtain ⟨u1, hu1, kk1⟩ := ixS (i := 1) (dp_same s02 hd) hsq e1
      refine ⟨_, rfl, kk0 _ ⟨_, rfl, kk1 _ (kTup_sq hu1 hs1 fun H3 v3 s3 d3 => ⟨(by show 2 ≤ sizeLine; decide), fun t ht2 => ?_⟩)⟩⟩
      have s4 := same_new (o := .tup [u0, v3]) ht2
      refine k3 hb ht _ _ ((s02.trans s3).trans s4) ?_
      unfold opD
      rw [hit]
      exact .tup (SqT.of upd_same) (.cons (dp_same (s3.trans s4) hu0) (.cons (dp_same s4 d3) .nil))
    · have hf : isTable i 1 3 d = false := by simpa using ht
      refine go_t (by rw [hf]; rfl) ?_
      exact ⟨_, rfl, _, rfl, fun d' hd' => k2 hb hf H2 d' s02 hd'⟩
end
end K46
/-! held values, the held table, the settled value. -/
namespace K46
open PySem L2 FX SQ
def isNo : D → Bool | .none => true | _ => false
def okH (s : Int) (x : D) : Bool := isNo x || isB s x
theorem non_dp {K : PySem.W.Frag} {H : Hp} {v : V} {d : D} (h : Dp K H v d) : decide (v = V.non) = isNo d := by
  cases h <;> rfl
theorem or_f {a b : Bool} (h : a = false) : (a || b) = b := by rw [h]; rfl
/-- an operation of n places with the answers as -/
structure OpIs (s n : Nat) (as : List Nat) (d : D) : Prop where
  sq : isSq d = true
  it : ∃ d1, items d = [nD n, d1] ∧ isSq d1 = true ∧ items d1 = as.map nD
  n1 : 1 ≤ n
  n3 : n ≤ 3
  len : as.length = s ^ n
  lt : ∀ a ∈ as, a < s
structure HeldIs (s n : Nat) (os : List (Option Nat)) (d : D) : Prop where
  sq : isSq d = true
  it : items d = os.map oD
  len : os.length = n
  lt : ∀ m, some m ∈ os → m < s
theorem pow_nat (s : Nat) : ∀ n : Nat, pow' (s : Int) n = ((s ^ n : Nat) : Int)
  | 0 => rfl
  | n + 1 => by
    show pow' s n * s = _
    rw [pow_nat s n, Nat.pow_succ, Int.natCast_mul]
theorem isB_nat {s a : Nat} : isB (s : Int) (nD a) = decide (a < s) := by
  show (decide (0 ≤ (a : Int)) && decide ((a : Int) < (s : Int))) = decide (a < s)
  rw [decide_eq_true (show 0 ≤ (a : Int) by omega), Bool.true_and]
  by_cases h : a < s
  · rw [decide_eq_true h]
    exact decide_eq_true (by omega)
  · rw [decide_eq_false h]
    exact decide_eq_false (by omega)
theorem OpIs.table {s n : Nat} {as : List Nat} {d : D} (h : OpIs s n as d) : isTable s 1 3 d = true := by
  obtain ⟨d1, e, q1, e1⟩ := h.it
  have h1 : isRow 2 d = true := by
    unfold isRow
    rw [h.sq, e]
    rfl
  have h2 : isBt 1 3 (nD n) = true := by
    show (true && (decide ((1 : Int) ≤ (n : Int)) && decide ((n : Int) ≤ 3))) = true
    rw [decide_eq_true (show (1 : Int) ≤ (n : Int) by have := h.n1; omega), decide_eq_true (show (n : Int) ≤ 3 by have := h.n3; omega)]
    rfl
  have h3 : isRow (pow' s n) d1 = true := by
    unfold isRow
    rw [q1, e1, List.length_map, h.len, pow_nat]
    simp
  have h4 : (items d1).all (isB s) = true := by
    rw [e1, List.all_map, List.all_eq_true]
    intro a ha
    show isB s (nD a) = true
    rw [isB_nat]
    exact decide_eq_true (h.lt a ha)
  unfold isTable
  rw [and_t h1, e]
  show (isBt 1 3 (nD n) && (isRow (pow' s n) d1 && (items d1).all (isB s))) = true
  rw [and_t h2, and_t h3, h4]
theorem OpIs.op {s n : Nat} {as : List Nat} {d : D} (h : OpIs s n as d) : opD d = .tuple [nD n, .tuple (as.map nD)] := by
  obtain ⟨d1, e, q1, e1⟩ := h.it
  unfold opD
  rw [e]
  show PyData.tuple [nD n, .tuple (items d1)] = _
  rw [e1]
theorem HeldIs.row {s n : Nat} {os : List (Option Nat)} {d : D} (h : HeldIs s n os d) : isRow n d = true := by
  unfold isRow
  rw [h.sq, h.it, List.length_map, h.len]
  simp
theorem HeldIs.ok {s n : Nat} {os : List (Option Nat)} {d : D} (h : HeldIs s n os d) : ∀ (j : Nat) y, (items d)[j]? = some y → okH s y = true := by
  intro j y hy
  have hm := List.mem_of_getElem? hy
  rw [h.it] at hm
  obtain ⟨o, ho, rfl⟩ := List.mem_map.mp hm
  cases o with
  | none => rfl
  | some m =>
    show (isNo (nD m) || isB s (nD m)) = true
    rw [isB_nat, decide_eq_true (h.lt m ho)]
    rfl
section
variable {P : Program} {w : World} {K : PySem.W.Frag} {mg : Str → Option Value} {base : Heap} {B cB iB cO iO cV iV cS iS : Addr}
end
end K46
/-! books. -/
namespace K46
open PySem L2 FX SQ
theorem gOr_sq {K : PySem.W.Frag} {H : Hp} {σ : L2.St} {Q : L2.St → Hp → Prop} {t : TGs} {n : Nat} {a : Addr} {xs : List V} (q : SqL K H a xs ∨ SqT K H a xs) (l : xs.length = n) (h : t xs σ H Q) : gOr (gLst K n t) (gTup K n t) (.ref a) σ H Q :=
  q.elim (fun q => .inl ⟨a, xs, rfl, q, l, h⟩) fun q => .inr ⟨a, xs, rfl, q, l, h⟩
def okBook (d : D) : Bool := isRow 2 d && (isBt 2 8 ((items d).getD 0 .none) && (isSq ((items d).getD 1 .none) && decide ((items ((items d).getD 1 .none)).length ≤ 8)))
section
variable {P : Program} {w : World} {K : PySem.W.Frag} {mg : Str → Option Value} {base : Heap} {B cB iB cO iO cV iV cS iS : Addr}
abbrev sNeedBook : Stmt := top 25
def spNeedBook (K : PySem.W.Frag) (cB : Addr) : Sp := fun vs H Q E => ∃ (v : V) (d : D), vs = [v] ∧ Dp K H v d ∧ (okBook d = false → Thr cB "at" (.int (-1)) H E) ∧
  (okBook d = true → ∀ (s : Int) d1, items d = [.int s, d1] → (∀ (i : Nat) x, (items d1)[i]? = some x → isTable s 1 3 x = false → (∀ j : Nat, j < i → ∀ y, (items d1)[j]? = some y → isTable s 1 3 y = true) → Thr cB "at" (.int (i : Nat)) H E) ∧
    ((∀ (j : Nat) y, (items d1)[j]? = some y → isTable s 1 3 y = true) → ∀ H' v', Same H H' → Dp K H' v' (.tuple [.int s, .tuple ((items d1).map opD)]) → Q v' H'))
abbrev NBook : List Str := ["value", "at", "operation", "places", "answers"]
theorem scBook : FnScope NBook ["value"] (defScope sNeedBook) := ⟨rfl, rfl, rfl, by decide +kernel, rfl, by decide +kernel, by decide +kernel⟩
theorem ok_book {f fR fZ fS fO : Addr} {fd fdR fdZ fdS fdO : FuncData} (F : Fun K "need_book" "need_book" sNeedBook f fd) (Z : Bi mg) (T : Ers K mg B cB iB cO iO cV iV cS iS) (FR : At K mg "is_row_of" sRowOf fR fdR ["many", "value"]) (GR : FnOk P w K mg base CX0 2 fR fdR ["many", "value"] (spB1 K isRow))
    (FZ : At K mg "is_size" sSize fZ fdZ ["value"]) (GZ : FnOk P w K mg base CX0 3 fZ fdZ ["value"] (spB K (isBt 2 8))) (FS : At K mg "is_sequence" sSequence fS fdS ["value"]) (GS : FnOk P w K mg base CX0 1 fS fdS ["value"] (spB K isSq))
    (FO : At K mg "is_operation" sOper fO fdO ["size", "value"]) (GO : FnOk P w K mg base CX0 5 fO fdO ["size", "value"] (spOper K)) :
    FnOk P w K mg base (L2.CX P w) 6 f fd ["value"] (spNeedBook K cB) := by
  refine F.okX scBook (fun vs H Q E h => ?_) (fun cdv A outer s H vs Q E hr h => ?_)
  · obtain ⟨v, d, rfl, _⟩ := h
    rfl
  · obtain ⟨v, d, rfl, hd, k1, k2⟩ := h
    refine ⟨_, pss_cons (ps_if (PW.pt (pw_or (pt_not (pt_val (pe_call GR (hr.mono (by decide)) rfl FR.g FR.F.kp FR.b .nil pass0 (by exact (pa_cons pe_int (pa_cons (pv 0) pa_nil))))))
          (pw_or (pt_not (pt_val (pe_call GZ (hr.mono (by decide)) rfl FZ.g FZ.F.kp FZ.b .nil pass0 (by exact (pa_cons (pe_ix ix_seq (pv 0) pe_int (fun _ _ => rfl)) pa_nil)))))
          (pw_or (pt_not (pt_val (pe_call GS (hr.mono (by decide)) rfl FS.g FS.F.kp FS.b .nil pass0 (by exact (pa_cons (pe_ix ix_seq (pv 0) pe_int (fun _ _ => rfl)) pa_nil)))))
          (pw_or1 (pt_cmpR op_gt (pe_callB call_len_seq (by rfl) Z.len PySem.boot_len (pa_cons (pe_ix ix_seq (pv 0) pe_int (fun _ _ => rfl)) pa_nil)) pe_int (nomark _)))))))
        (pss_one (ps_err rfl T.b.T T.b.U hr (takes_of rfl rfl rfl rfl) (by exact (pa_cons (pe_un un_neg pe_int) pa_nil)))) pss_nil)
      (pss_cons (ps_for (passes_of rfl) rfl (pi_enum2 (by rfl) Z.enumerate (pa_cons (pe_ix ix_seq (pv 0) pe_int (fun _ _ => rfl)) pa_nil)) (pg_tup rfl (pgs_cons (pg_name (i := 1) scBook.nd rfl (Or.inl rfl)) (pgs_cons (pg_name (i := 2) scBook.nd rfl (Or.inl rfl)) pgs_nil)))
        (pss_one (ps_if (pt_not (pt_val (pe_call GO hr rfl FO.g FO.F.kp FO.b .nil pass0 (by exact (pa_cons (pe_ix ix_seq (pv 0) pe_int (fun _ _ => rfl)) (pa_cons (pv 2) pa_nil))))))
          (pss_one (ps_err rfl T.b.T T.b.U hr (takes_of rfl rfl rfl rfl) (by exact (pa_cons (pv 1) pa_nil)))) pss_nil)))
      (pss_one (ps_ret (pe_tup (by exact (pa_cons (pe_ix ix_seq (pv 0) pe_int (fun _ _ => rfl)) (pa_cons (pe_tupleF (by rfl) Z.tuple
        (pe_lc (own := [("places", 3), ("answers", 4)]) (g := gOr (gLst K 2 (gCons (gName 3) (gCons (gName 4) gNil))) (gTup K 2 (gCons (gName 3) (gCons (gName 4) gNil)))) (tt := tYes) (wi := iSq K (tOp (rIx K) (tVar 0) (tC (.int 1))))
          (te := tTup (tCons (tVar 3) (tCons (tThen (tVar 4) (kTup K)) tNil))) rfl scBook.nd (pi_sq (pe_ix ix_seq (pv 0) pe_int (fun _ _ => rfl))) (blkOk_by (N := NBook) (sc := defScope sNeedBook) (by decide +kernel))
          (fun _ _ _ _ _ => pg_or2 (pg_lst rfl (pgs_cons (pg_name (i := 3) scBook.nd rfl (Or.inl rfl)) (pgs_cons (pg_name (i := 4) scBook.nd rfl (Or.inl rfl)) pgs_nil))) (pg_tup rfl (pgs_cons (pg_name (i := 3) scBook.nd rfl (Or.inl rfl)) (pgs_cons (pg_name (i := 4) scBook.nd rfl (Or.inl rfl)) pgs_nil)))) (fun _ _ _ _ _ => pts_nil)
          (fun _ _ _ _ _ => pe_tup (pa_cons (pv 3) (pa_cons (pe_tupleOf (by rfl) Z.tuple (pv 4)) pa_nil))))) pa_nil))))))), ?_⟩
    refine ⟨_, rfl, 2, v, d, rfl, hd, fun H1 s1 => ⟨_, rfl, ?_⟩⟩
    by_cases hrow : isRow 2 d = true
    case neg =>
      have hf : isRow 2 d = false := by simpa using hrow
      refine go_t (by rw [hf]; rfl) ?_
      refine go_t rfl ?_
      exact ⟨_, rfl, _, rfl, fun d' hd' => k1 (and_f hf) H1 d' s1 hd'⟩
    refine go_f (by rw [hrow]; rfl) ?_
    have hsq : isSq d = true := by
      unfold isRow at hrow
      simp only [Bool.and_eq_true] at hrow
      exact hrow.1
    obtain ⟨d0, d1, hit⟩ : ∃ d0 d1, items d = [d0, d1] := by
      have hl2 : (items d).length = 2 := by
        unfold isRow at hrow
        simp only [Bool.and_eq_true, decide_eq_true_eq] at hrow
        omega
      match items d, hl2 with
      | [a, b], _ => exact ⟨a, b, rfl⟩
    have e0 : (items d)[0]? = some d0 := by rw [hit]; rfl
    have e1 : (items d)[1]? = some d1 := by rw [hit]; rfl
    have eB : okBook d = (isBt 2 8 d0 && (isSq d1 && decide ((items d1).length ≤ 8))) := by
      unfold okBook
      rw [and_t hrow, hit]
      rfl
    obtain ⟨u0, hu0, kk0⟩ := ixS (i := 0) (dp_same s1 hd) hsq e0
    refine ⟨_, rfl, kk0 _ ⟨u0, d0, rfl, hu0, fun H2 s2 => ⟨_, rfl, ?_⟩⟩⟩
    have s02 := s1.trans s2
    by_cases hbt : isBt 2 8 d0 = true
    case neg =>
      have hf : isBt 2 8 d0 = false := by simpa using hbt
      refine go_t (by rw [hf]; rfl) ?_
      refine go_t rfl ?_
      exact ⟨_, rfl, _, rfl, fun d' hd' => k1 (by rw [eB]; exact and_f hf) H2 d' s02 hd'⟩
    refine go_f (by rw [hbt]; rfl) ?_
    rw [and_t hbt] at eB
    obtain ⟨s, rfl, i2, i8⟩ := bt_int hbt
    obtain ⟨u1, hu1, kk1⟩ := ixS (i := 1) (dp_same s02 hd) hsq e1
    refine ⟨_, rfl, kk1 _ ⟨u1, d1, rfl, hu1, fun H3 s3 => ⟨_, rfl, ?_⟩⟩⟩
    have s03 := s02.trans s3
    by_cases hs1 : isSq d1 = true
    case neg =>
      have hf : isSq d1 = false := by simpa using hs1
      refine go_t (by rw [hf]; rfl) ?_
      refine go_t rfl ?_
      exact ⟨_, rfl, _, rfl, fun d' hd' => k1 (by rw [eB]; exact and_f hf) H3 d' s03 hd'⟩
    refine go_f (by rw [hs1]; rfl) ?_
    rw [and_t hs1] at eB
    obtain ⟨u1', hu1', kk1'⟩ := ixS (i := 1) (dp_same s03 hd) hsq e1
    obtain ⟨a, xs, rfl, q, r⟩ := dp_seq hu1' hs1
    have lx : xs.length = (items d1).length := dpAll_len r
    refine ⟨_, rfl, kk1' _ ⟨a, xs, rfl, q, _, _, rfl, rfl, _, rfl, ?_⟩⟩
    rw [lx]
    by_cases h8 : (items d1).length ≤ 8
    case neg =>
      refine go_t (decide_eq_true (by omega)) ?_
      exact ⟨_, rfl, _, rfl, fun d' hd' => k1 (by rw [eB]; exact decide_eq_false h8) H3 d' s03 hd'⟩
    refine go_f (decide_eq_false (by omega)) ?_
    have ok : okBook d = true := by rw [eB]; exact decide_eq_true h8
    obtain ⟨k2a, k2b⟩ := k2 ok s d1 hit
    obtain ⟨kd, qk⟩ : ∃ kd, SqK K H3 kd a xs := q.elim (fun q => ⟨.L, q⟩) fun q => ⟨.T, q⟩
    refine ⟨_, rfl, kk1' _ ⟨a, xs, kd, rfl, qk, for_it (walk_enum2 (k := kd) (a := a) (xs := xs) (n := xs.length) rfl)
      (fun i σ H' => ∃ u1 u2 : Option V, σ = [some v, u1, u2, none, none] ∧ Same H3 H' ∧ ∀ j : Nat, j < i → ∀ y, (items d1)[j]? = some y → isTable s 1 3 y = true)
      ⟨none, none, rfl, Same.refl H3, fun j hj => by omega⟩ (fun i σ H' _ ⟨_, _, _, s2, _⟩ => sqK_same s2 qk) ?_ ?_⟩⟩
    · rintro i x σ H4 H5 hi ⟨w1, w2, rfl, s4, hj⟩ ⟨t, x1, x2, rfl, ht, rfl, hx1, hx2⟩
      obtain rfl : x1 = .int (i : Nat) := (Option.some.inj hx1).symm
      obtain ⟨dx, hdx, hxd⟩ := dpAll_get r hx2
      have s5 := same_new (o := .tup [.int (i : Nat), x2]) ht
      have s05 := s03.trans (s4.trans s5)
      obtain ⟨u0', hu0', kk0'⟩ := ixS (i := 0) (dp_same s05 hd) hsq e0
      obtain rfl : u0' = .int s := by cases hu0'; rfl
      refine ⟨t, _, rfl, SqT.of upd_same, rfl, _, _, rfl, _, _, rfl, rfl, _, rfl, kk0' _ ⟨_, rfl, s, x2, dx, rfl, by omega, i8, dp_same (s4.trans s5) hxd, fun H6 s6 => ⟨_, rfl, ?_⟩⟩⟩
      by_cases hb : isTable s 1 3 dx = true
      · refine go_f (by rw [hb]; rfl) ?_
        refine ⟨_, _, rfl, (s4.trans s5).trans s6, fun j hj' y hy => ?_⟩
        by_cases e : j = i
        · subst e
          rw [hdx] at hy
          cases hy
          exact hb
        · exact hj j (by omega) y hy
      · have hb' : isTable s 1 3 dx = false := by simpa using hb
        refine go_t (by rw [hb']; rfl) ?_
        exact ⟨_, rfl, _, rfl, fun d' hd' => k2a i dx hdx hb' hj H6 d' (s05.trans s6) hd'⟩
    · rintro σ H4 ⟨w1, w2, rfl, s4, hj⟩
      have all : ∀ (j : Nat) y, (items d1)[j]? = some y → isTable s 1 3 y = true := fun j y hy => hj j (by rw [lx]; exact (List.getElem?_eq_some_iff.mp hy).1) y hy
      have s04 := s03.trans s4
      obtain ⟨u0', hu0', kk0'⟩ := ixS (i := 0) (dp_same s04 hd) hsq e0
      obtain rfl : u0' = .int s := by cases hu0'; rfl
      obtain ⟨u2, hu2, kk2⟩ := ixS (i := 1) (dp_same s04 hd) hsq e1
      obtain ⟨a2, x2s, rfl, q2, r2⟩ := dp_seq hu2 hs1
      obtain ⟨kd2, qk2⟩ : ∃ kd, SqK K H4 kd a2 x2s := q2.elim (fun q => ⟨.L, q⟩) fun q => ⟨.T, q⟩
      have lx2 : x2s.length = (items d1).length := dpAll_len r2
      refine ⟨_, rfl, kk0' _ (iSq_of (kd := kd2) (fun Q kq => ⟨_, rfl, kk2 Q kq⟩) qk2 fun D hD => walk_it (walk_sq (n := x2s.length) rfl) (fun i H' => Same H4 H' ∧ Grow K H' D (((items d1).take i).map opD)) ⟨same_new hD, Grow.nil⟩ (fun i H' _ p => sqK_same p.1 qk2) ?_ ?_)⟩
      · rintro i x _ H5 hi ⟨s5, g5⟩ ⟨rfl, hx⟩
        obtain ⟨dx, hdx, hxd⟩ := dpAll_get r2 hx
        obtain ⟨hsx, n, dx1, hitx, _, _, hsx1, _, _⟩ := table_is (all i dx hdx)
        obtain ⟨ax, xx, rfl, qx, rx⟩ := dp_seq hxd hsx
        rw [hitx] at rx
        obtain ⟨y0, y1, rfl, hy0, hy1⟩ : ∃ y0 y1, xx = [y0, y1] ∧ Dp K H4 y0 (.int n) ∧ Dp K H4 y1 dx1 := by
          cases rx with
          | cons h0 r => cases r with
            | cons h1 r => cases r with
              | nil => exact ⟨_, _, rfl, h0, h1⟩
        have qx5 : SqL K H5 ax [y0, y1] ∨ SqT K H5 ax [y0, y1] := qx.elim (fun q => .inl (s5.seq q)) fun q => .inr (seqT s5 q)
        obtain ⟨a1, x1s, rfl, q1, r1⟩ := dp_seq hy1 hsx1
        obtain ⟨acc, eD, _⟩ := id g5
        have lacc := g5.len eD
        rw [List.length_map, List.length_take] at lacc
        have et : ((items d1).take (i + 1)).map opD = (((items d1).take i).map opD) ++ [opD dx] := by
          rw [take_more hdx, List.map_append]
          rfl
        have eo : opD dx = .tuple [.int n, .tuple (items dx1)] := by
          unfold opD
          rw [hitx]
          rfl
        have fin : ∀ (H6 : Hp) (v6 : V), Same H5 H6 → H6 D = some (.lst acc) → Dp K (off H6 D) v6 (.tuple (items dx1)) → ∀ t, H6 t = none →
            ∃ acc, (upd H6 t (.tup [y0, v6])) D = some (.lst acc) ∧ acc.length < sizeLine ∧ (Same H4 (upd (upd H6 t (.tup [y0, v6])) D (.lst (acc ++ [.ref t]))) ∧ Grow K (upd (upd H6 t (.tup [y0, v6])) D (.lst (acc ++ [.ref t]))) D (((items d1).take (i + 1)).map opD)) := by
          intro H6 v6 s6 eD6 d6 t ht
          have nt : D ≠ t := ne_of_none eD6 ht
          have s7 := same_new (o := .tup [y0, v6]) ht
          refine ⟨acc, by rw [upd_ne nt]; exact eD6, by rw [lacc, sizeLine_eq]; omega, same_of ((s5.trans s6).trans s7) hD, ?_⟩
          rw [et, eo]
          refine ((g5.keep s6).keep s7).put (by rw [upd_ne nt]; exact eD6) ?_
          exact .tup (SqT.of (by rw [off_ne (Ne.symm nt), upd_same])) (.cons (dp_off hy0 ((s5.trans s6).trans s7) hD) (.cons (dp_same (off_mono fun c o _ e => s7 c o e) d6) .nil))
        refine gOr_sq qx5 rfl ⟨_, _, rfl, _, _, rfl, rfl, rfl, ?_⟩
        refine ⟨_, rfl, _, rfl, ?_⟩
        rcases q1 with q1 | q1
        · refine .inl ⟨a1, x1s, rfl, s5.seq q1, fun t2 ht2 => ⟨(by show 2 ≤ sizeLine; decide), ?_⟩⟩
          have n2 : D ≠ t2 := ne_of_none eD ht2
          have s6 := same_new (o := .tup x1s) ht2
          exact fin _ (.ref t2) s6 (by rw [upd_ne n2]; exact eD) (.tup (SqT.of (by rw [off_ne (Ne.symm n2), upd_same])) (dpAll_same (fun c o e => by
            rw [off_ne (ne_of_none e hD)]
            exact s6 _ _ (s5 _ _ e)) r1))
        · exact .inr ⟨a1, x1s, rfl, seqT s5 q1, (by show 2 ≤ sizeLine; decide), fin H5 (.ref a1) (Same.refl H5) eD (dp_off (.tup q1 r1) s5 hD)⟩
      · rintro H5 ⟨s5, g5⟩
        rw [lx2, List.take_length] at g5
        obtain ⟨vs, e3, d3⟩ := id g5
        refine ⟨D, vs, rfl, SqL.of e3, fun q o hq ho => ⟨(by show 2 ≤ sizeLine; decide), fun t ht => ?_⟩⟩
        have s6 := same_new (o := .frz o (.tup vs)) hq
        have s7 := same_new (o := .tup [.int s, .ref q]) ht
        refine k2b all _ _ (((s04.trans s5).trans s6).trans s7) ?_
        exact .tup (SqT.of upd_same) (.cons (.int s) (.cons (dp_same s7 (.tup (.inl (.inr ⟨o, upd_same⟩)) (dpAll_same (off_le.trans s6) d3))) .nil))
end
end K46
/-! the held table, the settled value. -/
namespace K46
open PySem L2 FX SQ
def cntN (os : List (Option Nat)) : Nat := os.countP fun o => o.isNone
theorem bt_nat {s : Nat} (h2 : 2 ≤ s) (h8 : s ≤ 8) : isBt 2 8 (nD s) = true := by
  show (true && (decide ((2 : Int) ≤ (s : Int)) && decide ((s : Int) ≤ 8))) = true
  rw [decide_eq_true (show (2 : Int) ≤ (s : Int) by omega), decide_eq_true (show (s : Int) ≤ 8 by omega)]
  rfl
section
variable {P : Program} {w : World} {K : PySem.W.Frag} {mg : Str → Option Value} {base : Heap} {B cB iB cO iO cV iV cS iS : Addr}
theorem rowsN_ne (css : List (List Nat)) (hc : ∀ c ∈ css, c ≠ []) : rowsN css ≠ [] := by
  suffices h : ∀ acc : List (List Nat), acc ≠ [] → css.foldl stepN acc ≠ [] from h [[]] (by simp)
  induction css with
  | nil => exact fun acc h => h
  | cons c css ih =>
    intro acc h
    refine ih (fun c' h' => hc c' (List.mem_cons_of_mem _ h')) (stepN acc c) ?_
    have h1 := hc c (List.mem_cons_self ..)
    cases acc with
    | nil => exact absurd rfl h
    | cons r acc =>
      cases c with
      | nil => exact absurd rfl h1
      | cons x c => simp [stepN]
theorem heldAns_ne {s : Nat} (hs : 1 ≤ s) (as : List Nat) (os : List (Option Nat)) : heldAns s as os ≠ [] := by
  unfold heldAns
  intro h
  refine rowsN_ne (os.map (choiceN s)) (fun c hc => ?_) (List.map_eq_nil_iff.mp h)
  obtain ⟨o, ho, rfl⟩ := List.mem_map.mp hc
  cases o with
  | none =>
    intro e
    have := congrArg List.length e
    rw [show (choiceN s none).length = s from List.length_range] at this
    simp at this
    omega
  | some n => exact List.cons_ne_nil _ _
end
end K46
/-! The draws. -/
namespace K46
open PySem L2 FX
section
variable {P : Program} {w : World} {K : PySem.W.Frag} {mg : Str → Option Value} {base : Heap}
abbrev sBox : Stmt := top 34
abbrev sTake : Stmt := top 35
abbrev sPick : Stmt := top 36
/-- three ints at p -/
def Box (H : Hp) (p : Addr) : Prop := ∃ x y z : Int, H p = some (.lst [.int x, .int y, .int z])
/-- all but p as it was -/
def But (p : Addr) (H H' : Hp) : Prop := ∀ c o, H c = some o → c ≠ p → H' c = some o
theorem But.refl (p : Addr) (H : Hp) : But p H H := fun _ _ e _ => e
theorem But.trans {p : Addr} {H H1 H2 : Hp} (a : But p H H1) (b : But p H1 H2) : But p H H2 := fun c o e n => b c o (a c o e n) n
theorem But.put {p : Addr} {H H1 : Hp} {o : HO} (a : But p H H1) : But p H (upd H1 p o) := fun c u e n => by
  rw [upd_ne n]
  exact a c u e n
def spTake : Sp := fun vs H Q _ => ∃ (p : Addr) (m : Int), vs = [.ref p, .int m] ∧ 0 < m ∧ m < 1000 ∧ Box H p ∧ ∀ (H' : Hp) (d : Int), But p H H' → Box H' p → 0 ≤ d → d < m → Q (.int d) H'
theorem scT : FnScope ["box", "many", "digit", "raw"] ["box", "many"] (defScope sTake) := ⟨rfl, rfl, rfl, by decide +kernel, rfl, by decide +kernel, by decide +kernel⟩
theorem ok_take {f : Addr} {fd : FuncData} (F : Fun K "_law_take" "_law_take" sTake f fd) (Z : Bi mg) : FnOk P w K mg base CX0 1 f fd ["box", "many"] spTake := by
  refine F.ok scT (fun vs H Q E h => ?_) (fun cdv A outer s H vs Q E hr h => ?_)
  · obtain ⟨p, m, rfl, _⟩ := h
    rfl
  · obtain ⟨p, m, rfl, m0, m1, ⟨x, y, z, hb⟩, k⟩ := h
    refine ⟨_, pss_cons (ps_if (pt_cmpR op_gt (pe_ix ix_list (pv 0) pe_int (fun _ _ => rfl)) pe_int (nomark _))
        (pss_cons (ps_set (i := 2) scT.nd rfl (Or.inl rfl) (pe_op op_mod (pe_callTy call_int1 (by rfl) Z.int (by decide +kernel) (pa_cons (pe_ix ix_list (pv 0) pe_int (fun _ _ => rfl)) pa_nil)) (pv 1)))
        (pss_cons (ps_asg (pe_op op_fdiv (pe_ix ix_list (pv 0) pe_int (fun _ _ => rfl)) (pv 1)) (pg_sub (pv 0) pe_int set_list))
        (pss_one (ps_ret (pv 2))))) pss_nil)
      (pss_cons (ps_asg (pe_op op_add (pe_ix ix_list (pv 0) pe_int (fun _ _ => rfl)) pe_int) (pg_sub (pv 0) pe_int set_list))
      (pss_cons (ps_set (i := 3) scT.nd rfl (Or.inl rfl) (pe_op op_mod (pe_callTy call_int1 (by rfl) Z.int (by decide +kernel) (pa_cons
          (pe_op op_add (pe_op op_mul (pe_op op_add (pe_ix ix_list (pv 0) pe_int (fun _ _ => rfl)) (pe_op op_mul pe_int (pe_ix ix_list (pv 0) pe_int (fun _ _ => rfl)))) pe_int) pe_int) pa_nil)) pe_int))
      (pss_cons (ps_asg (pe_op op_add (pe_op op_mod (pe_callTy call_int1 (by rfl) Z.int (by decide +kernel) (pa_cons (pe_op op_add (pe_op op_mul (pv 3) pe_int) pe_int) pa_nil)) pe_int) pe_int) (pg_sub (pv 0) pe_int set_list))
      (pss_one (ps_ret (pe_op op_mod (pe_callTy call_int1 (by rfl) Z.int (by decide +kernel) (pa_cons
          (pe_op op_fdiv (pe_op op_add (pe_op op_mul (pv 3) pe_int) (pe_ix ix_list (pv 0) pe_int (fun _ _ => rfl))) pe_int) pa_nil)) (pv 1))))))), ?_⟩
    refine ⟨_, rfl, p, _, _, _, rfl, rfl, SqL.of hb, atI_nat (j := 0) rfl, _, _, rfl, rfl, _, rfl, ?_⟩
    by_cases hx : 0 < x
    · refine go_t (decide_eq_true hx) ?_
      refine ⟨_, rfl, p, _, _, _, rfl, rfl, SqL.of hb, atI_nat (j := 0) rfl, .inl ⟨_, rfl, ?_⟩⟩
      refine ⟨_, rfl, _, _, rfl, rfl, m0, ?_⟩
      refine ⟨_, rfl, p, _, _, _, rfl, rfl, SqL.of hb, atI_nat (j := 0) rfl, _, rfl, _, _, rfl, rfl, ⟨m0, by omega⟩, ?_⟩
      refine ⟨_, rfl, p, _, _, 0, rfl, rfl, hb, rfl, ?_⟩
      exact ⟨_, rfl, k _ _ (But.refl p H).put ⟨_, _, _, upd_same⟩ (Int.emod_nonneg _ (by omega)) (Int.emod_lt_of_pos _ m0)⟩
    · refine go_f (decide_eq_false hx) ?_
      refine ⟨_, rfl, p, _, _, _, rfl, rfl, SqL.of hb, atI_nat (j := 2) rfl, _, _, rfl, rfl, ?_⟩
      refine ⟨_, rfl, p, _, _, 2, rfl, rfl, hb, rfl, ?_⟩
      have hb2 : upd H p (.lst [.int x, .int y, .int (z + 1)]) p = some (.lst [.int x, .int y, .int (z + 1)]) := upd_same
      refine ⟨_, rfl, p, _, _, _, rfl, rfl, SqL.of hb2, atI_nat (j := 1) rfl, ?_⟩
      refine ⟨_, rfl, p, _, _, _, rfl, rfl, SqL.of hb2, atI_nat (j := 2) rfl, ?_⟩
      refine ⟨_, _, rfl, rfl, .inl ⟨by decide, by decide⟩, _, _, rfl, rfl, _, _, rfl, rfl, .inr ⟨by decide, by decide⟩, _, _, rfl, rfl, .inl ⟨_, rfl, ?_⟩⟩
      refine ⟨_, _, rfl, rfl, (by show (0 : Int) < 2147483563; decide), ?_⟩
      refine ⟨_, rfl, _, _, rfl, rfl, .inr ⟨by decide, by decide⟩, _, _, rfl, rfl, .inl ⟨_, rfl, ?_⟩⟩
      refine ⟨_, _, rfl, rfl, (by show (0 : Int) < 2147483629; decide), _, _, rfl, rfl, ?_⟩
      refine ⟨_, rfl, p, _, _, 1, rfl, rfl, hb2, rfl, ?_⟩
      refine ⟨_, rfl, _, _, rfl, rfl, .inr ⟨by decide, by decide⟩, _, rfl, p, _, _, _, rfl, rfl, SqL.of upd_same, atI_nat (j := 1) rfl, _, _, rfl, rfl, ?_⟩
      refine ⟨_, _, rfl, rfl, ⟨by decide, by decide⟩, .inl ⟨_, rfl, ?_⟩⟩
      exact ⟨_, rfl, _, _, rfl, rfl, m0, k _ _ ((But.refl p H).put).put ⟨_, _, _, upd_same⟩ (Int.emod_nonneg _ (by omega)) (Int.emod_lt_of_pos _ m0)⟩
/-- one of the things of a list -/
def spPick (K : PySem.W.Frag) : Sp := fun vs H Q _ => ∃ (p l : Addr) (xs : List V), vs = [.ref p, .ref l] ∧ l ≠ p ∧ Box H p ∧ H l = some (.lst xs) ∧ 0 < xs.length ∧ xs.length < 1000 ∧ ∀ (H' : Hp) (v : V), But p H H' → Box H' p → v ∈ xs → Q v H'
theorem scP : FnScope ["box", "some"] ["box", "some"] (defScope sPick) := ⟨rfl, rfl, rfl, by decide +kernel, rfl, by decide +kernel, by decide +kernel⟩
theorem ok_pick {f ft : Addr} {fd fdt : FuncData} (F : Fun K "_law_pick" "_law_pick" sPick f fd) (Z : Bi mg) (Ft : At K mg "_law_take" sTake ft fdt ["box", "many"]) : FnOk P w K mg base CX0 2 f fd ["box", "some"] (spPick K) := by
  have Gt : FnOk P w K mg base CX0 1 ft fdt ["box", "many"] spTake := ok_take Ft.F Z
  refine F.ok scP (fun vs H Q E h => ?_) (fun cdv A outer s H vs Q E hr h => ?_)
  · obtain ⟨p, l, xs, rfl, _⟩ := h
    rfl
  · obtain ⟨p, l, xs, rfl, npl, hb, hl, n0, n1, k⟩ := h
    refine ⟨_, pss_one (ps_ret (pe_ix ix_list (pv 1) (pe_call Gt hr rfl Ft.g Ft.F.kp Ft.b .nil pass0 (by exact (pa_cons (pv 0) (pa_cons (pe_callB call_len_seq (by rfl) Z.len PySem.boot_len (pa_cons (pv 1) pa_nil)) pa_nil)))) (fun _ _ => rfl))), ?_⟩
    refine ⟨_, rfl, _, rfl, _, rfl, l, xs, rfl, .inl (SqL.of hl), p, _, rfl, by omega, by omega, hb, fun H' d bt hb' d0 d1 => ?_⟩
    obtain ⟨j, rfl⟩ : ∃ j : Nat, d = (j : Int) := ⟨d.toNat, by omega⟩
    have hj : j < xs.length := by omega
    exact ⟨l, xs, _, _, rfl, rfl, SqL.of (bt l _ hl npl), atI_nat (List.getElem?_eq_getElem hj), k H' _ bt hb' (List.getElem_mem hj)⟩
def spBox (K : PySem.W.Frag) : Sp := fun vs H Q _ => ∃ (a : Addr) (k : Int) (ns : List Int), vs = [.ref a, .int k] ∧ 0 ≤ k ∧ SqL K H a (ns.map V.int) ∧ ∀ (H' : Hp) (p : Addr), Same H H' → H p = none → Box H' p → Q (.ref p) H'
theorem get_int {ns : List Int} {j : Nat} (h : j < ns.length) : (ns.map V.int)[j]? = some (V.int ns[j]) := by
  rw [List.getElem?_map, List.getElem?_eq_getElem h]
  rfl
theorem pick2 (c : Int) (y : Bool) : atI [V.int 0, V.int c] (if y = true then 1 else 0) = some (V.int (if y = true then c else 0)) := by
  cases y <;> rfl
theorem upd_gone {H : Hp} {l p : Addr} {o : HO} (h : upd H l o p = none) : H p = none := by
  by_cases e : p = l
  · rw [e, upd_same] at h
    cases h
  · rw [upd_ne e] at h
    exact h
theorem scB : FnScope ["script", "k", "cell"] ["script", "k"] (defScope sBox) := ⟨rfl, rfl, rfl, by decide +kernel, rfl, by decide +kernel, by decide +kernel⟩
theorem ok_box {f : Addr} {fd : FuncData} (F : Fun K "_law_box" "_law_box" sBox f fd) (Z : Bi mg) : FnOk P w K mg base CX0 1 f fd ["script", "k"] (spBox K) := by
  refine F.ok scB (fun vs H Q E h => ?_) (fun cdv A outer s H vs Q E hr h => ?_)
  · obtain ⟨a, k, ns, rfl, _⟩ := h
    rfl
  · obtain ⟨a, k, ns, rfl, k0, hS, kk⟩ := h
    refine ⟨_, pss_cons (ps_set (i := 2) scB.nd rfl (Or.inl rfl) (pe_op op_add (pe_op op_mul pe_int (pv 1)) pe_int))
      (pss_cons (ps_if (pt_cmpR op_lt (pv 1) (pe_callB call_len_seq (by rfl) Z.len PySem.boot_len (pa_cons (pv 0) pa_nil)) (nomark _))
        (pss_one (ps_set (i := 2) scB.nd rfl (Or.inl rfl) (pe_callB call_abs (by rfl) Z.abs (by decide +kernel) (pa_cons (pe_ix ix_list (pv 0) (pv 1) (fun _ _ => rfl)) pa_nil))))
        (pss_one (ps_if (pt_cmpR op_gt (pe_callB call_len_seq (by rfl) Z.len PySem.boot_len (pa_cons (pv 0) pa_nil)) pe_int (nomark _))
          (pss_one (ps_set (i := 2) scB.nd rfl (Or.inl rfl) (pe_op op_add (pv 2) (pe_op op_mul (pe_op op_mod (pe_callTy call_int1 (by rfl) Z.int (by decide +kernel) (pa_cons
            (pe_callB call_abs (by rfl) Z.abs (by decide +kernel) (pa_cons (pe_ix ix_list (pv 0) (pe_op op_mod (pe_callTy call_int1 (by rfl) Z.int (by decide +kernel) (pa_cons (pv 1) pa_nil))
              (pe_callB call_len_seq (by rfl) Z.len PySem.boot_len (pa_cons (pv 0) pa_nil))) (fun _ _ => rfl)) pa_nil)) pa_nil)) pe_int) pe_int)))) pss_nil)))
      (pss_one (ps_ret (pe_lst (by exact (pa_cons (pe_ix ix_list (pe_lst (by exact (pa_cons pe_int (pa_cons (pv 2) pa_nil)))) (pe_callTy call_int1 (by rfl) Z.int (by decide +kernel) (pa_cons (pe_cmpR op_ge (pv 2) (pe_op op_pow pe_int pe_int) (nomark _)) pa_nil)) (fun _ _ => rfl))
        (pa_cons (pe_op op_add (pe_op op_mod (pe_callTy call_int1 (by rfl) Z.int (by decide +kernel) (pa_cons (pe_op op_add (pe_op op_mul (pe_op op_mod (pe_callTy call_int1 (by rfl) Z.int (by decide +kernel) (pa_cons (pv 2) pa_nil)) pe_int) pe_int)
          (pe_op op_mul pe_int (pv 1))) pa_nil)) pe_int) pe_int) (pa_cons pe_int pa_nil)))))))), ?_⟩
    refine ⟨_, rfl, _, _, rfl, rfl, .inl ⟨by decide, by decide⟩, _, _, rfl, rfl, ?_⟩
    refine ⟨_, rfl, _, rfl, a, _, rfl, .inl hS, _, _, rfl, rfl, _, rfl, ?_⟩
    rw [List.length_map]
    by_cases h1 : k < (ns.length : Int)
    · refine go_t (decide_eq_true h1) ?_
      obtain ⟨j, rfl⟩ : ∃ j : Nat, k = (j : Int) := ⟨k.toNat, by omega⟩
      refine ⟨_, rfl, _, rfl, a, _, _, _, rfl, rfl, hS, atI_nat (get_int (by omega)), _, rfl, ?_⟩
      refine ⟨_, rfl, (by show 2 ≤ sizeLine; decide), fun l hl => ?_⟩
      refine ⟨_, rfl, _, _, rfl, rfl, ⟨by decide, by decide, by decide⟩, _, _, rfl, rfl, .inr ⟨_, rfl, ?_⟩⟩
      refine ⟨l, _, _, _, rfl, rfl, SqL.of upd_same, pick2 _ _, ?_⟩
      refine ⟨_, rfl, .inl ⟨_, rfl, _, _, rfl, rfl, (by show (0 : Int) < 2147483629; decide), _, _, rfl, rfl, .inr ⟨by decide, by decide⟩, ?_⟩⟩
      refine ⟨_, rfl, _, _, rfl, rfl, .inl ⟨by decide, by decide⟩, _, _, rfl, rfl, .inl ⟨_, rfl, ?_⟩⟩
      refine ⟨_, _, rfl, rfl, (by show (0 : Int) < 2147483629; decide), _, _, rfl, rfl, (by show 3 ≤ sizeLine; decide), fun p hp => ?_⟩
      exact kk _ p ((same_new hl).trans (same_new hp)) (upd_gone hp) ⟨_, _, _, upd_same⟩
    · refine go_f (decide_eq_false h1) ?_
      refine ⟨_, rfl, a, _, rfl, .inl hS, _, _, rfl, rfl, _, rfl, ?_⟩
      rw [List.length_map]
      by_cases h2 : (0 : Int) < (ns.length : Int)
      · refine go_t (decide_eq_true h2) ?_
        refine ⟨_, rfl, _, rfl, _, rfl, .inl ⟨_, rfl, _, rfl, a, _, rfl, .inl hS, ?_⟩⟩
        rw [List.length_map]
        have r0 := Int.emod_nonneg k (show (ns.length : Int) ≠ 0 by omega)
        have r1 := Int.emod_lt_of_pos k h2
        obtain ⟨j, hj⟩ : ∃ j : Nat, k % (ns.length : Int) = (j : Int) := ⟨(k % (ns.length : Int)).toNat, by omega⟩
        refine ⟨_, _, rfl, rfl, h2, a, _, _, _, rfl, rfl, hS, (by show atI _ (k % (ns.length : Int)) = _; rw [hj]; exact atI_nat (get_int (by omega))), _, rfl, .inl ⟨_, rfl, ?_⟩⟩
        refine ⟨_, _, rfl, rfl, (by show (0 : Int) < 2147483629; decide), _, _, rfl, rfl, .inr ⟨by decide, by decide⟩, _, _, rfl, rfl, ?_⟩
        refine ⟨_, rfl, (by show 2 ≤ sizeLine; decide), fun l hl => ?_⟩
        refine ⟨_, rfl, _, _, rfl, rfl, ⟨by decide, by decide, by decide⟩, _, _, rfl, rfl, .inr ⟨_, rfl, ?_⟩⟩
        refine ⟨l, _, _, _, rfl, rfl, SqL.of upd_same, pick2 _ _, ?_⟩
        refine ⟨_, rfl, .inl ⟨_, rfl, _, _, rfl, rfl, (by show (0 : Int) < 2147483629; decide), _, _, rfl, rfl, .inr ⟨by decide, by decide⟩, ?_⟩⟩
        refine ⟨_, rfl, _, _, rfl, rfl, .inl ⟨by decide, by decide⟩, _, _, rfl, rfl, .inl ⟨_, rfl, ?_⟩⟩
        refine ⟨_, _, rfl, rfl, (by show (0 : Int) < 2147483629; decide), _, _, rfl, rfl, (by show 3 ≤ sizeLine; decide), fun p hp => ?_⟩
        exact kk _ p ((same_new hl).trans (same_new hp)) (upd_gone hp) ⟨_, _, _, upd_same⟩
      · refine go_f (decide_eq_false h2) ?_
        refine ⟨_, rfl, (by show 2 ≤ sizeLine; decide), fun l hl => ?_⟩
        refine ⟨_, rfl, _, _, rfl, rfl, ⟨by decide, by decide, by decide⟩, _, _, rfl, rfl, .inr ⟨_, rfl, ?_⟩⟩
        refine ⟨l, _, _, _, rfl, rfl, SqL.of upd_same, pick2 _ _, ?_⟩
        refine ⟨_, rfl, .inl ⟨_, rfl, _, _, rfl, rfl, (by show (0 : Int) < 2147483629; decide), _, _, rfl, rfl, .inr ⟨by decide, by decide⟩, ?_⟩⟩
        refine ⟨_, rfl, _, _, rfl, rfl, .inl ⟨by decide, by decide⟩, _, _, rfl, rfl, .inl ⟨_, rfl, ?_⟩⟩
        refine ⟨_, _, rfl, rfl, (by show (0 : Int) < 2147483629; decide), _, _, rfl, rfl, (by show 3 ≤ sizeLine; decide), fun p hp => ?_⟩
        exact kk _ p ((same_new hl).trans (same_new hp)) (upd_gone hp) ⟨_, _, _, upd_same⟩
end
end K46
/-! the law's own grid. -/
namespace K46
open PySem L2 FX SQ
def rowT (r : List Nat) : D := .tuple (r.map nD)
def gridN (s m : Nat) : List (List Nat) := rowsN (List.replicate m (List.range s))
theorem gridN_succ (s m : Nat) : gridN s (m + 1) = stepN (gridN s m) (List.range s) := by
  unfold gridN rowsN
  rw [List.replicate_succ', List.foldl_append]
  rfl
theorem stepN_len (R : List (List Nat)) (c : List Nat) : (stepN R c).length = R.length * c.length := by
  unfold stepN
  induction R with
  | nil => simp
  | cons r R ih => rw [List.flatMap_cons, List.length_append, List.length_map, ih, List.length_cons, Nat.add_mul, Nat.one_mul, Nat.add_comm]
theorem gridN_len (s : Nat) : ∀ m : Nat, (gridN s m).length = s ^ m
  | 0 => rfl
  | m + 1 => by rw [gridN_succ, stepN_len, gridN_len s m, List.length_range, Nat.pow_succ]
theorem gridN_row {s m : Nat} : ∀ r ∈ gridN s m, r.length = m ∧ ∀ x ∈ r, x < s := by
  intro r hr
  refine ⟨?_, ?_⟩
  · have := rowsN_len (List.replicate m (List.range s)) r hr
    rw [this, List.length_replicate]
  · exact rowsN_lt (List.replicate m (List.range s)) (fun c hc x hx => by
      rw [List.eq_of_mem_replicate hc] at hx
      exact List.mem_range.mp hx) r hr
theorem rows_off {K : PySem.W.Frag} {H : Hp} {L : Addr} {acc : List V} (e : H L = some (.lst acc)) : ∀ {vs : List V} {rs : List (List Nat)}, DpAll K H vs (rs.map rowT) → DpAll K (off H L) vs (rs.map rowT) := by
  intro vs rs
  have flat : ∀ {vs : List V} {ns : List Nat}, DpAll K H vs (ns.map nD) → DpAll K (off H L) vs (ns.map nD) := by
    intro vs ns
    induction ns generalizing vs with
    | nil =>
      intro h
      cases h
      exact .nil
    | cons n ns ih =>
      intro h
      cases h with
      | cons h r =>
        cases h
        exact .cons (.int _) (ih r)
  induction rs generalizing vs with
  | nil =>
    intro h
    cases h
    exact .nil
  | cons r rs ih =>
      intro h
      cases h with
      | cons h t =>
        obtain ⟨a, xs, rfl, q, rr⟩ := dp_tup h
        refine .cons (.tup ?_ (flat rr)) (ih t)
        rcases q with (q | ⟨o, q⟩) | q
        · have n : a ≠ L := fun z => by rw [z, e] at q; cases q
          exact .inl (.inl (by rw [off_ne n]; exact q))
        · have n : a ≠ L := fun z => by rw [z, e] at q; cases q
          exact .inl (.inr ⟨o, by rw [off_ne n]; exact q⟩)
        · exact .inr q
theorem dpAll_eqn {K : PySem.W.Frag} {H : Hp} : ∀ {vs : List V} {ns : List Nat}, DpAll K H vs (ns.map nD) → vs = ns.map fun n : Nat => V.int n := by
  intro vs ns
  induction ns generalizing vs with
  | nil =>
    intro h
    cases h
    rfl
  | cons n ns ih =>
    intro h
    cases h with
    | cons h r =>
      cases h
      rw [ih r]
      rfl
/-- a new list -/
def FreshL (K : PySem.W.Frag) (H H' : Hp) (v : V) (ds : List D) : Prop := ∃ a xs, v = .ref a ∧ H a = none ∧ H' a = some (.lst xs) ∧ DpAll K H' xs ds
theorem none_same {H H' : Hp} {a : Addr} (s : Same H H') (h : H' a = none) : H a = none := by
  cases e : H a with
  | none => rfl
  | some o =>
    rw [s a o e] at h
    cases h
theorem FreshL.dp {K : PySem.W.Frag} {H H' : Hp} {v : V} {ds : List D} (h : FreshL K H H' v ds) : Dp K H' v (.list ds) := by
  obtain ⟨a, xs, rfl, _, e, r⟩ := h
  exact .lst (SqL.of e) r
section
variable {P : Program} {w : World} {K : PySem.W.Frag} {mg : Str → Option Value} {base : Heap}
end
end K46
/-! the greatest of a tuple; a drawn operation. -/
namespace SQ
open PySem PySem.Spec PyProof.Rows L2
theorem alike_ints : ∀ ns : List Nat, PySem.W.AlikeAll (ns.map fun n : Nat => PyData.int n) := fun ns =>
  ⟨fun x hx y hy => by
    obtain ⟨a, _, rfl⟩ := List.mem_map.mp hx
    obtain ⟨b, _, rfl⟩ := List.mem_map.mp hy
    rfl, fun x hx => by
    obtain ⟨a, _, rfl⟩ := List.mem_map.mp hx
    intro z
    cases z⟩
theorem depth_ints : ∀ ns : List Nat, PyData.depthAll (ns.map fun n : Nat => PyData.int n) ≤ 1
  | [] => by decide
  | n :: r => by
    have := depth_ints r
    simp [PyData.depthAll, PyData.depth]
    omega
def rMaxT (K : PySem.W.Frag) : List V → Hp → VK → Prop := fun vs H Q => ∃ (a : Addr) (ns : List Nat), vs = [.ref a] ∧ SqT K H a (ns.map fun n : Nat => V.int n) ∧ ns ≠ [] ∧ ∀ m, m ∈ ns → Q (.int (m : Nat)) H
theorem cr_maxT {X : Cx} (hc : X.calm = true) (hu : X.A.units + 65 < cLine) : CallR X (.builtin "max") (rMaxT X.K) := by
  intro pins s σ H vs us Q I r h
  obtain ⟨a, ns, rfl, hs, ne, q⟩ := h
  obtain ⟨its, rv, hl, _⟩ := I.tuple hs
  rw [Vals.ref1 r]
  cases ns with
  | nil => exact absurd rfl ne
  | cons n0 nr =>
    have dd : ∀ ns : List Nat, DpAll X.K H (ns.map fun n : Nat => V.int n) (ns.map fun n : Nat => PyData.int n) := fun ns => by
      induction ns with
      | nil => exact .nil
      | cons n ns ih => exact .cons (.int _) ih
    obtain ⟨as, hr⟩ := Dp.readsAll I _ _ its (dd (n0 :: nr)) rv
    have hd := depth_ints (n0 :: nr)
    refine PySem.W.max_tuple_data (x := .int n0) (xs := nr.map fun n : Nat => PyData.int n) (as := as) (I.ok.hd hc) hl hr (alike_ints (n0 :: nr)) (by
      have : PyData.depthAll (PyData.int n0 :: nr.map fun n : Nat => PyData.int n) ≤ 1 := hd
      omega) fun i v h' tk bs hv _ hk => ?_
    have hi : its[i]? = some v := by simpa using hv
    have hlen := rv.length
    have hil : i < (n0 :: nr).length := by
      have := (List.getElem?_eq_some_iff.mp hi).1
      rw [List.length_map] at hlen
      omega
    obtain ⟨u, hu1, hu2⟩ := rv.get (i := i) (x := .int (((n0 :: nr)[i] : Nat) : Int)) (by rw [List.getElem?_map, List.getElem?_eq_getElem hil]; rfl)
    rw [hi] at hu1
    cases hu1
    exact ⟨_, H, I.kept hk, hu2, q _ (List.getElem_mem hil)⟩
end SQ
/-! a drawn operation. -/
namespace K46
open PySem L2 FX SQ
/-- all but p and L as it was -/
def But2 (p L : Addr) (H H' : Hp) : Prop := ∀ c o, H c = some o → c ≠ p → c ≠ L → H' c = some o
theorem But2.off {p L : Addr} {H H' : Hp} (b : But2 p L H H') : Same (off (off H p) L) (off (off H' p) L) := fun c o e => by
  by_cases h1 : c = L
  · rw [h1, off_same] at e
    cases e
  rw [off_ne h1] at e ⊢
  by_cases h2 : c = p
  · rw [h2, off_same] at e
    cases e
  rw [off_ne h2] at e ⊢
  exact b c o e h2 h1
theorem But.off {p : Addr} {H H' : Hp} (b : But p H H') : Same (off H p) (off H' p) := off_mono fun c o n e => b c o e n
theorem But.of {p : Addr} {H H' : Hp} (s : Same H H') : But p H H' := fun c o e _ => s c o e
theorem Box.same {p : Addr} {H H' : Hp} (s : Same H H') (b : Box H p) : Box H' p := by
  obtain ⟨x, y, z, e⟩ := b
  exact ⟨x, y, z, s _ _ e⟩
theorem ifC {c : Prop} [Decidable c] {a b : V} {σ : L2.St} {H : Hp} {Q : VK} (h : ∀ x, (x = a ∨ x = b) → Q x H) : if c then tC a σ H Q else tC b σ H Q := by
  split
  · exact h a (.inl rfl)
  · exact h b (.inr rfl)
theorem ifE {c : Prop} [Decidable c] {ta tb : TE} {σ : L2.St} {H : Hp} {Q : VK} (R : V → Hp → Prop) (h1 : c → ∀ Q' : VK, (∀ x H', R x H' → Q' x H') → ta σ H Q') (h2 : ¬ c → ∀ Q' : VK, (∀ x H', R x H' → Q' x H') → tb σ H Q') (h : ∀ x H', R x H' → Q x H') : if c then ta σ H Q else tb σ H Q := by
  split
  · rename_i e
    exact h1 e Q h
  · rename_i e
    exact h2 e Q h
theorem But.new {p a : Addr} {H H' : Hp} {o : HO} (b : But p H H') (n : H a = none) : But p H (upd H' a o) := fun c u e h => by
  rw [upd_ne (ne_of_none e n)]
  exact b c u e h
theorem Box.ne {p a : Addr} {H : Hp} {o : HO} (n : a ≠ p) (b : Box H p) : Box (upd H a o) p := by
  obtain ⟨x, y, z, e⟩ := b
  exact ⟨x, y, z, by rw [upd_ne (Ne.symm n)]; exact e⟩
theorem Box.fresh {p a : Addr} {H : Hp} (b : Box H p) (n : H a = none) : a ≠ p := by
  obtain ⟨x, y, z, e⟩ := b
  exact fun h => by rw [h, e] at n; cases n
theorem none_but {p a : Addr} {H H' : Hp} (b : But p H H') (n : a ≠ p) (h : H' a = none) : H a = none := by
  cases e : H a with
  | none => rfl
  | some o =>
    rw [b a o e n] at h
    cases h
theorem nat_of {d m : Int} (h0 : 0 ≤ d) (h1 : d < m) : ∃ n : Nat, d = (n : Int) ∧ (n : Int) < m := ⟨d.toNat, by omega, by omega⟩
section
variable {P : Program} {w : World} {K : PySem.W.Frag} {mg : Str → Option Value} {base : Heap}
end
end K46
/-! the law's own held table. -/
namespace K46
open PySem L2 FX SQ
theorem depth_n : ∀ ns : List Nat, PyData.depthAll (ns.map nD) ≤ 1
  | [] => by decide
  | n :: r => by
    have := depth_n r
    show max (PyData.depth (nD n)) (PyData.depthAll (r.map nD)) ≤ 1
    exact Nat.max_le.mpr ⟨by show PyData.depth (.int n) ≤ 1; simp [PyData.depth], this⟩
theorem shaped_n (ns : List Nat) : SeqAt.shaped (.list (ns.map nD)) = true := by
  unfold SeqAt.shaped
  rw [Bool.and_eq_true]
  refine ⟨lay_n ns, decide_eq_true ?_⟩
  have := depth_n ns
  show PyData.depth (.list (ns.map nD)) ≤ 64
  simp only [PyData.depth]
  omega
theorem eqv_nil (ns : List Nat) : PyData.eqv (.list (ns.map nD)) (.list []) = ns.isEmpty := by
  cases ns <;> rfl
theorem range_fil (p : Nat → Bool) (j : Nat) : (List.range (j + 1)).filter p = (List.range j).filter p ++ (if p j = true then [j] else []) := by
  rw [List.range_succ, List.filter_append, List.filter_cons]
  rfl
section
variable {P : Program} {w : World} {K : PySem.W.Frag} {mg : Str → Option Value} {base : Heap}
end
end K46
/-! A comprehension whose tests and thing may use what its def knows when the block is entered. -/
namespace SQ
open PySem PySem.Spec PyProof.Rows L2
/-- the reading: the turns are told for each state in which the block may be entered -/
def tAt (X : Cx) (wi : TI) (g : TG) (tt : Shared → Hp → TT) (te : Shared → Hp → TE) (own : List Nat) : TE := fun σ H Q => wi σ H fun J Hi => ∀ D, Hi D = none → ∀ (sb : Shared) (pb : List (Addr × Obj)), Inv X pb σ (upd Hi D (.lst [])) sb →
  ∃ W : Nat → Nat → Hp → Prop, (∃ m, W 0 m (upd Hi D (.lst []))) ∧ ∀ i m Hc, W i m Hc → (J.stop i Hc ∧ Q (.ref D) Hc) ∨ (J.go i Hc ∧ ∃ Nx : Hp → Prop, (∀ H', Nx H' → ∃ m', m' < m ∧ W (i + 1) m' H') ∧
    ∀ x H', J.yld i Hc x H' → g x (wipe σ own) H' fun σ2 H2 => wipe σ2 own = wipe σ own ∧ tt sb (upd Hi D (.lst [])) σ2 H2 fun b H3 =>
      if b = true then te sb (upd Hi D (.lst [])) σ2 H3 fun y H4 => ∃ acc, H4 D = some (.lst acc) ∧ acc.length < sizeLine ∧ Nx (upd H4 D (.lst (acc ++ [y]))) else Nx H3)
section
variable {X : Cx}
/-- the block's own cells are free from the def's: all is there for the closure -/
theorem free_there {scope : Scope} {own : List (Str × Nat)} {pins : List (Addr × Obj)} {σ : L2.St} {H : Hp} {s : Shared} (I : Inv X pins σ H s) (ok : BlkOk X.N X.env.scope scope own) : ∀ y ∈ scope.names, y.2 = .free → ∃ c, X.env.cells.lookup y.1 = some c := by
  intro y hy e
  exact I.ok.has _ ((ok.free y hy e).imp id id)
theorem fp_still {Y : Cx} {fp : List Addr} {σ : L2.St} {H : Hp} {s : Shared} (I : Inv Y [] σ H s) (hx : Y.ex = fp) (hp : Y.pn = []) (hn : ∀ b ∈ fp, H b = none) : ∀ b ∈ fp, FpOk Y [] H b := by
  intro b hb
  have hb' : b ∈ Y.ex := by rw [hx]; exact hb
  refine ⟨hn b hb, (I.ok.exf b hb').1, I.ok.exfs b hb', .inl hb', fun x c e => (I.ok.exf b hb').2 x c e, fun p q => ?_⟩
  rw [hp] at q
  cases q
theorem pe_lcAt {elt tg iter : Expr} {ifs : List Expr} {scope : Scope} {own : List (Str × Nat)} {pos : Pos} {wi : TI} {g : TG} {tt : Shared → Hp → TT} {te : Shared → Hp → TE} (hc : X.calm = true) (hN : X.N.Nodup) (hi : PI X tg iter wi) (ok : BlkOk X.N X.env.scope scope own)
    (hb : ∀ (s : Shared) (H : Hp) (pins : List (Addr × Obj)) (σ : L2.St) (C : Addr) (cl : List (Str × Addr)) (fp : List Addr), Inv X pins σ H s → (∀ b ∈ fp, FpOk X pins H b) →
      PG (X.blk s H scope (compEnvC scope cl C X.env) fp) tg g ∧ PTs (X.blk s H scope (compEnvC scope cl C X.env) fp) ifs (tt s H) ∧ PE (X.blk s H scope (compEnvC scope cl C X.env) fp) elt (te s H))
    (hs : ∀ x, foldedSetIterable iter X.env x = pure x := by intro _; rfl) :
    PE X (.ListComp elt [⟨tg, iter, ifs, 0⟩] scope pos) (tAt X wi g tt te (own.map (·.2))) := by
  refine ⟨fun pins s σ H Q I h => ?_⟩
  rw [eval_ListComp]
  have fr := free_there I ok
  refine wpAny_comprehension_free (use := none) rfl hs (closure_ok fr) ok.kind (fun y hy e => by rw [ok.uniq y hy, e]) (thn (hi.run pins s σ H _ I h) fun _ _ hx => thn hx fun _ sI hI => ?_)
  obtain ⟨it, fp, tn, J, Hi, rfl, II, T, stI, fI, q⟩ := hI
  refine wpAny_newObj_type (newEnv_comp ?_) (by show 0 ≤ sizeLine; decide)
  have nD : Hi sI.heap.objs.size = none := II.hok.fresh (Nat.le_refl _)
  have IL : Inv X pins σ (upd Hi sI.heap.objs.size (.lst [])) { sI with heap := sI.heap.push { cls := .type "list", data := .seq ([] : List Value).toArray } } :=
    II.laid (t' := sI.toks) (fun _ _ e => Heap.get?_push_of_some _ e) (Nat.le_refl _) ⟨Nat.zero_le _, [], 0, .nil, Heap.get?_push_size _ rfl⟩
  obtain ⟨W, ⟨m0, w0⟩, turn⟩ := q _ nD _ _ IL
  have fL : ∀ b ∈ fp, FpOk X pins (upd Hi sI.heap.objs.size (.lst [])) b ∧ b < (sI.heap.push { cls := .type "list", data := .seq ([] : List Value).toArray }).objs.size := by
    intro b hbm
    obtain ⟨o, e, _⟩ := T.obj _ _ stI b hbm
    have lt := Heap.lt_size e
    exact ⟨⟨by rw [upd_ne (Nat.ne_of_lt lt)]; exact (fI b hbm).1, (fI b hbm).2⟩, by rw [Heap.size_push]; exact Nat.lt_succ_of_lt lt⟩
  have stL : tn 0 (sI.heap.push { cls := .type "list", data := .seq ([] : List Value).toArray }) := T.keep _ _ _ stI fun _ _ _ e => Heap.get?_push_of_some _ e
  generalize sI.heap.objs.size = D at *
  generalize hsb : ({ sI with heap := sI.heap.push { cls := .type "list", data := .seq ([] : List Value).toArray } } : Shared) = sb at *
  have eb : sb.heap = sI.heap.push { cls := .type "list", data := .seq ([] : List Value).toArray } := by rw [← hsb]
  rw [← eb] at fL stL
  generalize upd Hi D (.lst []) = Hb at *
  have IB := block_start IL ok hN fL
  obtain ⟨pg, pt, pe⟩ := hb sb Hb pins σ sb.heap.objs.size (cellsFrom (sb.heap.objs.size + 1) scope.names (cloFrom X.env.cells scope.names [])) fp IL fun b hbm => (fL b hbm).1
  have stB : tn 0 (pushCells (sb.heap.push { cls := .type "dict", data := .dict #[] }) scope.names) := T.keep _ _ _ stL fun _ _ _ e => pushCells_keeps _ _ _ _ (Heap.get?_push_of_some _ e)
  have nfp : ∀ b ∈ fp, Hb b = none := fun b hbm => (fL b hbm).1.1
  generalize hce : compEnvC scope (cellsFrom (sb.heap.objs.size + 1) scope.names (cloFrom X.env.cells scope.names [])) sb.heap.objs.size X.env = ce at IB pg pt pe
  have ceq : ce.locals = sb.heap.objs.size := by rw [← hce]; rfl
  show codeAny _ _ (.compStart (.ListComp elt [⟨tg, iter, ifs, 0⟩] scope pos) 0 (.ref it) (.ref D) (compEnvC scope (cellsFrom (sb.heap.objs.size + 1) scope.names (cloFrom X.env.cells scope.names [])) sb.heap.objs.size X.env)) (compPost (model X.prog X.w) X.A X.xe none (EP X pins σ Q) (.ref D) sb.heap.objs.size) { sb with heap := pushCells (sb.heap.push { cls := .type "dict", data := .dict #[] }) scope.names }
  rw [hce]
  suffices loop : codeAny (model X.prog X.w) X.A (.compLoop (.ListComp elt [⟨tg, iter, ifs, 0⟩] scope pos) 0 (.ref it) (.ref D) ce) (compPost (model X.prog X.w) X.A X.xe none (EP X pins σ Q) (.ref D) sb.heap.objs.size) { sb with heap := pushCells (sb.heap.push { cls := .type "dict", data := .dict #[] }) scope.names } from
    codeAny_compStart_list loop (T.self X.A 0 _ _ _ stB loop)
  refine compLoop_any (fun n s' => ∃ i H', tn i s'.heap ∧ W i n H' ∧ Inv (X.blk sb Hb scope ce fp) [] (wipe σ (own.map (·.2))) H' s' ∧ ∀ b ∈ fp, H' b = none) ?_ m0 ⟨0, Hb, stB, w0, IB, nfp⟩
  rintro n sT ⟨i, HT, stT, wT, IT, nT⟩
  have okT := fp_still IT rfl rfl nT
  rcases turn i n HT wT with ⟨stop, fin⟩ | ⟨go, Nx, less, step⟩
  · -- no turn is left: back in the def
    refine thnF (T.done (X.blk sb Hb scope ce fp) rfl rfl rfl hc i [] sT _ HT (fun _ _ => False) IT okT stT stop) ?_
    rintro _ sE ⟨rfl, IE⟩
    have back : Inv X pins σ HT sE := IL.call' (ch := fp) IE.os IE.base IE.hok IE.bare fun b hbm => by
      obtain ⟨_, l1, _, l3, l4, l5⟩ := (fL b hbm).1
      exact ⟨l3, l1, l4, l5⟩
    have nC : HT sb.heap.objs.size = none := by
      have z : HT ce.locals = none := IE.free
      rw [ceq] at z
      exact z
    obtain ⟨m, nsE, _⟩ := IE.loc
    have nsE : sE.heap.Ns ce.locals m := nsE
    rw [ceq] at nsE
    refine ⟨m, nsE, fun hZ same => ?_⟩
    obtain ⟨c0, c1, _, c3, c4, c5⟩ := IL.fpOk (H' := HT) (Nat.le_refl _) nC
    exact ⟨.ref D, HT, back.turned (t' := sE.toks) (fun b o nb e => (same.2 b nb).trans e) c0 c1 c3 c4 c5, rfl, fin⟩
  · -- one turn
    refine thnF (T.item (X.blk sb Hb scope ce fp) rfl rfl rfl hc i [] sT _ HT (fun _ _ => False) IT okT stT go) ?_
    rintro _ s1 ⟨u, rfl, h1⟩
    refine thnF h1 ?_
    rintro _ s2 ⟨x, H2, I2, r2, y2, st2, n2⟩
    have P2 := I2.pinned (fp_still I2 rfl rfl n2) (T.obj _ _ st2)
    refine thnF (pg.run _ s2 _ H2 x u _ P2 r2 (step x H2 y2)) ?_
    rintro _ s3 ⟨σ3, H3, I3, same, q3⟩
    have ends : ∀ {s' : Shared} {H' : Hp}, Nx H' → Inv (X.blk sb Hb scope ce fp) ([] ++ pinsAt fp s2.heap) σ3 H' s' → ∃ m, m < n ∧ ∃ i H', tn i s'.heap ∧ W i m H' ∧ Inv (X.blk sb Hb scope ce fp) [] (wipe σ (own.map (·.2))) H' s' ∧ ∀ b ∈ fp, H' b = none := by
      intro s' H' nx I'
      obtain ⟨m, lt, w'⟩ := less H' nx
      have held : ∀ b ∈ fp, ∀ o, s2.heap.get? b = some o → s'.heap.get? b = some o ∧ H' b = none := by
        intro b hbm o e
        obtain ⟨z1, z2, _⟩ := I'.pin (b, o) (List.mem_append_right _ (List.mem_append_right _ (mem_pinsAt hbm e)))
        exact ⟨z1, z2⟩
      refine ⟨m, lt, i + 1, H', T.keep _ _ _ st2 fun b hbm o e => (held b hbm o e).1, w', (I'.unpinned (pins := [])).weak ?_ fun j v e => ?_, fun b hbm => ?_⟩
      · rw [← same, wipe_length]
      · rw [← same] at e
        exact (wipe_some e).1
      · obtain ⟨o, e, _⟩ := T.obj _ _ st2 b hbm
        exact (held b hbm o e).2
    refine thnF (pt.run _ s3 σ3 H3 _ I3 q3) ?_
    rintro b s4 ⟨H4, I4, q4⟩
    cases b
    · exact ends (by simpa using q4) I4
    · refine thnF (pe.run _ s4 σ3 H4 _ I4 (by simpa using q4)) ?_
      rintro z s5 ⟨yv, H5, I5, r5, acc, eD, few, nx⟩
      exact app_ok (X := X.blk sb Hb scope ce fp) I5 eD few r5 fun s6 I6 => ends nx I6
end
end SQ
/-! A lambda as a value that is kept; its call by a def to which it is handed, from a block. -/
namespace SQ
open PySem PySem.Spec PyProof.Rows L2 LamX
/-- at f stands that lambda, its code object at c -/
def LamO (f c : Addr) (q : Str) (params : Arguments) (body : Expr) (scope : Scope) (clo : List (Str × Addr)) : HO := .ext fun h => ∃ pm ctv : Value, h.get? f = some (PySem.W.kla_obj "<lambda>" q params body scope clo pm c ctv)
theorem lamO_ok {P : Program} {w : World} {H : Hp} {h : Heap} {f c : Addr} {q : Str} {params : Arguments} {body : Expr} {scope : Scope} {clo : List (Str × Addr)} {pm ctv : Value} (e : h.get? f = some (PySem.W.kla_obj "<lambda>" q params body scope clo pm c ctv)) :
    ObjOk P w H h f (LamO f c q params body scope clo) :=
  ⟨⟨pm, ctv, e⟩, ⟨_, e⟩, fun h1 h2 ⟨pm', ctv', e'⟩ k => ⟨pm', ctv', k _ e'⟩⟩
/-- all but those -/
def forg (fs : List Addr) (H : Hp) : Hp := fun b => if b ∈ fs then none else H b
theorem forg_le {fs : List Addr} {H : Hp} : ∀ b o, forg fs H b = some o → H b = some o := fun b o e => by
  unfold forg at e
  by_cases h : b ∈ fs
  · rw [if_pos h] at e
    cases e
  · rw [if_neg h] at e
    exact e
theorem forg_of {fs : List Addr} {H : Hp} {b : Addr} {o : HO} (e : H b = some o) (n : b ∉ fs) : forg fs H b = some o := by
  unfold forg
  rw [if_neg n]
  exact e
theorem forg_not {fs : List Addr} {H : Hp} {b : Addr} {o : HO} (e : forg fs H b = some o) : b ∉ fs := fun h => by
  unfold forg at e
  rw [if_pos h] at e
  cases e
def tLamV (X : Cx) (T : List (Addr × Str)) (params : Arguments) (body : Expr) (scope : Scope) : TE := fun _ H Q => ∃ fs : List Addr, Tabs T (forg fs H) ∧ (∀ x ∈ fs, H x ≠ none) ∧ ∀ (f c : Addr) (H1 : Hp), ExtN H H1 → Tabs T (forg (f :: fs) H1) → H f = none → c ∉ f :: fs → H1 f = some (LamO f c (X.env.qual ++ "<lambda>") params body scope (cloFrom X.env.cells scope.names [])) →
  H1 c = some (CodeO c (X.env.qual ++ "<lambda>")) → Q (.ref f) H1
section
variable {X : Cx}
theorem pe_lamV {T : List (Addr × Str)} {c P : Addr} {params : Arguments} {body : Expr} {scope : Scope} {pos : Pos} (TB : TabB X.base X.mg c P) (hcode : X.env.code = .ref c) (hm : (P, X.env.qual ++ "<lambda>") ∈ T) (hu : ∀ p ∈ T, p.1 = P → p.2 = X.env.qual ++ "<lambda>")
    (hdef : defaultsOf params X.env = ([], [])) (L : LamS X.env.scope scope) : PE X (.Lambda params body scope pos) (tLamV X T params body scope) := by
  refine ⟨fun pins s σ H Q I h => ?_⟩
  obtain ⟨fs, hT, hfs, k⟩ := h
  obtain ⟨ps, eP', tri, named⟩ := hT _ hm
  have eP := forg_le _ _ eP'
  have nPfs := forg_not eP'
  have atP : s.heap.get? P = some { cls := .none, data := .fields ps } := I.hok P _ eP
  have free := L.has I.ok
  refine PySem.W.kla_eval hdef ?_
  cases hc : codeAmong pos ps.toList with
  | some cv =>
    obtain ⟨c', rfl, hco⟩ := named pos cv hc
    refine PySem.W.kla_makeFunctionHit (mg := X.mg) (c := c) (P := P) (ps := ps) (closure_ok free) I.ok.glob (I.mod.glob.keeps I.bk) hcode (TB.code.keeps I.bk) atP tri hc (TB.bm.keeps I.bk) fun ctv h' tk kept hsz => ?_
    have I1 : Inv X pins σ H { s with heap := h', toks := tk } := I.kept kept
    have hnew := I1.hok.fresh (Nat.le_refl h'.objs.size)
    have I2 := I1.laid (t' := tk) (a := h'.objs.size) (fun _ _ e => Heap.get?_push_of_some _ e) (Nat.le_refl _) (lamO_ok (P := X.prog) (w := X.w) (Heap.get?_push_size h' (o := PySem.W.kla_obj "<lambda>" (X.env.qual ++ "<lambda>") params body scope (cloFrom X.env.cells scope.names []) ((X.mg "__name__").getD .none) c' ctv) rfl))
    have keep : ∀ b o, H b = some o → upd H h'.objs.size (LamO h'.objs.size c' (X.env.qual ++ "<lambda>") params body scope (cloFrom X.env.cells scope.names [])) b = some o := fun b o e => by
      rw [upd_ne (ne_of_none e hnew)]
      exact e
    have nfs : ∀ b o, forg fs H b = some o → b ∉ h'.objs.size :: fs := fun b o e h => by
      rcases List.mem_cons.mp h with z | z
      · have := forg_le _ _ e
        rw [z, hnew] at this
        cases this
      · exact forg_not e z
    have keepF : ∀ b o, forg fs H b = some o → forg (h'.objs.size :: fs) (upd H h'.objs.size (LamO h'.objs.size c' (X.env.qual ++ "<lambda>") params body scope (cloFrom X.env.cells scope.names []))) b = some o := fun b o e => forg_of (keep b o (forg_le _ _ e)) (nfs b o e)
    exact ⟨.ref h'.objs.size, _, I2, rfl, k _ c' _ (ExtN.of keep) (hT.ext keepF) hnew (nfs _ _ hco) upd_same (keep _ _ (forg_le _ _ hco))⟩
  | none =>
    refine PySem.W.kla_makeFunction (mg := X.mg) (c := c) (P := P) (ps := ps) (closure_ok free) I.ok.glob (I.mod.glob.keeps I.bk) hcode (TB.code.keeps I.bk) atP tri hc TB.gP (TB.bm.keeps I.bk) fun c' ctv h' tk kept old lt rec_ tab => ?_
    obtain ⟨c2, oc, us, t, ec, atC, dat, nam⟩ := rec_
    cases ec
    have nC : H c' = none := I.hok.fresh old
    have I1 := inv_table (t' := tk) (more := #[rawInt pos.line, rawInt pos.col, .ref c']) I eP kept tab old ⟨oc, us, t, atC, dat, nam⟩
    have hnew := I1.hok.fresh (Nat.le_refl h'.objs.size)
    have I2 := I1.laid (t' := tk) (a := h'.objs.size) (fun _ _ e => Heap.get?_push_of_some _ e) (Nat.le_refl _) (lamO_ok (P := X.prog) (w := X.w) (Heap.get?_push_size h' (o := PySem.W.kla_obj "<lambda>" (X.env.qual ++ "<lambda>") params body scope (cloFrom X.env.cells scope.names []) ((X.mg "__name__").getD .none) c' ctv) rfl))
    have eT : upd (upd H P (.tbl (ps ++ #[rawInt pos.line, rawInt pos.col, .ref c']))) c' (CodeO c' (X.env.qual ++ "<lambda>")) P = some (.tbl (ps ++ #[rawInt pos.line, rawInt pos.col, .ref c'])) := by rw [upd_ne (ne_of_none eP nC), upd_same]
    have keepN : ExtN H (upd (upd H P (.tbl (ps ++ #[rawInt pos.line, rawInt pos.col, .ref c']))) c' (CodeO c' (X.env.qual ++ "<lambda>"))) := fun b o e n => by
      rw [upd_ne (ne_of_none e nC), upd_ne (fun z => n ps (by rw [z, eP] at e; exact (Option.some.inj e).symm))]
      exact e
    have keep2 : ∀ b o, upd (upd H P (.tbl (ps ++ #[rawInt pos.line, rawInt pos.col, .ref c']))) c' (CodeO c' (X.env.qual ++ "<lambda>")) b = some o →
        upd (upd (upd H P (.tbl (ps ++ #[rawInt pos.line, rawInt pos.col, .ref c']))) c' (CodeO c' (X.env.qual ++ "<lambda>"))) h'.objs.size (LamO h'.objs.size c' (X.env.qual ++ "<lambda>") params body scope (cloFrom X.env.cells scope.names [])) b = some o := fun b o e => by
      rw [upd_ne (ne_of_none e hnew)]
      exact e
    have hnH : H h'.objs.size = none := I.hok.fresh (Nat.le_trans old (Nat.le_of_lt lt))
    have ncf : c' ≠ h'.objs.size := ne_of_none (o := CodeO c' (X.env.qual ++ "<lambda>")) upd_same hnew
    have nfs : ∀ b o, forg fs H b = some o → b ∉ h'.objs.size :: fs := fun b o e h => by
      rcases List.mem_cons.mp h with z | z
      · have := forg_le _ _ e
        rw [z, hnH] at this
        cases this
      · exact forg_not e z
    have nCfs : c' ∉ h'.objs.size :: fs := fun h => by
      rcases List.mem_cons.mp h with z | z
      · exact ncf z
      · exact hfs _ z nC
    have old2 : ∀ b o, forg fs H b = some o → (∀ ps, o ≠ .tbl ps) → forg (h'.objs.size :: fs) (upd (upd (upd H P (.tbl (ps ++ #[rawInt pos.line, rawInt pos.col, .ref c']))) c' (CodeO c' (X.env.qual ++ "<lambda>"))) h'.objs.size (LamO h'.objs.size c' (X.env.qual ++ "<lambda>") params body scope (cloFrom X.env.cells scope.names []))) b = some o :=
      fun b o e n => forg_of (keep2 _ _ (keepN b o (forg_le _ _ e) n)) (nfs b o e)
    have tabs : Tabs T (forg (h'.objs.size :: fs) (upd (upd (upd H P (.tbl (ps ++ #[rawInt pos.line, rawInt pos.col, .ref c']))) c' (CodeO c' (X.env.qual ++ "<lambda>"))) h'.objs.size (LamO h'.objs.size c' (X.env.qual ++ "<lambda>") params body scope (cloFrom X.env.cells scope.names [])))) := by
      intro p hp
      by_cases e : p.1 = P
      · rw [hu p hp e, e]
        refine ⟨_, forg_of (keep2 _ _ eT) (nfs _ _ eP'), by rw [Array.toList_append]; exact PySem.TriplesOk_snoc _ _ _ _ tri, fun p' cv hcv => ?_⟩
        rw [Array.toList_append] at hcv
        rcases among_app _ tri hcv with z | z
        · obtain ⟨c0, e1, e2⟩ := named p' cv z
          exact ⟨c0, e1, old2 _ _ e2 codeO_ne⟩
        · exact ⟨c', z, forg_of (keep2 _ _ upd_same) nCfs⟩
      · obtain ⟨ps', a1, a2, a3⟩ := hT p hp
        have a1' := forg_le _ _ a1
        refine ⟨ps', forg_of (keep2 _ _ (by rw [upd_ne (ne_of_none a1' nC), upd_ne e]; exact a1')) (nfs _ _ a1), a2, fun p' cv hcv => ?_⟩
        obtain ⟨c0, e1, e2⟩ := a3 p' cv hcv
        exact ⟨c0, e1, old2 _ _ e2 codeO_ne⟩
    exact ⟨.ref h'.objs.size, _, I2, rfl, k _ c' _ (keepN.trans (ExtN.of keep2)) tabs hnH nCfs upd_same (keep2 _ _ upd_same)⟩
end
end SQ
/-! A kept lambda is handed to a def, from a block. -/
namespace SQ
open PySem PySem.Spec PyProof.Rows L2 LamX
def offA (H : Hp) (a : Addr) : Hp := fun b => if b = a then none else H b
theorem offA_at {H : Hp} {a : Addr} : offA H a a = none := if_pos rfl
theorem offA_of {H : Hp} {a b : Addr} (n : b ≠ a) : offA H a b = H b := if_neg n
theorem offA_none {H : Hp} {a b : Addr} (n : H b = none) : offA H a b = none := by
  by_cases e : b = a
  · rw [e]
    exact offA_at
  · rw [offA_of e]
    exact n
/-- what is only remembered may be forgotten -/
theorem forget {X : Cx} {pins : List (Addr × Obj)} {σ : L2.St} {H : Hp} {s : Shared} {f : Addr} {φ : Heap → Prop} (I : Inv X pins σ H s) (e : H f = some (.ext φ)) : Inv X pins σ (offA H f) s := by
  have ne : ∀ b u, H b = some u → (∀ φ, u ≠ .ext φ) → b ≠ f := fun b u h n z => by
    rw [z, e] at h
    exact n _ (Option.some.inj h).symm
  have stay : ∀ b u, H b = some u → (∀ φ, u ≠ .ext φ) → offA H f b = some u := fun b u h n => by
    rw [offA_of (ne b u h n)]
    exact h
  refine ⟨I.ok, I.os, I.bare, ⟨I.base.keep, I.base.slot, fun b o h n x => offA_none (I.base.free b o h n x), I.base.there, fun b xs h => stay b _ (I.base.tups b xs h) (fun _ z => nomatch z), fun b o u h => stay b _ (I.base.frzs b o u h) (fun _ z => nomatch z), fun b ps h => ?_⟩,
    I.loc, I.cell, offA_none I.free, fun x c h => offA_none (I.freeC x c h), fun p hp => ?_, fun b o h => ?_, I.len⟩
  · obtain ⟨more, z⟩ := I.base.tbls b ps h
    exact ⟨more, stay b _ z (fun _ q => nomatch q)⟩
  · obtain ⟨h1, h2, h3⟩ := I.pin p hp
    exact ⟨h1, offA_none h2, h3⟩
  · have nb : b ≠ f := fun z => by
      rw [z, offA_at] at h
      cases h
    rw [offA_of nb] at h
    exact (I.hok b o h).stay (fun _ _ _ q => q) (fun c q => stay c _ q (fun _ z => nomatch z)) fun c xs q => stay c _ q (fun _ z => nomatch z)
/-- the kept lambda's body may be read in the maker's frame -/
structure Body (X : Cx) (k : Nat) (params : Arguments) (body : Expr) (scope : Scope) (t : XK → TE) : Prop where
  L : LamS X.env.scope scope
  bind : ∀ (q : Str) (cl : List (Str × Addr)) (pm cv ctv : Value), bindArgs (PySem.W.kla_fn "<lambda>" q params body scope cl pm cv ctv) ⟨[], []⟩ = pure []
  read : ∀ (A : Around) (outer : List Env) (s : Shared) (H : Hp) (E : XK) (f c' : Addr), Room k (A.deeper (lamEnv X scope s.heap.objs.size f c')) → PE (lamCx X A outer s H E scope f c') body (t E)
/-- x(y), y one of X's kept lambdas; TT: what x makes of its reading -/
def tKept (X : Cx) (k : Nat) (TT : (XK → Hp → VK → Prop) → Hp → VK → Prop) (i : Nat) (sb : Shared) (Hb : Hp) : TE := fun σb H Q => ∃ (σ : L2.St) (f c : Addr) (params : Arguments) (body : Expr) (scope : Scope) (t : XK → TE), Inv X [] σ Hb sb ∧ Body X k params body scope t ∧ σb[i]? = some (some (.ref f)) ∧
  H f = some (LamO f c (X.env.qual ++ "<lambda>") params body scope (cloFrom X.env.cells scope.names [])) ∧ H c = some (CodeO c (X.env.qual ++ "<lambda>")) ∧ c ≠ f ∧ TT (fun E H' Q' => t E σ H' Q') (offA H f) Q
section
variable {X : Cx}
theorem pe_kept {TT : (XK → Hp → VK → Prop) → Hp → VK → Prop} {x a y : Str} {g : Addr} {k i : Nat} {pg : Arguments} {bg : List Stmt} {sg : Scope} {dV kV doc pm cdv ct oc : Value} {an od : Option Addr} {osl : Array (Option Value)} {Ng : List Str} {sb : Shared} {Hb : Hp} {scope : Scope} {ce : Env} {fp : List Addr}
    {pins : List (Addr × Obj)} {p p1 pos : Pos} (hfp : ∀ b ∈ fp, FpOk X pins Hb b) (hg : Gl (X.blk sb Hb scope ce fp) x) (hm : X.mg x = some (.ref g)) (hk : PySem.W.keepIn X.K (.ref g) = true)
    (lk : X.K.lookup g = some ⟨oc, od, .func (PySem.W.fnOf x x pg bg sg dV kV doc pm an cdv ct), osl⟩) (hcg : PySem.W.codeIn X.K cdv x = true) (hbd : L2.Binds X.K (PySem.W.fnOf x x pg bg sg dV kV doc pm an cdv ct) [a] []) (Sg : FnScope Ng [a] sg) (hNg : Ng[0]? = some a) (hva : Vis sg a)
    (hG : GivesTo X Ng x sg g cdv bg a (X.env.qual ++ "<lambda>") TT) (hr : Room (k + 2) X.A) (hy : PE (X.blk sb Hb scope ce fp) (.Name y p1) (tVar i)) (hna : starEach [.Name y p1] (X.blk sb Hb scope ce fp).env = (false, eval (.Name y p1) (X.blk sb Hb scope ce fp).env) :: starEach [] (X.blk sb Hb scope ce fp).env := by rfl)
    (hdb : (x == ("__debug__" : Str)) = false := by decide) (hd : (a == ("__debug__" : Str)) = false := by decide) (hcd : (a == ("__classdict__" : Str)) = false := by decide) :
    PE (X.blk sb Hb scope ce fp) (.Call (.Name x p) [.Name y p1] [] pos) (tKept X k TT i sb Hb) := by
  refine ⟨fun pb s σb H Q I h => ?_⟩
  obtain ⟨σ, f, c, params, body, sl, t, I0, B, hi, hf, hc, ncf, ht⟩ := h
  refine wpAny_Call_Name_kw (ld_glob I hg hm ?_ hdb)
  refine PySem.W.callWith_K (h₀ := X.base) I.ok.mod.kin hk ?_ hna (by rfl)
  rw [hna]
  refine Calls.spliced_cons (thn (hy.run pb _ σb H (fun v H1 => v = .ref f ∧ H1 = H) I ⟨.ref f, hi, rfl, rfl⟩) ?_)
  rintro u s1 ⟨v, H1, I1, r1, rfl, rfl⟩
  obtain rfl : u = Value.ref f := r1
  refine Calls.spliced_nil ⟨I1.kIn, ?_⟩
  have J1 := forget I1 hf
  have IX : Inv X [] σ H1 s1 := I0.call' (ch := fp) I1.os I1.base I1.hok I1.bare fun b hbm => by
    obtain ⟨_, l1, _, l3, l4, l5⟩ := hfp b hbm
    exact ⟨l3, l1, l4, fun q hq => l5 q (by
      rw [List.append_nil] at hq
      exact List.mem_append_left _ hq)⟩
  have IF := forget IX hf
  obtain ⟨⟨pm', ctv, atf⟩, _, _⟩ := I1.hok f _ hf
  have nfr : f ∉ frs X.stack := fun z => by
    have := IX.stkFree f z
    rw [hf] at this
    cases this
  have hc' : offA H1 f c = some (CodeO c (X.env.qual ++ "<lambda>")) := by rw [offA_of ncf]; exact hc
  have rc : codeAny (model X.prog X.w) X.A (.call (.ref g) ⟨[.ref f], []⟩) (CR C8.CX0 X.stack X.prog X.w (offA H1 f) s1 Q C8.E0) s1 := by
    refine run_ofS (N := Ng) (ps := [a]) (us := [.ref f]) (vs := [.ref f]) lk hcg Sg hr IF.env0 (hbd s1 [.ref f] I1.kIn rfl) (.cons rfl .nil) rfl fun hr' => ?_
    obtain ⟨t', ht', hq'⟩ := hG f c s1 (offA H1 f) Q (fun E H' Q' => t E σ H' Q') (fun W pn xe E p1 p2 tk hW => pe_act (i := 0) IF B.L atf offA_at nfr (B.bind _ _ _ _ _) tk hW hr' (fun A outer s H hr2 => B.read A outer s H E f c hr2) hNg hva hd hcd) hc' ht
    exact ⟨t', ht'.nox, hq'⟩
  refine wpAny_call (codeAny_mono rc fun r s2 hq => ?_)
  cases r with
  | error e => exact (show False from hq).elim
  | ok fl =>
    cases fl with
    | ret u => exact J1.after hq
    | next => exact False.elim hq
    | brk => exact False.elim hq
    | cont => exact False.elim hq
end
end SQ
/-! A call whose arguments all have names. -/
namespace SQ
open PySem PySem.Spec PyProof.Rows L2
def tCallK0 (sp : Sp) (gV : List V → List V → List V) (E : XK) (tk : TA) : TE := fun σ H Q => tk σ H fun zs H2 => sp (gV [] zs) H2 Q E
variable {X : Cx} {CX : CXT} {k : Nat} {f : Addr} {fd : FuncData} {ps ks : List Str} {sp : Sp} {E : XK} {x : Str} {p pos : Pos} {g : List Value → List Value → List Value} {gV : List V → List V → List V} {kws : List Keyword} {tk : TA}
theorem pe_callK0 (F : FnOk X.prog X.w X.K X.mg X.base CX k f fd ps sp) (hr : Room k X.A) (hg : Gl X x) (hm : X.mg x = some (.ref f)) (hk : PySem.W.keepIn X.K (.ref f) = true) (hb : KBinds X.K fd ps ks g gV) (hx : Passes CX X E) (hkw : PK X kws tk)
    (hall : (backToKw pos (keywordEach kws X.env)).all (·.1.isSome) = true := by rfl) (hks : (backToKw pos (keywordEach kws X.env)).filterMap (·.1) = ks := by rfl) (hdb : (x == ("__debug__" : Str)) = false := by decide)
    (hpl : ((backTo pos (starEach [] X.env)).any (·.1) || (backToKw pos (keywordEach kws X.env)).any (·.1.isNone)) = false := by rfl) : PE X (.Call (.Name x p) [] kws pos) (tCallK0 sp gV E tk) := by
  refine ⟨fun pins s σ H Q I h => ?_⟩
  refine wpAny_Call_Name_kw (ld_glob I hg hm ?_ hdb)
  refine PySem.W.callWith_KW0 (h₀ := X.base) I.ok.mod.kin hk hall (thn (hkw.run pos pins s σ H _ I h) ?_) hpl
  rintro ws s2 ⟨zs, H2, I2, rz, q2⟩
  refine ⟨I2.kIn, ?_⟩
  rw [hks]
  exact run_fnk F hr hb hx I2 .nil rz q2
/-- nothing is raised -/
theorem pass_never {P : Program} {w : World} (h1 : X.prog = P) (h2 : X.w = w) : Passes (L2.CX P w) X (fun _ _ _ => False) := by
  subst h1 h2
  exact passes_call LamX.takes0 (fun _ _ _ _ z => z)
end SQ
/-! held tables and settled answers are right. -/
namespace K46
open PySem L2 FX SQ LamX
/-- all but p and the code tables -/
def core (p : Addr) (H : Hp) : Hp := fun b => if b = p then none else match H b with
  | some (.tbl _) => none
  | some (.ext _) => none
  | x => x
def Keep (p : Addr) (H H' : Hp) : Prop := ∀ c o, H c = some o → c ≠ p → (∀ ps, o ≠ .tbl ps) → (∀ φ, o ≠ .ext φ) → H' c = some o
theorem core_le {p : Addr} {H : Hp} : Same (core p H) H := fun c o e => by
  unfold core at e
  by_cases h : c = p
  · rw [if_pos h] at e
    cases e
  rw [if_neg h] at e
  cases q : H c with
  | none =>
    rw [q] at e
    cases e
  | some u =>
    rw [q] at e
    cases u <;> first | exact e | cases e
theorem Keep.core {p : Addr} {H H' : Hp} (k : Keep p H H') : Same (core p H) (core p H') := fun c o e => by
  have e1 := core_le c o e
  unfold K46.core at e ⊢
  by_cases h : c = p
  · rw [if_pos h] at e
    cases e
  rw [if_neg h] at e ⊢
  have nt : ∀ ps, o ≠ .tbl ps := fun ps z => by
    rw [e1, z] at e
    cases e
  have nx : ∀ φ, o ≠ .ext φ := fun φ z => by
    rw [e1, z] at e
    cases e
  rw [k c o e1 h nt nx]
  cases o <;> first | rfl | exact absurd rfl (nt _) | exact absurd rfl (nx _)
theorem Keep.refl (p : Addr) (H : Hp) : Keep p H H := fun _ _ e _ _ _ => e
theorem Keep.trans {p : Addr} {H H1 H2 : Hp} (a : Keep p H H1) (b : Keep p H1 H2) : Keep p H H2 := fun c o e n t x => b c o (a c o e n t x) n t x
theorem Keep.of {p : Addr} {H H' : Hp} (s : Same H H') : Keep p H H' := fun c o e _ _ _ => s c o e
theorem Keep.but {p : Addr} {H H' : Hp} (b : But p H H') : Keep p H H' := fun c o e n _ _ => b c o e n
theorem Keep.ext {p : Addr} {H H' : Hp} (b : ExtN H H') : Keep p H H' := fun c o e _ t _ => b c o e t
theorem Keep.offA {p f : Addr} {H : Hp} {φ : Heap → Prop} (e : H f = some (.ext φ)) : Keep p H (offA H f) := fun c o q _ _ x => by
  rw [offA_of fun z => by rw [z, e] at q; exact x _ (Option.some.inj q).symm]
  exact q
theorem Box.ext {p : Addr} {H H' : Hp} (b : Box H p) (e : ExtN H H') : Box H' p := by
  obtain ⟨x, y, z, q⟩ := b
  exact ⟨x, y, z, e _ _ q fun ps h => nomatch h⟩
theorem Tabs.same {T : List (Addr × Str)} {H H' : Hp} (t : Tabs T H) (s : Same H H') : Tabs T H' := t.ext s
theorem Tabs.but {T : List (Addr × Str)} {p : Addr} {H H' : Hp} (t : Tabs T H) (hb : Box H p) (s : But p H H') : Tabs T H' := by
  obtain ⟨x, y, z, q⟩ := hb
  intro u hu
  obtain ⟨ps, h1, h2, h3⟩ := t u hu
  refine ⟨ps, s _ _ h1 fun z => (by rw [z, q] at h1; cases h1), h2, fun pos cv hc => ?_⟩
  obtain ⟨c, e1, e2⟩ := h3 pos cv hc
  exact ⟨c, e1, s _ _ e2 fun z => by rw [z, q] at e2; unfold CodeO at e2; cases e2⟩
theorem shaped_held (c : Nat) (ns : List Nat) : SeqAt.shaped (.tuple [nD c, .tuple (ns.map nD)]) = true := by
  unfold SeqAt.shaped
  rw [Bool.and_eq_true]
  refine ⟨?_, decide_eq_true ?_⟩
  · have := lay_n ns
    simp [PyData.canLay0, PyData.canLayAll0, nD] at this ⊢
    exact this
  · have := depth_n ns
    simp only [PyData.depth, PyData.depthAll, nD]
    omega
/-- a def whose code object is known -/
structure FunC (K : PySem.W.Frag) (x : Str) (st : Stmt) (f c : Addr) (fd : FuncData) : Prop where
  ex : ∃ oc od kV doc pm an ct osl, fd = PySem.W.fnOf x x (defArgs st) (defBody st) (defScope st) .none kV doc pm an (.ref c) ct ∧ K.lookup f = some ⟨oc, od, .func fd, osl⟩ ∧ PySem.W.codeIn K (.ref c) x = true
  kp : PySem.W.keepIn K (.ref f) = true
end K46
namespace K46
open PySem L2 FX SQ LamX
theorem FunC.ok {P : Program} {w : World} {K : PySem.W.Frag} {mg : Str → Option Value} {base : Heap} {x : Str} {st : Stmt} {f c : Addr} {fd : FuncData} {N ps : List Str} {k : Nat} {sp : Sp} (F : FunC K x st f c fd) (S : FnScope N ps (defScope st)) (len : ∀ vs H Q E, sp vs H Q E → vs.length = ps.length)
    (hb : ∀ (A : Around) (outer : List Env) (s : Shared) (H : Hp) (vs : List V) (Q : VK) (E : XK), Room k (A.deeper (PyProof.Rows.envOfC x (defScope st) s.heap.objs.size f (.ref c))) → sp vs H Q E →
      ∃ t, PSs (cxOf CX0 P w K mg base N x (defScope st) f (.ref c) A outer s H E).nox (defBody st) t ∧ t { nx := fun _ H' => Q .non H', rt := Q } (L2.start N vs) H) : FnOk P w K mg base CX0 (k + 1) f fd ps sp := by
  obtain ⟨oc, od, kV, doc, pm, an, ct, osl, rfl, lk, hcd⟩ := F.ex
  refine fn_of lk hcd S len fun A outer s H vs Q E hr hsp => ?_
  obtain ⟨t, h, q⟩ := hb A outer s H vs Q E hr hsp
  exact ⟨t, h.nox, q⟩
section
variable {K : PySem.W.Frag}
end
end K46
/-! on which places an operation hangs. -/
namespace K46
open PySem L2 FX SQ
theorem cut_lo (xs : List V) {j : Nat} (h : j ≤ xs.length) : cutV xs none (some (j : Int)) = xs.take j := by
  unfold cutV
  rw [HT.sIx_none, HT.sIx_nat, List.drop_zero, Nat.sub_zero, Nat.min_eq_left h]
theorem cut_hi (xs : List V) (j : Nat) : cutV xs (some ((j : Nat) : Int)) none = xs.drop j := by
  unfold cutV
  rw [HT.sIx_none, HT.sIx_nat]
  by_cases h : j ≤ xs.length
  · rw [Nat.min_eq_left h]
    exact List.take_of_length_le (by rw [List.length_drop]; exact Nat.le_refl _)
  · rw [Nat.min_eq_right (by omega), Nat.sub_self, List.take_zero, List.drop_of_length_le (by omega)]
def stO (s n p : Nat) : Nat := s ^ (n - 1 - p)
def lowI (s st i : Nat) : Nat := i - i / st % s * st
theorem low_le (s st i : Nat) : i / st % s * st ≤ i := Nat.le_trans (Nat.mul_le_mul_right _ (Nat.mod_le _ _)) (Nat.div_mul_le_self i st)
theorem low_int (s st i : Nat) : (i : Int) - (i : Int) / (st : Int) % (s : Int) * (st : Int) = ((lowI s st i : Nat) : Int) := by
  unfold lowI
  rw [Int.ofNat_sub (low_le s st i), Int.natCast_mul, Int.natCast_emod, Int.natCast_ediv]
/-- whether it hangs on a place -/
def hangsA (s n : Nat) (as : List Nat) (p : Nat) : Bool := (List.range (s ^ n)).any fun i => !decide (as.getD i 0 = as.getD (lowI s (stO s n p) i) 0)
def hungN (s n : Nat) (as : List Nat) : List Nat := (List.range n).filter (hangsA s n as)
section
variable {P : Program} {w : World} {K : PySem.W.Frag} {mg : Str → Option Value} {base : Heap}
abbrev sProd : Stmt := top 8
abbrev sHangsA : Stmt := top 12
abbrev sHung : Stmt := top 26
def spProd (K : PySem.W.Frag) : Sp := fun vs H Q _ => ∃ (v : V) (m s : Nat), vs = [v] ∧ Dp K H v (.list ((List.replicate m s).map nD)) ∧ m ≤ 8 ∧ s ≤ 8 ∧ Q (.int (s ^ m : Nat)) H
theorem scProd : FnScope ["numbers", "product_now", "number"] ["numbers"] (defScope sProd) := ⟨rfl, rfl, rfl, by decide +kernel, rfl, by decide +kernel, by decide +kernel⟩
theorem ok_prod {f : Addr} {fd : FuncData} (F : Fun K "product_of" "product_of" sProd f fd) : FnOk P w K mg base CX0 1 f fd ["numbers"] (spProd K) := by
  refine F.ok scProd (fun vs H Q E h => ?_) (fun cdv A outer s H vs Q E hr h => ?_)
  · obtain ⟨v, m, s, rfl, _⟩ := h
    rfl
  · obtain ⟨v, m, s, rfl, hd, m8, s8, k⟩ := h
    refine ⟨_, pss_cons (ps_set (i := 1) scProd.nd rfl (Or.inl rfl) pe_int)
      (pss_cons (ps_for PassesOwn.never rfl (pi_list (pv 0)) (pg_name (i := 2) scProd.nd rfl (Or.inl rfl))
        (pss_one (ps_aug (i := 1) scProd.nd rfl (Or.inl rfl) (pv 2) iop_mul)))
      (pss_one (ps_ret (pv 1)))), ?_⟩
    obtain ⟨a, xs, rfl, q, r⟩ := dp_list hd
    have lx : xs.length = m := by rw [dpAll_len r, List.length_map, List.length_replicate]
    refine ⟨_, rfl, a, rfl, ⟨_, q⟩, for_list (K := K) (a := a) (xs := xs) (fun i σ H' => ∃ u : Option V, σ = [some (.ref a), some (.int (pow' (s : Int) i)), u] ∧ H' = H) ⟨none, rfl, rfl⟩ (fun i σ H' _ h => by obtain ⟨u, _, rfl⟩ := h; exact q) ?_ ?_⟩
    · rintro i x σ H' hx ⟨u, rfl, rfl⟩
      obtain ⟨dx, hdx, hxd⟩ := dpAll_get r hx
      obtain rfl : x = .int (s : Nat) := by
        rw [List.getElem?_map, List.getElem?_replicate] at hdx
        split at hdx
        · cases hdx
          cases hxd
          rfl
        · cases hdx
      exact ⟨_, rfl, _, rfl, _, _, rfl, rfl, .inr ⟨by omega, by omega⟩, _, rfl, rfl⟩
    · rintro σ H' ⟨u, rfl, rfl⟩
      refine ⟨_, rfl, ?_⟩
      rw [lx, pow_nat]
      exact k
def spHangs (K : PySem.W.Frag) : Sp := fun vs H Q _ => ∃ (vz va : V) (s n p : Nat) (as : List Nat), vs = [vz, va, .int p] ∧ Dp K H vz (.list ((List.replicate n s).map nD)) ∧ Dp K H va (.tuple (as.map nD)) ∧ 2 ≤ s ∧ s ≤ 8 ∧ n ≤ 3 ∧ p < n ∧ as.length = s ^ n ∧
  ∀ H', Same H H' → Q (.bl (hangsA s n as p)) H'
abbrev NHangs : List Str := ["sizes", "answers", "place", "step", "spot", "answer"]
theorem scHangs : FnScope NHangs ["sizes", "answers", "place"] (defScope sHangsA) := ⟨rfl, rfl, rfl, by decide +kernel, rfl, by decide +kernel, by decide +kernel⟩
theorem any_to {n : Nat} {p : Nat → Bool} : ∀ {i : Nat}, (List.range (i + 1)).any p = ((List.range i).any p || p i) := by
  intro i
  rw [List.range_succ, List.any_append, List.any_cons, List.any_nil, Bool.or_false]
theorem ok_hangs {f fP : Addr} {fd fdP : FuncData} (F : Fun K "hangs_at" "hangs_at" sHangsA f fd) (Z : Bi mg) (FP : At K mg "product_of" sProd fP fdP ["numbers"]) : FnOk P w K mg base CX0 2 f fd ["sizes", "answers", "place"] (spHangs K) := by
  have GP : FnOk P w K mg base CX0 1 fP fdP ["numbers"] (spProd K) := ok_prod FP.F
  refine F.ok scHangs (fun vs H Q E h => ?_) (fun cdv A outer sh H vs Q E hr h => ?_)
  · obtain ⟨vz, va, s, n, p, as, rfl, _⟩ := h
    rfl
  · obtain ⟨vz, va, s, n, p, as, rfl, hz, ha, s2, s8, n3, hp, la, k⟩ := h
    refine ⟨_, pss_cons (ps_set (i := 3) scHangs.nd rfl (Or.inl rfl) (pe_call GP (hr.mono (by decide)) rfl FP.g FP.F.kp FP.b .nil pass0 (by exact (pa_cons (pe_slice sl_list (pv 0) (po_some (pe_op op_add (pv 2) pe_int)) po_none) pa_nil))))
      (pss_cons (ps_for PassesOwn.never rfl (pi_enum2 (by rfl) Z.enumerate (pa_cons (pv 1) pa_nil)) (pg_tup rfl (pgs_cons (pg_name (i := 4) scHangs.nd rfl (Or.inl rfl)) (pgs_cons (pg_name (i := 5) scHangs.nd rfl (Or.inl rfl)) pgs_nil)))
        (pss_one (ps_if (pt_cmpR op_ne (pv 5) (pe_ix ix_tup (pv 1) (pe_op op_sub (pv 4) (pe_op op_mul (pe_op op_mod (pe_op op_fdiv (pv 4) (pv 3)) (pe_ix ix_list (pv 0) (pv 2) (fun _ _ => rfl))) (pv 3))) (fun _ _ => rfl)) (nomark _)) (pss_one (ps_ret pe_bl)) pss_nil)))
      (pss_one (ps_ret pe_bl))), ?_⟩
    obtain ⟨az, zs, rfl, qz, rz⟩ := dp_list hz
    obtain ⟨aa, xs, rfl, qa, ra⟩ := dp_tup ha
    obtain rfl : zs = (List.replicate n s).map fun n : Nat => V.int n := dpAll_eqn rz
    obtain rfl : xs = as.map fun n : Nat => V.int n := dpAll_eqn ra
    refine ⟨_, rfl, _, rfl, _, _, rfl, rfl, ((p + 1 : Nat) : Int), (by show V.int ((p : Int) + 1) = _; rfl), az, _, rfl, qz, fun l hl => ?_⟩
    rw [cut_hi]
    have s1 := same_new (o := .lst (((List.replicate n s).map fun n : Nat => V.int n).drop (p + 1))) hl
    have ed : ((List.replicate n s).map fun n : Nat => V.int n).drop (p + 1) = (List.replicate (n - 1 - p) s).map fun n : Nat => V.int n := by
      rw [← List.map_drop, List.drop_replicate]
      congr 2
      omega
    refine ⟨.ref l, n - 1 - p, s, rfl, .lst (SqL.of upd_same) (by rw [ed]; exact dpAll_mkn _), by omega, s8, ?_⟩
    generalize upd H l (.lst (((List.replicate n s).map fun n : Nat => V.int n).drop (p + 1))) = H1 at s1
    have l512 : s ^ n ≤ 8 ^ 3 := Nat.le_trans (Nat.pow_le_pow_left s8 n) (Nat.pow_le_pow_right (by decide) n3)
    have l64 : s ^ (n - 1 - p) ≤ 8 ^ 3 := Nat.le_trans (Nat.pow_le_pow_left s8 _) (Nat.pow_le_pow_right (by decide) (by omega))
    have lst : 0 < s ^ (n - 1 - p) := Nat.pow_pos (by omega)
    refine ⟨_, rfl, aa, _, .T, rfl, seqT s1 qa, for_it (walk_enum2 (k := .T) (a := aa) (xs := as.map fun n : Nat => V.int n) (n := (as.map fun n : Nat => V.int n).length) rfl)
      (fun i σ H' => ∃ u1 u2 : Option V, σ = [some (.ref az), some (.ref aa), some (.int (p : Nat)), some (.int (s ^ (n - 1 - p) : Nat)), u1, u2] ∧ Same H1 H' ∧ (List.range i).any (fun i => !decide (as.getD i 0 = as.getD (lowI s (stO s n p) i) 0)) = false)
      ⟨none, none, rfl, Same.refl H1, rfl⟩ (fun i σ H' _ ⟨_, _, _, s2, _⟩ => seqT (s1.trans s2) qa) ?_ ?_⟩
    · rintro i x σ H2 H3 hi ⟨u1, u2, rfl, s2, hj⟩ ⟨t, x1, x2, rfl, ht, rfl, hx1, hx2⟩
      rw [List.length_map] at hi
      obtain rfl : x1 = .int (i : Nat) := (Option.some.inj hx1).symm
      obtain rfl : x2 = .int (as[i] : Nat) := by
        have hx2 : (as.map fun n : Nat => V.int n)[i]? = some x2 := hx2
        rw [List.getElem?_map, List.getElem?_eq_getElem hi] at hx2
        exact (Option.some.inj hx2).symm
      have s3 := same_new (o := .tup [.int (i : Nat), .int (as[i] : Nat)]) ht
      have lo : lowI s (stO s n p) i < as.length := Nat.lt_of_le_of_lt (Nat.sub_le _ _) hi
      refine ⟨t, _, rfl, SqT.of upd_same, rfl, _, _, rfl, _, _, rfl, rfl, ?_⟩
      refine ⟨_, rfl, _, rfl, _, rfl, _, rfl, _, rfl, _, _, rfl, rfl, ⟨by omega, by omega⟩, _, rfl, _, rfl, az, _, _, .int (s : Nat), rfl, rfl, ((s1.trans s2).trans s3).seq qz, atI_nat (by rw [List.getElem?_map, List.getElem?_replicate, if_pos hp]; rfl), _, _, rfl, rfl, by omega, _, rfl, _, _, rfl, rfl, .inr ⟨by omega, by omega⟩, _, _, rfl, rfl, ?_⟩
      refine ⟨aa, _, _, .int (as[lowI s (stO s n p) i] : Nat), rfl, rfl, seqT ((s1.trans s2).trans s3) qa, ?_, rfl, _, rfl, ?_⟩
      · rw [show ((i : Int) - (i : Int) / ((s ^ (n - 1 - p) : Nat) : Int) % (s : Int) * ((s ^ (n - 1 - p) : Nat) : Int)) = ((lowI s (stO s n p) i : Nat) : Int) from low_int ..]
        exact atI_nat (by rw [List.getElem?_map, List.getElem?_eq_getElem lo]; rfl)
      have e1 : as.getD i 0 = as[i] := by rw [List.getD_eq_getElem?_getD, List.getElem?_eq_getElem hi]; rfl
      have e2 : as.getD (lowI s (stO s n p) i) 0 = as[lowI s (stO s n p) i] := by rw [List.getD_eq_getElem?_getD, List.getElem?_eq_getElem lo]; rfl
      by_cases hq : as[i] = as[lowI s (stO s n p) i]
      · refine go_f (by rw [hq]; simp) ?_
        refine ⟨_, _, rfl, s2.trans s3, ?_⟩
        rw [any_to (n := 0), hj, e1, e2, hq]
        simp
      · refine go_t (by simp; omega) ?_
        have : hangsA s n as p = true := by
          unfold hangsA
          rw [List.any_eq_true]
          exact ⟨i, List.mem_range.mpr (by omega), by rw [e1, e2]; simp [hq]⟩
        have kk := k _ ((s1.trans s2).trans s3)
        rw [this] at kk
        exact kk
    · rintro σ H2 ⟨u1, u2, rfl, s2, hj⟩
      rw [List.length_map, la] at hj
      have kk := k H2 (s1.trans s2)
      unfold hangsA at kk
      rw [hj] at kk
      exact kk
end
end K46
/-! the places on which an operation hangs. -/
namespace K46
open PySem L2 FX SQ
theorem rep_flat (n s : Nat) : (List.replicate (n : Int).toNat [V.int (s : Int)]).flatten = (List.replicate n s).map fun n : Nat => V.int n := by
  rw [Int.toNat_natCast]
  induction n with
  | zero => rfl
  | succ n ih =>
    rw [List.replicate_succ, List.flatten_cons, ih]
    rfl
theorem int_nat0 {x : V} {i : Nat} (ex : x = .int (0 + (i : Int))) : x = .int (i : Nat) := by
  rw [ex, Int.zero_add]
section
variable {P : Program} {w : World} {K : PySem.W.Frag} {mg : Str → Option Value} {base : Heap}
def spHung (K : PySem.W.Frag) : Sp := fun vs H Q _ => ∃ (va : V) (s n : Nat) (as : List Nat), vs = [.int s, .int n, va] ∧ Dp K H va (.tuple (as.map nD)) ∧ 2 ≤ s ∧ s ≤ 8 ∧ n ≤ 3 ∧ as.length = s ^ n ∧
  ∀ H' v, Same H H' → Dp K H' v (.tuple ((hungN s n as).map nD)) → Q v H'
abbrev NHung : List Str := ["size", "places", "answers", "place"]
theorem scHung : FnScope NHung ["size", "places", "answers"] (defScope sHung) := ⟨rfl, rfl, rfl, by decide +kernel, rfl, by decide +kernel, by decide +kernel⟩
theorem ok_hung {f fH : Addr} {fd fdH : FuncData} (F : Fun K "hung_in" "hung_in" sHung f fd) (Z : Bi mg) (FH : At K mg "hangs_at" sHangsA fH fdH ["sizes", "answers", "place"]) (GH : FnOk P w K mg base CX0 2 fH fdH ["sizes", "answers", "place"] (spHangs K)) :
    FnOk P w K mg base CX0 3 f fd ["size", "places", "answers"] (spHung K) := by
  refine F.ok scHung (fun vs H Q E h => ?_) (fun cdv A outer sh H vs Q E hr h => ?_)
  · obtain ⟨va, s, n, as, rfl, _⟩ := h
    rfl
  · obtain ⟨va, s, n, as, rfl, ha, s2, s8, n3, la, k⟩ := h
    refine ⟨_, pss_one (ps_ret (pe_tupleF (by rfl) Z.tuple (pe_lc (own := [("place", 3)]) (g := gName 3) (tt := tB (tCall (spHangs K) [] E0 (tCons (tOp rRep (tLst (tCons (tVar 0) tNil)) (tVar 1)) (tCons (tVar 2) (tCons (tVar 3) tNil))))) (te := tVar 3) rfl scHung.nd
        (pi_range1 (by rfl) Z.range (pa_cons (pv 1) pa_nil)) (blkOk_by (N := NHung) (sc := defScope sHung) (by decide +kernel))
        (fun _ _ _ _ _ => pg_name (i := 3) scHung.nd rfl (Or.inl rfl)) (fun _ _ _ _ _ => pts_one (pt_val (pe_call GH (hr.mono (by decide)) (by rfl) FH.g FH.F.kp FH.b .nil pass0 (by exact (pa_cons (pe_op op_rep (pe_lst (pa_cons (pv 0) pa_nil)) (pv 1)) (pa_cons (pv 2) (pa_cons (pv 3) pa_nil))))))) (fun _ _ _ _ _ => pv 3)))), ?_⟩
    refine ⟨_, rfl, n, rfl, by omega, by omega, ?_⟩
    rw [Int.toNat_natCast]
    refine fun D hD => walk_it walk_range (fun j H5 => Same H H5 ∧ H5 D = some (.lst (((List.range j).filter (hangsA s n as)).map fun n : Nat => V.int n))) ⟨same_new hD, upd_same⟩ (fun _ _ _ _ => trivial) ?_ ?_
    · rintro j x _ H5 hj ⟨s5, eD⟩ ⟨rfl, ex⟩
      obtain rfl := int_nat0 ex
      refine ⟨rfl, ?_⟩
      refine ⟨_, rfl, (by show 1 ≤ sizeLine; decide), fun l hl => ⟨_, rfl, l, _, _, rfl, rfl, upd_same, by omega, by omega, ?_, fun l2 hl2 => ?_⟩⟩
      · rw [Int.toNat_natCast, sizeLine_eq]
        show 1 * n ≤ _
        omega
      rw [rep_flat]
      have s6 := (same_new (o := .lst [V.int (s : Int)]) hl).trans (same_new (o := .lst ((List.replicate n s).map fun n : Nat => V.int n)) hl2)
      refine ⟨_, rfl, _, rfl, .ref l2, va, s, n, j, as, rfl, .lst (SqL.of upd_same) (dpAll_mkn _), dp_same (s5.trans s6) ha, s2, s8, n3, hj, la, fun H6 s7 => ⟨_, rfl, ?_⟩⟩
      have s57 := s5.trans (s6.trans s7)
      have eD6 := (s6.trans s7) _ _ eD
      have lf := List.length_filter_le (hangsA s n as) (List.range j)
      rw [List.length_range] at lf
      by_cases hb : hangsA s n as j = true
      · refine go_t hb ?_
        refine ⟨_, rfl, _, eD6, by rw [List.length_map, sizeLine_eq]; omega, same_of s57 hD, ?_⟩
        rw [upd_same, range_fil, if_pos hb, List.map_append]
        rfl
      · refine go_f (by simpa using hb) ?_
        refine ⟨s57, ?_⟩
        rw [range_fil, if_neg hb, List.append_nil]
        exact eD6
    · rintro H5 ⟨s5, eD⟩
      refine ⟨D, _, rfl, SqL.of eD, fun q o hq ho => ?_⟩
      have s6 := same_new (o := .frz o (.tup (((List.range n).filter (hangsA s n as)).map fun n : Nat => V.int n))) hq
      exact k _ _ (s5.trans s6) (.tup (.inl (.inr ⟨o, upd_same⟩)) (dpAll_mkn _))
end
end K46
/-! two places on both of which an operation hangs. -/
namespace K46
open PySem L2 FX SQ
def stepG {α : Type} (acc : List (List α)) (c : List α) : List (List α) := acc.flatMap fun r => c.map fun x => r ++ [x]
def rowsG {α : Type} (css : List (List α)) : List (List α) := css.foldl stepG [[]]
theorem rows_oD (css : List (List (Option Nat))) : rowsOf (css.map fun c => c.map oD) = (rowsG css).map fun r => r.map oD := by
  suffices h : ∀ acc : List (List (Option Nat)), (css.map fun c => c.map oD).foldl stepRows (acc.map fun r => r.map oD) = (css.foldl stepG acc).map fun r => r.map oD from h [[]]
  induction css with
  | nil => exact fun acc => rfl
  | cons c css ih =>
    intro acc
    rw [List.map_cons, List.foldl_cons, List.foldl_cons, ← ih]
    congr 1
    unfold stepRows stepG
    rw [List.flatMap_map, List.map_flatMap]
    congr 1
    funext r
    rw [List.map_map, List.map_map]
    congr 1
    funext x
    simp
def choiceO (s p o a : Nat) : List (Option Nat) := if a = p ∨ a = o then [none] else (List.range s).map some
def heldsO (s n p o : Nat) : List (List (Option Nat)) := rowsG ((List.range n).map (choiceO s p o))
def goodO (s : Nat) (as : List Nat) (c : Nat × Nat × List (Option Nat)) : Bool := decide ((hungN s 2 (heldAns s as c.2.2)).length = 2)
def candR (s n o p : Nat) : List (Nat × Nat × List (Option Nat)) := (heldsO s n p o).map fun h => (p, o, h)
def candP (s n o : Nat) : List (Nat × Nat × List (Option Nat)) := (List.range o).flatMap (candR s n o)
def twoN (s n : Nat) (as : List Nat) : Option (Nat × Nat × List (Option Nat)) := ((List.range n).flatMap (candP s n)).find? (goodO s as)
theorem flat_split {α : Type} (f : Nat → List α) {i n : Nat} (h : i < n) : ∃ rest, (List.range n).flatMap f = (List.range i).flatMap f ++ (f i ++ rest) := by
  obtain ⟨m, rfl⟩ : ∃ m, n = i + 1 + m := ⟨n - (i + 1), by omega⟩
  refine ⟨((List.range m).map (fun x => i + 1 + x)).flatMap f, ?_⟩
  rw [List.range_add, List.flatMap_append, List.range_succ, List.flatMap_append, List.append_assoc]
  congr 1
  simp
theorem flat_none {α : Type} (f : Nat → List α) (g : α → Bool) {i : Nat} (h1 : ((List.range i).flatMap f).find? g = none) (h2 : (f i).find? g = none) : ((List.range (i + 1)).flatMap f).find? g = none := by
  rw [List.range_succ, List.flatMap_append, List.find?_append, h1]
  simpa using h2
theorem find_at {α : Type} {g : α → Bool} {l1 l2 : List α} {x : α} (h : l1.find? g = none) (hx : g x = true) : (l1 ++ x :: l2).find? g = some x := by
  rw [List.find?_append, h, List.find?_cons, hx]
  rfl
theorem two_at {s n : Nat} {as : List Nat} {i j k : Nat} {h : List (Option Nat)} (hi : i < n) (hj : j < i) (hk : (heldsO s n j i)[k]? = some h) (g1 : ((List.range i).flatMap (candP s n)).find? (goodO s as) = none) (g2 : ((List.range j).flatMap (candR s n i)).find? (goodO s as) = none)
    (g3 : (((heldsO s n j i).take k).map fun h => (j, i, h)).find? (goodO s as) = none) (gd : goodO s as (j, i, h) = true) : twoN s n as = some (j, i, h) := by
  unfold twoN
  obtain ⟨r1, e1⟩ := flat_split (candP s n) hi
  obtain ⟨r2, e2⟩ := flat_split (candR s n i) hj
  have e3 : candR s n i j = (((heldsO s n j i).take k).map fun h => (j, i, h)) ++ (j, i, h) :: (((heldsO s n j i).drop (k + 1)).map fun h => (j, i, h)) := by
    unfold candR
    have : heldsO s n j i = (heldsO s n j i).take k ++ h :: (heldsO s n j i).drop (k + 1) := by
      obtain ⟨hlt, hh⟩ := List.getElem?_eq_some_iff.mp hk
      rw [← hh, ← List.drop_eq_getElem_cons hlt, List.take_append_drop]
    conv => lhs; rw [this]
    rw [List.map_append, List.map_cons]
  have e4 : candP s n i = (List.range j).flatMap (candR s n i) ++ (candR s n i j ++ r2) := e2
  rw [e1, e4, e3]
  rw [show ∀ (A B C R2 R1 : List (Nat × Nat × List (Option Nat))) (x : Nat × Nat × List (Option Nat)) (T : List (Nat × Nat × List (Option Nat))), A ++ (B ++ ((C ++ x :: T) ++ R2) ++ R1) = (A ++ (B ++ C)) ++ x :: (T ++ R2 ++ R1) from fun A B C R2 R1 x T => by simp]
  refine find_at ?_ gd
  rw [List.find?_append, g1, List.find?_append, g2, g3]
  rfl
/-- what is held: nothing at the two, values elsewhere -/
theorem all_lt {n : Nat} {p : Nat → Bool} (h : (List.range n).all p = true) {i : Nat} (hi : i < n) : p i = true := List.all_eq_true.mp h i (List.mem_range.mpr hi)
theorem helds_all : ((List.range 5).all fun s => (List.range 4).all fun n => (List.range n).all fun o => (List.range o).all fun p => decide ((heldsO s n p o).length ≤ 100) && (((List.range n).map (choiceO s p o)).all fun c => decide (c.length ≤ 8)) && ((heldsO s n p o).all fun h => decide (h.length = n) && decide ((rowsN (h.map (choiceN s))).length = s ^ 2))) = true := by decide +kernel
theorem helds_at {s n o p : Nat} (s5 : s < 5) (n4 : n < 4) (ho : o < n) (hp : p < o) : (heldsO s n p o).length ≤ 100 ∧ (∀ c ∈ (List.range n).map (choiceO s p o), c.length ≤ 8) ∧ ∀ h ∈ heldsO s n p o, h.length = n ∧ (rowsN (h.map (choiceN s))).length = s ^ 2 := by
  have h := all_lt (all_lt (all_lt (all_lt helds_all s5) n4) ho) hp
  simp only [Bool.and_eq_true, decide_eq_true_eq, List.all_eq_true] at h
  exact ⟨h.1.1, h.1.2, h.2⟩
theorem helds_lt {s n o p : Nat} {h : List (Option Nat)} (hh : h ∈ heldsO s n p o) : ∀ m, some m ∈ h → m < s := by
  unfold heldsO rowsG at hh
  suffices q : ∀ (css : List (List (Option Nat))) (acc : List (List (Option Nat))), (∀ c ∈ css, ∀ m, some m ∈ c → m < s) → (∀ r ∈ acc, ∀ m, some m ∈ r → m < s) → ∀ r ∈ css.foldl stepG acc, ∀ m, some m ∈ r → m < s by
    refine q _ _ (fun c hc m hm => ?_) (fun r hr m hm => ?_) h hh
    · obtain ⟨a, _, rfl⟩ := List.mem_map.mp hc
      unfold choiceO at hm
      split at hm
      · rw [List.mem_singleton] at hm
        cases hm
      · obtain ⟨b, hb, e⟩ := List.mem_map.mp hm
        cases e
        exact List.mem_range.mp hb
    · rw [List.mem_singleton] at hr
      subst hr
      cases hm
  intro css
  induction css with
  | nil => exact fun acc _ ha => ha
  | cons c css ih =>
    intro acc hc ha
    refine ih (stepG acc c) (fun c' h' => hc c' (List.mem_cons_of_mem _ h')) fun r hr m hm => ?_
    obtain ⟨r0, h0, h1⟩ := List.mem_flatMap.mp hr
    obtain ⟨x, hx, rfl⟩ := List.mem_map.mp h1
    rcases List.mem_append.mp hm with h2 | h2
    · exact ha r0 h0 m h2
    · rw [List.mem_singleton] at h2
      exact hc c (List.mem_cons_self ..) m (by rw [h2]; exact hx)
end K46
namespace K46
open PySem L2 FX SQ
def opT (o : Nat × List Nat) : D := .tuple [nD o.1, .tuple (o.2.map nD)]
theorem opT_is {s : Nat} {o : Nat × List Nat} (n1 : 1 ≤ o.1) (n3 : o.1 ≤ 3) (la : o.2.length = s ^ o.1) (h : ∀ a ∈ o.2, a < s) : OpIs s o.1 o.2 (opT o) := ⟨rfl, ⟨_, rfl, rfl, rfl⟩, n1, n3, la, h⟩
section
variable {P : Program} {w : World} {K : PySem.W.Frag} {mg : Str → Option Value} {base : Heap} {cO cS : Addr}
abbrev sTwo : Stmt := top 27
def spTwo (K : PySem.W.Frag) : Sp := fun vs H Q _ => ∃ (vo : V) (s n : Nat) (as : List Nat), vs = [.int s, vo] ∧ Dp K H vo (opT (n, as)) ∧ 2 ≤ s ∧ s < 5 ∧ 1 ≤ n ∧ n ≤ 3 ∧ as.length = s ^ n ∧ (∀ a ∈ as, a < s) ∧
  (twoN s n as = none → ∀ H', Same H H' → Q .non H') ∧
  ∀ p o h, twoN s n as = some (p, o, h) → p < o → o < n → h ∈ heldsO s n p o → goodO s as (p, o, h) = true → ∀ H' t vh, Same H H' → H' t = some (.tup [.int (p : Nat), .int (o : Nat), vh]) → Dp K H' vh (.tuple (h.map oD)) → Q (.ref t) H'
abbrev NTwo : List Str := ["size", "operation", "places", "answers", "other", "place", "choices", "held", "at"]
theorem scTwo : FnScope NTwo ["size", "operation"] (defScope sTwo) := ⟨rfl, rfl, rfl, by decide +kernel, rfl, by decide +kernel, by decide +kernel⟩
theorem ok_two {f fO fH fA fR : Addr} {fd fdO fdH fdA fdR : FuncData} (F : Fun K "two_places" "two_places" sTwo f fd) (Z : Bi mg) (FO : At K mg "need_operation" sNeedOp fO fdO ["size", "value"]) (GO : FnOk P w K mg base (L2.CX P w) 6 fO fdO ["size", "value"] (spNeedOp K cO cS))
    (FH : At K mg "hung_in" sHung fH fdH ["size", "places", "answers"]) (GH : FnOk P w K mg base CX0 3 fH fdH ["size", "places", "answers"] (spHung K)) (FA : At K mg "held_answers" sHeldA fA fdA ["answers", "sizes", "held"]) (GA : FnOk P w K mg base CX0 2 fA fdA ["answers", "sizes", "held"] (spHeldA K))
    (FR : At K mg "all_rows" sRows fR fdR ["choices"]) : FnOk P w K mg base CX0 7 f fd ["size", "operation"] (spTwo K) := by
  have GR : FnOk P w K mg base CX0 1 fR fdR ["choices"] (spRows K) := ok_rows FR.F
  refine F.ok scTwo (fun vs H Q E h => ?_) (fun cdv A outer sh H vs Q E hr h => ?_)
  · obtain ⟨vo, s, n, as, rfl, _⟩ := h
    rfl
  · obtain ⟨vo, s, n, as, rfl, hd, s2, s5, n1, n3, la, hlt, k0, k1⟩ := h
    refine ⟨_, pss_cons (ps_asg (pe_call GO (hr.mono (by decide)) rfl FO.g FO.F.kp FO.b .nil (pass_never rfl rfl) (by exact (pa_cons (pv 0) (pa_cons (pv 1) pa_nil)))) (pg_tup rfl (pgs_cons (pg_name (i := 2) scTwo.nd rfl (Or.inl rfl)) (pgs_cons (pg_name (i := 3) scTwo.nd rfl (Or.inl rfl)) pgs_nil))))
      (pss_cons (ps_for PassesOwn.never rfl (pi_range1 rfl Z.range (pa_cons (pv 2) pa_nil)) (pg_name (i := 4) scTwo.nd rfl (Or.inr rfl))
        (pss_one (ps_for PassesOwn.never rfl (pi_range1 rfl Z.range (pa_cons (pv 4) pa_nil)) (pg_name (i := 5) scTwo.nd rfl (Or.inr rfl))
          (pss_cons (ps_setLc (i := 6) (own := [("at", 8)]) (g := gName 8) (tt := tYes) (te := tIf (tTest (tOp (rIn K false) (tVar 8) (tTup (tCons (tVar 5) (tCons (tVar 4) tNil))))) (tLst (tCons (tC .non) tNil)) (tLstRg (tRg1 (tVar 0)))) rfl scTwo.nd rfl rfl (sw_true rfl rfl rfl (by decide +kernel)) (pi_range1 (by rfl) Z.range (pa_cons (pv 2) pa_nil)) (blkOk_by (N := NTwo) (sc := defScope sTwo) (by decide +kernel))
              (fun _ _ _ _ _ => pg_name (i := 8) scTwo.nd rfl (Or.inl rfl)) (fun _ _ _ _ _ => pts_nil)
              (fun _ _ _ _ _ => pe_ifExp (pt_cmpR op_in_seq (pv 8) (pe_tup (pa_cons (pv 5) (pa_cons (pv 4) pa_nil))) (by with_unfolding_all rfl)) (pe_lst (pa_cons pe_non pa_nil)) (pe_listRg rfl (by rfl) Z.list (prg_1 (by rfl) Z.range (pv 0)))))
          (pss_one (ps_for PassesOwn.never rfl (pi_list (pe_call GR (hr.mono (by decide)) rfl FR.g FR.F.kp FR.b .nil pass0 (by exact (pa_cons (pv 6) pa_nil)))) (pg_name (i := 7) scTwo.nd rfl (Or.inl rfl))
            (pss_one (ps_if (pt_cmpR op_eq (pe_callB call_len_seq (by rfl) Z.len PySem.boot_len (pa_cons (pe_call GH (hr.mono (by decide)) rfl FH.g FH.F.kp FH.b .nil pass0 (by exact (pa_cons (pv 0) (pa_cons pe_int (pa_cons (pe_call GA (hr.mono (by decide)) rfl FA.g FA.F.kp FA.b .nil pass0 (by exact (pa_cons (pv 3) (pa_cons (pe_op op_rep (pe_lst (by exact (pa_cons (pv 0) pa_nil))) (pv 2)) (pa_cons (pv 7) pa_nil))))) pa_nil))))) pa_nil)) pe_int (nomark _))
              (pss_one (ps_ret (pe_tup (by exact (pa_cons (pv 5) (pa_cons (pv 4) (pa_cons (pv 7) pa_nil))))))) pss_nil))))))))
      (pss_one (ps_ret pe_non))), ?_⟩
    have O := opT_is (o := (n, as)) n1 n3 la hlt
    refine ⟨_, rfl, _, rfl, .int s, vo, nD s, opT (n, as), rfl, .int _, hd, fun e => absurd ((bt_nat s2 (by omega : s ≤ 8)).symm.trans e) (by decide), fun _ e => absurd (O.table.symm.trans e) (by decide), fun _ _ H1 v1 s1 d1 => ?_⟩
    rw [O.op] at d1
    obtain ⟨ap, xp, rfl, qp, rp⟩ := dp_tup d1
    obtain ⟨va, rfl, da⟩ : ∃ va, xp = [.int (n : Int), va] ∧ Dp K H1 va (.tuple (as.map nD)) := by
      cases rp with
      | cons h0 r => cases r with
        | cons h1 r => cases r with
          | nil =>
            cases h0
            exact ⟨_, rfl, h1⟩
    refine ⟨ap, _, rfl, qp, rfl, _, _, rfl, _, _, rfl, rfl, ?_⟩
    refine ⟨_, rfl, n, rfl, by omega, by omega, ?_⟩
    rw [Int.toNat_natCast]
    refine for_range (n := n) (fun i σ H' => ∃ u4 u5 u6 u7 : Option V, σ = [some (.int s), some vo, some (.int (n : Nat)), some va, u4, u5, u6, u7, none] ∧ Same H1 H' ∧ ((List.range i).flatMap (candP s n)).find? (goodO s as) = none)
      ⟨none, none, none, none, rfl, Same.refl H1, rfl⟩ ?_ ?_
    · rintro i σ H2 hi ⟨u4, u5, u6, u7, rfl, s2', g1⟩
      refine ⟨_, rfl, (i : Int), by show [V.int (0 + (i : Int))] = [V.int (i : Int)]; rw [Int.zero_add], by omega, by omega, ?_⟩
      rw [Int.toNat_natCast]
      refine for_range (n := i) (fun j σ H' => ∃ u5 u6 u7 : Option V, σ = [some (.int s), some vo, some (.int (n : Nat)), some va, some (.int (0 + (i : Int))), u5, u6, u7, none] ∧ Same H1 H' ∧ ((List.range j).flatMap (candR s n i)).find? (goodO s as) = none)
        ⟨u5, u6, u7, rfl, s2', rfl⟩ ?_ ?_
      · rintro j σ H3 hj ⟨u5, u6, u7, rfl, s3, g2⟩
        obtain ⟨l100, c8, hh⟩ := helds_at s5 (by omega : n < 4) hi hj
        refine ⟨_, rfl, n, rfl, by omega, by omega, ?_⟩
        rw [Int.toNat_natCast]
        refine fun D hD => walk_it walk_range (fun a H' => Same H3 H' ∧ Grow K H' D ((List.range a).map fun a => .list ((choiceO s j i a).map oD))) ⟨same_new hD, Grow.nil⟩ (fun _ _ _ _ => trivial) ?_ ?_
        · rintro a x _ H4 ha ⟨s4, g4⟩ ⟨rfl, ex⟩
          obtain rfl := int_nat0 ex
          refine ⟨rfl, ?_⟩
          refine ⟨_, rfl, _, rfl, _, rfl, (by show 2 ≤ sizeLine; decide), fun t ht => ⟨t, _, rfl, .inr (SqT.of upd_same), rfl, rfl, _, rfl, ?_⟩⟩
          have s5' := same_new (o := .tup [.int (0 + (j : Int)), .int (0 + (i : Int))]) ht
          obtain ⟨acc, eD, _⟩ := id g4
          have lacc := g4.len eD
          rw [List.length_map, List.length_range] at lacc
          have nT := ne_of_none eD ht
          have eD2 := s5' _ _ eD
          have g5 := g4.keep s5'
          have et : (List.range (a + 1)).map (fun a => PyData.list ((choiceO s j i a).map oD)) = ((List.range a).map fun a => PyData.list ((choiceO s j i a).map oD)) ++ [.list ((choiceO s j i a).map oD)] := by
            rw [List.range_succ, List.map_append]
            rfl
          have fin : ∀ (L : Addr) (ys : List V), (upd H4 t (.tup [.int (0 + (j : Int)), .int (0 + (i : Int))])) L = none → (∀ H' : Hp, DpAll K H' ys ((choiceO s j i a).map oD)) →
              ∃ acc, (upd (upd H4 t (.tup [.int (0 + (j : Int)), .int (0 + (i : Int))])) L (.lst ys)) D = some (.lst acc) ∧ acc.length < sizeLine ∧ (Same H3 (upd (upd (upd H4 t (.tup [.int (0 + (j : Int)), .int (0 + (i : Int))])) L (.lst ys)) D (.lst (acc ++ [.ref L]))) ∧ Grow K (upd (upd (upd H4 t (.tup [.int (0 + (j : Int)), .int (0 + (i : Int))])) L (.lst ys)) D (.lst (acc ++ [.ref L]))) D ((List.range (a + 1)).map fun a => .list ((choiceO s j i a).map oD))) := by
            intro L ys hL hy
            have nL : D ≠ L := ne_of_none eD2 hL
            have eD3 : (upd (upd H4 t (.tup [.int (0 + (j : Int)), .int (0 + (i : Int))])) L (.lst ys)) D = some (.lst acc) := by rw [upd_ne nL]; exact eD2
            refine ⟨acc, eD3, by rw [lacc, sizeLine_eq]; omega, same_of (s4.trans (s5'.trans (same_new hL))) hD, ?_⟩
            rw [et]
            exact (g5.keep (same_new hL)).put eD3 (.lst (SqL.of (by rw [off_ne (Ne.symm nL), upd_same])) (hy _))
          by_cases hc : a = j ∨ a = i
          · refine go_t ?_ ?_
            · rcases hc with rfl | rfl <;> simp [inV, eqV]
            · refine ⟨(by show 1 ≤ sizeLine; decide), fun L hL => ?_⟩
              refine fin L _ hL fun H' => ?_
              have : choiceO s j i a = [none] := by unfold choiceO; rw [if_pos hc]
              rw [this]
              exact .cons .non .nil
          · refine go_f ?_ ?_
            · simp [inV, eqV]
              omega
            · refine ⟨_, rfl, _, rfl, RgOk.of_le (by omega) (by omega) (by omega) (by omega), fun L hL => ?_⟩
              have er : rgV 0 (s : Int) = (List.range s).map fun n : Nat => V.int n := by
                unfold rgV
                rw [Int.sub_zero, Int.toNat_natCast]
                exact List.map_congr_left fun n _ => by rw [Int.zero_add]
              rw [er]
              refine fin L _ hL fun H' => ?_
              have : choiceO s j i a = (List.range s).map some := by unfold choiceO; rw [if_neg hc]
              rw [this, List.map_map]
              exact dpAll_mkn _
        rintro H4 ⟨s4, g4⟩
        have dch : Dp K H4 (.ref D) (.list ((((List.range n).map (choiceO s j i)).map fun c => c.map oD).map .list)) := by
          rw [List.map_map, List.map_map]
          exact g4.dp
        refine ⟨_, rfl, .ref D, ((List.range n).map (choiceO s j i)).map (fun c => c.map oD), rfl, dch, by rw [List.length_map, List.length_map, List.length_range]; omega, fun c hc => ?_, fun H5 wv s5' dw => ?_⟩
        · obtain ⟨c0, h0, rfl⟩ := List.mem_map.mp hc
          rw [List.length_map]
          exact c8 c0 h0
        rw [rows_oD, List.map_map] at dw
        obtain ⟨aw, xw, rfl, qw, rw'⟩ := dp_list dw
        have lw : xw.length = (heldsO s n j i).length := by rw [dpAll_len rw', List.length_map]; rfl
        have s05 := s3.trans (s4.trans s5')
        refine ⟨aw, rfl, ⟨_, qw⟩, for_list (K := K) (a := aw) (xs := xw) (fun k σ H' => ∃ u7 : Option V, σ = [some (.int s), some vo, some (.int (n : Nat)), some va, some (.int (0 + (i : Int))), some (.int (0 + (j : Int))), some (.ref D), u7, none] ∧ Same H5 H' ∧ (((heldsO s n j i).take k).map fun h => (j, i, h)).find? (goodO s as) = none)
          ⟨u7, rfl, Same.refl H5, rfl⟩ (fun k σ H' _ h => by obtain ⟨_, _, s', _⟩ := h; exact s'.seq qw) ?_ ?_⟩
        · rintro k x σ H6 hx ⟨u7, rfl, s6, g3⟩
          obtain ⟨dr, hr', hxd⟩ := dpAll_get rw' hx
          obtain ⟨h, hk, rfl⟩ : ∃ h, (heldsO s n j i)[k]? = some h ∧ dr = .tuple (h.map oD) := by
            rw [List.getElem?_map] at hr'
            unfold heldsO
            cases e : (rowsG ((List.range n).map (choiceO s j i)))[k]? with
            | none =>
              rw [e] at hr'
              cases hr'
            | some c =>
              rw [e] at hr'
              exact ⟨c, rfl, (Option.some.inj hr').symm⟩
          have hm := List.mem_of_getElem? hk
          obtain ⟨hn, h2⟩ := hh h hm
          have s06 := s05.trans s6
          refine ⟨_, rfl, _, rfl, _, rfl, (by show 1 ≤ sizeLine; decide), fun l hl => ⟨_, rfl, l, _, _, rfl, rfl, upd_same, by omega, by omega, ?_, fun l2 hl2 => ?_⟩⟩
          · rw [Int.toNat_natCast, sizeLine_eq]
            show 1 * n ≤ _
            omega
          rw [rep_flat]
          have s7 := (same_new (o := .lst [V.int (s : Int)]) hl).trans (same_new (o := .lst ((List.replicate n s).map fun n : Nat => V.int n)) hl2)
          have dz : Dp K (upd (upd H6 l (.lst [V.int (s : Int)])) l2 (.lst ((List.replicate n s).map fun n : Nat => V.int n))) (.ref l2) (.list ((List.replicate h.length s).map nD)) := by
            rw [hn]
            exact .lst (SqL.of upd_same) (dpAll_mkn _)
          refine ⟨_, rfl, va, .ref l2, x, s, as, h, rfl, dp_same (s06.trans s7) da, dz, .inr (dp_same (s6.trans s7) hxd), by omega, by omega, helds_lt hm, by rw [hn]; exact la, fun H8 v8 s8 d8 _ => ?_⟩
          refine ⟨v8, s, 2, heldAns s as h, rfl, d8, s2, by omega, by omega, by unfold heldAns; rw [List.length_map]; exact h2, fun H9 v9 s9 d9 => ?_⟩
          obtain ⟨a9, x9, rfl, q9, r9⟩ := dp_tup d9
          have l9 : x9.length = (hungN s 2 (heldAns s as h)).length := by rw [dpAll_len r9, List.length_map]
          have s69 := s7.trans (s8.trans s9)
          refine ⟨a9, x9, rfl, .inr q9, rfl, _, rfl, ?_⟩
          by_cases hg : (hungN s 2 (heldAns s as h)).length = 2
          · refine go_t (by rw [l9, hg]; rfl) ?_
            have gd : goodO s as (j, i, h) = true := decide_eq_true hg
            refine ⟨_, rfl, _, rfl, _, rfl, (by show 3 ≤ sizeLine; decide), fun t ht => ?_⟩
            have s10 := same_new (o := .tup [.int (0 + (j : Int)), .int (0 + (i : Int)), x]) ht
            refine k1 j i h (two_at hi hj hk g1 g2 g3 gd) hj hi hm gd _ t x (s1.trans (s06.trans (s69.trans s10))) ?_ (dp_same (s6.trans (s69.trans s10)) hxd)
            rw [upd_same, Int.zero_add, Int.zero_add]
          · refine go_f (by rw [l9]; simp; omega) ?_
            refine ⟨_, rfl, s6.trans s69, ?_⟩
            rw [take_more hk, List.map_append, List.find?_append, g3]
            show (List.find? (goodO s as) [(j, i, h)]) = none
            rw [List.find?_cons]
            have : goodO s as (j, i, h) = false := decide_eq_false hg
            rw [this]
            rfl
        · rintro σ H6 ⟨u7, rfl, s6, g3⟩
          refine ⟨_, _, _, rfl, s05.trans s6, flat_none _ _ g2 ?_⟩
          rw [lw, List.take_length] at g3
          exact g3
      · rintro σ H3 ⟨u5, u6, u7, rfl, s3, g2⟩
        exact ⟨_, _, _, _, rfl, s3, flat_none _ _ g1 g2⟩
    · rintro σ H2 ⟨u4, u5, u6, u7, rfl, s2', g1⟩
      exact k0 g1 H2 (s1.trans s2')
end
end K46
/-! How many unlike ones a tuple of ints has; what None and an int are written as. -/
namespace SQ
open PySem PySem.Spec PyProof.Rows L2
theorem one_iff {ns : List Int} {ks : List Int} (nd : ks.Nodup) (he : ∀ k, k ∈ ns ↔ k ∈ ks) (ne : ns ≠ []) : ks.length = 1 ↔ ∀ y ∈ ns, y = ns.headD 0 := by
  cases ns with
  | nil => exact absurd rfl ne
  | cons a r =>
    constructor
    · intro h y hy
      match ks, h with
      | [k], _ =>
        have h1 := (he y).mp hy
        have h2 := (he a).mp (List.mem_cons_self ..)
        rw [List.mem_singleton] at h1 h2
        rw [h1]
        exact h2.symm
    · intro h
      match ks, nd, he with
      | [], _, he => exact absurd ((he a).mp (List.mem_cons_self ..)) (by simp)
      | [k], _, _ => rfl
      | k :: k2 :: t, nd, he =>
        have e1 := h k ((he k).mpr (List.mem_cons_self ..))
        have e2 := h k2 ((he k2).mpr (List.mem_cons_of_mem _ (List.mem_cons_self ..)))
        rw [List.nodup_cons] at nd
        exact absurd (by rw [e1, e2]; exact List.mem_cons_self ..) nd.1
def tLenSetT (K : PySem.W.Frag) (ta : TE) : TE := fun σ H Q => ta σ H fun x H1 => ∃ (l : Addr) (ns : List Int), x = .ref l ∧ SqT K H1 l (ns.map V.int) ∧ ns.length ≤ 4000 ∧ ∀ m : Nat, (ns ≠ [] → (m = 1 ↔ ∀ y ∈ ns, y = ns.headD 0)) → Q (.int (m : Nat)) H1
theorem pe_lenSetT {X : Cx} {a : Expr} {ta : TE} {p p2 q pos : Pos} (hg : Gl X "len") (hm : X.mg "len" = none) (hg2 : Gl X "set") (hm2 : X.mg "set" = none) (ha : PE X a ta) (hc : X.calm = true := by rfl)
    (na : starEach [a] X.env = (false, eval a X.env) :: starEach [] X.env := by rfl) : PE X (.Call (.Name "len" p) [.Call (.Name "set" p2) [a] [] q] [] pos) (tLenSetT X.K ta) := by
  refine ⟨fun pins s σ H Q I h => Call_ (ld_blt I hg hm boot_len (PyProof.Rows.callWith_builtin1 (PyProof.Rows.args_cons ?_ rfl) rfl rfl))⟩
  refine Call_ (ld_blt I hg2 hm2 boot_set (PyProof.Rows.callWith_type1 (PyProof.Rows.args_cons (thn (ha.run pins s σ H _ I h) ?_) na) na rfl))
  rintro v s1 ⟨x, H1, I1, r1, l, ns, rfl, hq, few, k⟩
  refine PyProof.Rows.args_nil ?_
  obtain rfl : v = Value.ref l := r1
  obtain ⟨its, r, pl, hz⟩ := I1.tuple hq
  refine call_set_tupI ns (I1.ok.hd hc) pl (by simpa using ints_of_vals r) (by unfold scanBound; omega) ?_
  intro h' tk c R hc' hk
  refine PyProof.Rows.args_nil ?_
  obtain ⟨o, es, ep, t, ho, hex, hd, _, nd, mem, _, hf, hn, _⟩ := R
  have I2 : Inv X pins σ H1 { s1 with heap := h', toks := tk } := I1.kept hk
  refine call_len_set ho hex hd hf (by omega) ⟨.int es.size, H1, I2.tok _, ⟨_, rfl⟩, k es.size fun ne => ?_⟩
  have := one_iff (ns := ns) (ks := es.toList.map keyOf) nd (fun k => by
    rw [← mem k]
    simp) ne
  rw [List.length_map, Array.length_toList] at this
  exact this
/-- what None, an int are written as -/
def reprV : V → Option Str
  | .non => some "None"
  | .int i => some (toString i)
  | _ => none
def rRepr : List V → Hp → VK → Prop := fun vs H Q => (vs = [.non] ∧ Q (.str "None") H) ∨ ∃ i : Int, vs = [.int i] ∧ i.natAbs.log2 < 1920 ∧ Q (.str (toString i)) H
theorem cr_repr {X : Cx} : CallR X (.builtin "repr") rRepr := by
  intro pins s σ H vs us Q I r h
  rcases h with ⟨rfl, q⟩ | h
  · obtain ⟨u, rfl, ru⟩ := vals1 r
    obtain rfl : u = Value.none := ru
    exact PySem.P.repr_of_none ⟨.str _, H, I.tok _, ⟨_, rfl⟩, q⟩
  · obtain ⟨i, rfl, hz, q⟩ := h
    obtain ⟨u, rfl, t, rfl⟩ := vals1 r
    exact PySem.P.repr_of_int hz ⟨.str _, H, I.tok _, ⟨_, rfl⟩, q⟩
end SQ
/-! at what an operation looks. -/
namespace SQ
open PySem PySem.Spec PyProof.Rows L2
theorem len_le_of {ks : List Int} : ∀ {ns : List Int}, ks.Nodup → (∀ k ∈ ks, k ∈ ns) → ks.length ≤ ns.length := by
  induction ks with
  | nil => exact fun _ _ => Nat.zero_le _
  | cons a t ih =>
    intro ns nd hs
    rw [List.nodup_cons] at nd
    have ha := hs a (List.mem_cons_self ..)
    have h1 := ih (ns := ns.erase a) nd.2 fun k hk => (List.mem_erase_of_ne (fun e => nd.1 (by rw [← e]; exact hk))).mpr (hs k (List.mem_cons_of_mem _ hk))
    rw [List.length_erase_of_mem ha] at h1
    have h2 := List.length_pos_of_mem ha
    rw [List.length_cons]
    omega
theorem less_of {ns : List Int} (h : ¬ ns.Nodup) : ∃ ms : List Int, ms.length + 1 = ns.length ∧ ∀ k ∈ ns, k ∈ ms := by
  induction ns with
  | nil => exact absurd List.nodup_nil h
  | cons a r ih =>
    by_cases ha : a ∈ r
    · exact ⟨r, rfl, fun k hk => by
        rcases List.mem_cons.mp hk with e | e
        · rw [e]
          exact ha
        · exact e⟩
    · obtain ⟨ms, h1, h2⟩ := ih fun q => h (List.nodup_cons.mpr ⟨ha, q⟩)
      exact ⟨a :: ms, by rw [List.length_cons, List.length_cons, h1], fun k hk => by
        rcases List.mem_cons.mp hk with e | e
        · rw [e]
          exact List.mem_cons_self ..
        · exact List.mem_cons_of_mem _ (h2 k e)⟩
theorem all_iff {ns ks : List Int} (nd : ks.Nodup) (he : ∀ k, k ∈ ns ↔ k ∈ ks) : ks.length = ns.length ↔ ns.Nodup := by
  constructor
  · intro h
    by_cases q : ns.Nodup
    · exact q
    · obtain ⟨ms, h1, h2⟩ := less_of q
      have := len_le_of (ns := ms) nd fun k hk => h2 k ((he k).mpr hk)
      omega
  · intro h
    have h1 := len_le_of nd fun k hk => (he k).mpr hk
    have h2 := len_le_of h fun k hk => (he k).mp hk
    omega
def tLenSetN (K : PySem.W.Frag) (ta : TE) : TE := fun σ H Q => ta σ H fun x H1 => ∃ (l : Addr) (ns : List Int), x = .ref l ∧ SqT K H1 l (ns.map V.int) ∧ ns.length ≤ 4000 ∧ ∀ m : Nat, (m = ns.length ↔ ns.Nodup) → Q (.int (m : Nat)) H1
theorem pe_lenSetN {X : Cx} {a : Expr} {ta : TE} {p p2 q pos : Pos} (hg : Gl X "len") (hm : X.mg "len" = none) (hg2 : Gl X "set") (hm2 : X.mg "set" = none) (ha : PE X a ta) (hc : X.calm = true := by rfl)
    (na : starEach [a] X.env = (false, eval a X.env) :: starEach [] X.env := by rfl) : PE X (.Call (.Name "len" p) [.Call (.Name "set" p2) [a] [] q] [] pos) (tLenSetN X.K ta) := by
  refine ⟨fun pins s σ H Q I h => Call_ (ld_blt I hg hm boot_len (PyProof.Rows.callWith_builtin1 (PyProof.Rows.args_cons ?_ rfl) rfl rfl))⟩
  refine Call_ (ld_blt I hg2 hm2 boot_set (PyProof.Rows.callWith_type1 (PyProof.Rows.args_cons (thn (ha.run pins s σ H _ I h) ?_) na) na rfl))
  rintro v s1 ⟨x, H1, I1, r1, l, ns, rfl, hq, few, k⟩
  refine PyProof.Rows.args_nil ?_
  obtain rfl : v = Value.ref l := r1
  obtain ⟨its, r, pl, hz⟩ := I1.tuple hq
  refine call_set_tupI ns (I1.ok.hd hc) pl (by simpa using ints_of_vals r) (by unfold scanBound; omega) ?_
  intro h' tk c R hc' hk
  refine PyProof.Rows.args_nil ?_
  obtain ⟨o, es, ep, t, ho, hex, hd, _, nd, mem, _, hf, hn, _⟩ := R
  have I2 : Inv X pins σ H1 { s1 with heap := h', toks := tk } := I1.kept hk
  refine call_len_set ho hex hd hf (by omega) ⟨.int es.size, H1, I2.tok _, ⟨_, rfl⟩, k es.size ?_⟩
  have := all_iff (ns := ns) (ks := es.toList.map keyOf) nd (fun k => by
    rw [← mem k]
    simp)
  rw [List.length_map, Array.length_toList] at this
  exact this
end SQ
namespace K46
open PySem L2 FX SQ
def oneO (n p : Nat) : List (Option Nat) := (List.range n).map fun a => if a = p then none else some 0
def lookD (s n : Nat) (as : List Nat) : D := match hungN s n as with
  | [] => .tuple [.str "constant", nD (as.getD 0 0)]
  | [p] => .tuple [.str "one", nD p, .tuple ((heldAns s as (oneO n p)).map nD)]
  | _ => match twoN s n as with
    | some (p, o, h) => .tuple [.str "two", nD p, nD o, .tuple (h.map oD)]
    | none => .none
/-- sizes and places that are asked for -/
def Op (s n : Nat) (as : List Nat) : Prop := 2 ≤ s ∧ s < 5 ∧ 1 ≤ n ∧ n ≤ 3 ∧ as.length = s ^ n ∧ (∀ a ∈ as, a < s) ∧ (2 ≤ (hungN s n as).length → twoN s n as ≠ none)
section
variable {P : Program} {w : World} {K : PySem.W.Frag} {mg : Str → Option Value} {base : Heap} {cO cS : Addr}
abbrev sLook : Stmt := top 29
def spLook (K : PySem.W.Frag) : Sp := fun vs H Q _ => ∃ (vo : V) (s n : Nat) (as : List Nat), vs = [.int s, vo] ∧ Dp K H vo (opT (n, as)) ∧ Op s n as ∧ ∀ H' v, Same H H' → Dp K H' v (lookD s n as) → Q v H'
abbrev NLook : List Str := ["size", "operation", "places", "answers", "hung", "held", "place"]
theorem scLook : FnScope NLook ["size", "operation"] (defScope sLook) := ⟨rfl, rfl, rfl, by decide +kernel, rfl, by decide +kernel, by decide +kernel⟩
theorem dpT_op {H : Hp} {v : V} {n : Nat} {as : List Nat} (h : Dp K H v (opT (n, as))) : ∃ a va, v = .ref a ∧ SqT K H a [.int (n : Nat), va] ∧ Dp K H va (.tuple (as.map nD)) := by
  obtain ⟨a, x, rfl, q, r⟩ := dp_tup h
  cases r with
  | cons h0 r => cases r with
    | cons h1 r => cases r with
      | nil =>
        cases h0
        exact ⟨a, _, rfl, q, h1⟩
theorem hung_lt {s n : Nat} {as : List Nat} : ∀ p ∈ hungN s n as, p < n := fun p hp => List.mem_range.mp (List.mem_filter.mp hp).1
theorem hung_few {s n : Nat} {as : List Nat} : (hungN s n as).length ≤ n := by
  have := List.length_filter_le (hangsA s n as) (List.range n)
  rw [List.length_range] at this
  exact this
theorem ok_look {f fH fA fT : Addr} {fd fdH fdA fdT : FuncData} (F : Fun K "look_of" "look_of" sLook f fd) (Z : Bi mg) (FH : At K mg "hung_in" sHung fH fdH ["size", "places", "answers"]) (GH : FnOk P w K mg base CX0 3 fH fdH ["size", "places", "answers"] (spHung K))
    (FA : At K mg "held_answers" sHeldA fA fdA ["answers", "sizes", "held"]) (GA : FnOk P w K mg base CX0 2 fA fdA ["answers", "sizes", "held"] (spHeldA K)) (FT : At K mg "two_places" sTwo fT fdT ["size", "operation"]) (GT : FnOk P w K mg base CX0 7 fT fdT ["size", "operation"] (spTwo K)) :
    FnOk P w K mg base CX0 8 f fd ["size", "operation"] (spLook K) := by
  refine F.ok scLook (fun vs H Q E h => ?_) (fun cdv A outer sh H vs Q E hr h => ?_)
  · obtain ⟨vo, s, n, as, rfl, _⟩ := h
    rfl
  · obtain ⟨vo, s, n, as, rfl, hd, ⟨s2, s5, n1, n3, la, hlt, hw⟩, k⟩ := h
    refine ⟨_, pss_cons (ps_asg (pv 1) (pg_tup rfl (pgs_cons (pg_name (i := 2) scLook.nd rfl (Or.inl rfl)) (pgs_cons (pg_name (i := 3) scLook.nd rfl (Or.inl rfl)) pgs_nil))))
      (pss_cons (ps_set (i := 4) scLook.nd rfl (Or.inr rfl) (pe_call GH (hr.mono (by decide)) rfl FH.g FH.F.kp FH.b .nil pass0 (by exact (pa_cons (pv 0) (pa_cons (pv 2) (pa_cons (pv 3) pa_nil))))))
      (pss_cons (ps_if (pt_cmpR op_eq (pe_callB call_len_seq (by rfl) Z.len PySem.boot_len (pa_cons (pv 4) pa_nil)) pe_int (nomark _)) (pss_one (ps_ret (pe_tup (by exact (pa_cons pe_str (pa_cons (pe_ix ix_tup (pv 3) pe_int (fun _ _ => rfl)) pa_nil)))))) pss_nil)
      (pss_cons (ps_if (pt_cmpR op_eq (pe_callB call_len_seq (by rfl) Z.len PySem.boot_len (pa_cons (pv 4) pa_nil)) pe_int (nomark _))
        (pss_cons (ps_setLc (i := 5) (own := [("place", 6)]) (g := gName 6) (tt := tYes) (te := tIf (tTest (tOp (rIn K false) (tVar 6) (tVar 4))) (tC .non) (tC (.int 0))) rfl scLook.nd rfl rfl (sw_true rfl rfl rfl (by decide +kernel)) (pi_range1 (by rfl) Z.range (pa_cons (pv 2) pa_nil)) (blkOk_by (N := NLook) (sc := defScope sLook) (by decide +kernel))
              (fun _ _ _ _ _ => pg_name (i := 6) scLook.nd rfl (Or.inl rfl)) (fun _ _ _ _ _ => pts_nil)
              (fun _ _ _ _ _ => pe_ifExp (pt_cmpR op_in_seq (pv 6) (pv 4) (by with_unfolding_all rfl)) pe_non pe_int))
        (pss_one (ps_ret (pe_tup (by exact (pa_cons pe_str (pa_cons (pe_ix ix_tup (pv 4) pe_int (fun _ _ => rfl)) (pa_cons (pe_call GA (hr.mono (by decide)) rfl FA.g FA.F.kp FA.b .nil pass0 (by exact (pa_cons (pv 3) (pa_cons (pe_op op_rep (pe_lst (by exact (pa_cons (pv 0) pa_nil))) (pv 2)) (pa_cons (pv 5) pa_nil))))) pa_nil)))))))) pss_nil)
      (pss_one (ps_ret (pe_tup (by exact (pa_cons pe_str (StX.pa_star (pe_call GT (hr.mono (by decide)) rfl FT.g FT.F.kp FT.b .nil pass0 (by exact (pa_cons (pv 0) (pa_cons (pv 1) pa_nil)))) pa_nil))))))))), ?_⟩
    obtain ⟨ao, va, rfl, qo, da⟩ := dpT_op hd
    refine ⟨_, rfl, ao, _, rfl, qo, rfl, _, _, rfl, _, _, rfl, rfl, ?_⟩
    refine ⟨_, rfl, _, rfl, _, rfl, va, s, n, as, rfl, da, s2, by omega, n3, la, fun H1 v1 s1 d1 => ?_⟩
    obtain ⟨ah, xh, rfl, qh, rh⟩ := dp_tup d1
    obtain rfl := dpAll_eqn rh
    refine ⟨_, rfl, ah, _, rfl, .inr qh, rfl, _, rfl, ?_⟩
    have hf := hung_few (s := s) (n := n) (as := as)
    have hl := hung_lt (s := s) (n := n) (as := as)
    have l1 : 0 < s ^ n := Nat.pow_pos (by omega)
    obtain ⟨aa, xa, rfl, qa, ra⟩ := dp_tup da
    obtain rfl := dpAll_eqn ra
    unfold lookD at k
    match hh : hungN s n as with
    | [] =>
      rw [hh] at k
      refine go_t rfl ?_
      have e0 : as.getD 0 0 = as[0]'(by omega) := by rw [List.getD_eq_getElem?_getD, List.getElem?_eq_getElem (by omega)]; rfl
      refine ⟨_, rfl, aa, _, _, .int (as[0]'(by omega) : Nat), rfl, rfl, seqT s1 qa, atI_nat (j := 0) (by rw [List.getElem?_map, List.getElem?_eq_getElem (by omega)]; rfl), (by show 2 ≤ sizeLine; decide), fun t ht => ?_⟩
      have s2' := same_new (o := .tup [.str "constant", .int (as[0]'(by omega) : Nat)]) ht
      refine k _ _ (s1.trans s2') ?_
      show Dp K _ _ (.tuple [.str "constant", nD (as.getD 0 0)])
      rw [e0]
      exact .tup (SqT.of upd_same) (.cons (.str _) (.cons (.int _) .nil))
    | [p] =>
      rw [hh] at k qh hl
      have hpn : p < n := hl p (List.mem_singleton.mpr rfl)
      refine go_f rfl ?_
      refine ⟨_, rfl, ah, _, rfl, .inr qh, rfl, _, rfl, ?_⟩
      refine go_t rfl ?_
      refine ⟨_, rfl, n, rfl, by omega, by omega, ?_⟩
      rw [Int.toNat_natCast]
      refine fun D hD => walk_it walk_range (fun a H' => Same H1 H' ∧ H' D = some (.lst ((List.range a).map fun a => if a = p then V.non else V.int 0))) ⟨same_new hD, upd_same⟩ (fun _ _ _ _ => trivial) ?_ ?_
      · rintro a x _ H4 ha ⟨s4, eD⟩ ⟨rfl, ex⟩
        obtain rfl := int_nat0 ex
        refine ⟨rfl, ?_⟩
        refine ⟨_, rfl, _, rfl, ah, _, rfl, .inr (seqT s4 qh), rfl, rfl, _, rfl, ?_⟩
        have fin : ∀ v, v = (if a = p then V.non else V.int 0) → ∃ acc, H4 D = some (.lst acc) ∧ acc.length < sizeLine ∧ (Same H1 (upd H4 D (.lst (acc ++ [v]))) ∧ (upd H4 D (.lst (acc ++ [v]))) D = some (.lst ((List.range (a + 1)).map fun a => if a = p then V.non else V.int 0))) := by
          rintro v rfl
          refine ⟨_, eD, by rw [List.length_map, List.length_range, sizeLine_eq]; omega, same_of s4 hD, ?_⟩
          rw [upd_same, List.range_succ, List.map_append]
          rfl
        by_cases hc : a = p
        · refine go_t (by simp [inV, eqV, hc]) ?_
          exact fin _ (by rw [if_pos hc])
        · refine go_f (by simp [inV, eqV]; omega) ?_
          exact fin _ (by rw [if_neg hc])
      rintro H4 ⟨s4, eD⟩
      have oneD : ∀ (H' : Hp) (l : List Nat), DpAll K H' (l.map fun a => if a = p then V.non else V.int 0) ((l.map fun a => if a = p then none else some 0).map oD) := fun H' l => by
        induction l with
        | nil => exact .nil
        | cons a l ih =>
          by_cases hc : a = p
          · rw [List.map_cons, List.map_cons, List.map_cons, if_pos hc, if_pos hc]
            exact .cons .non ih
          · rw [List.map_cons, List.map_cons, List.map_cons, if_neg hc, if_neg hc]
            exact .cons (.int _) ih
      have s14 := s1.trans s4
      refine ⟨_, rfl, ah, _, _, .int (p : Nat), rfl, rfl, seqT s4 qh, atI_nat (j := 0) rfl, _, rfl, _, rfl, (by show 1 ≤ sizeLine; decide), fun l hl => ⟨_, rfl, l, _, _, rfl, rfl, upd_same, by omega, by omega, ?_, fun l2 hl2 => ?_⟩⟩
      · rw [Int.toNat_natCast, sizeLine_eq]
        show 1 * n ≤ _
        omega
      rw [rep_flat]
      have s7 := (same_new (o := .lst [V.int (s : Int)]) hl).trans (same_new (o := .lst ((List.replicate n s).map fun n : Nat => V.int n)) hl2)
      have ln : (oneO n p).length = n := by unfold oneO; rw [List.length_map, List.length_range]
      refine ⟨_, rfl, .ref aa, .ref l2, .ref D, s, as, oneO n p, rfl, dp_same (s14.trans s7) da, .lst (SqL.of upd_same) (by rw [ln]; exact dpAll_mkn _), .inl (.lst (SqL.of (s7 _ _ eD)) (oneD _ _)), by omega, by omega, fun m hm => ?_, by rw [ln]; exact la, fun H8 v8 s8 d8 _ => ⟨(by show 3 ≤ sizeLine; decide), fun t ht => ?_⟩⟩
      · unfold oneO at hm
        obtain ⟨a, _, e⟩ := List.mem_map.mp hm
        split at e
        · cases e
        · cases e
          omega
      have s9 := same_new (o := .tup [.str "one", .int (p : Nat), v8]) ht
      exact k _ _ (s14.trans (s7.trans (s8.trans s9))) (.tup (SqT.of upd_same) (.cons (.str _) (.cons (.int _) (.cons (dp_same s9 d8) .nil))))
    | p :: q :: r =>
      rw [hh] at k qh hw
      refine go_f (by simp; omega) ?_
      refine ⟨_, rfl, ah, _, rfl, .inr qh, rfl, _, rfl, ?_⟩
      refine go_f (by simp; omega) ?_
      refine ⟨_, rfl, _, rfl, .ref ao, s, n, as, rfl, dp_same s1 hd, s2, s5, n1, n3, la, hlt, fun e => absurd e (hw (by simp)), fun p' o h e hp ho hm hg H2 t vh s3 et dh => ⟨t, _, rfl, .inl (SqT.of et), (by show 4 ≤ sizeLine; decide), fun t2 ht2 => ?_⟩⟩
      have s4 := same_new (o := .tup [.str "two", .int (p' : Nat), .int (o : Nat), vh]) ht2
      have kk := k _ (.ref t2) (s1.trans (s3.trans s4))
      rw [e] at kk
      exact kk (.tup (SqT.of upd_same) (.cons (.str _) (.cons (.int _) (.cons (.int _) (.cons (dp_same s4 dh) .nil)))))
end
end K46
/-! which operations are let. -/
namespace K46
open PySem L2 FX SQ
def letB (s n : Nat) (as : List Nat) (ex : Bool) : Bool := match hungN s n as with
  | [] => true
  | [p] => ex || decide (heldAns s as (oneO n p)).Nodup
  | _ => false
theorem nodup_int {ns : List Nat} : (ns.map fun n : Nat => (n : Int)).Nodup ↔ ns.Nodup := by
  induction ns with
  | nil => exact ⟨fun _ => List.nodup_nil, fun _ => List.nodup_nil⟩
  | cons a r ih =>
    rw [List.map_cons, List.nodup_cons, List.nodup_cons, ih]
    refine and_congr_left fun _ => not_congr ⟨fun h => ?_, fun h => List.mem_map.mpr ⟨a, h, rfl⟩⟩
    obtain ⟨b, hb, e⟩ := List.mem_map.mp h
    obtain rfl : b = a := by omega
    exact hb
theorem oneO_cnt : ((List.range 5).all fun s => (List.range 4).all fun n => (List.range n).all fun p => decide ((rowsN ((oneO n p).map (choiceN s))).length = s)) = true := by decide +kernel
theorem one_len {s n p : Nat} {as : List Nat} (s5 : s < 5) (n4 : n < 4) (hp : p < n) : (heldAns s as (oneO n p)).length = s := by
  have h := all_lt (all_lt (all_lt oneO_cnt s5) n4) hp
  unfold heldAns
  rw [List.length_map]
  exact of_decide_eq_true h
section
variable {P : Program} {w : World} {K : PySem.W.Frag} {mg : Str → Option Value} {base : Heap} {B cB iB cO iO cV iV cS iS : Addr}
abbrev sIsLet : Stmt := top 31
abbrev sLooksAt : Stmt := top 30
abbrev sLetPart : Stmt := top 32
def spIsLet (K : PySem.W.Frag) : Sp := fun vs H Q _ => ∃ (vo : V) (wd : Str) (s n : Nat) (as : List Nat), vs = [.int s, .str wd, vo] ∧ Dp K H vo (opT (n, as)) ∧ Op s n as ∧ ∀ H', Same H H' → Q (.bl (letB s n as (decide (V.str wd = V.str "exact")))) H'
theorem scIsLet : FnScope ["size", "word", "operation", "look"] ["size", "word", "operation"] (defScope sIsLet) := ⟨rfl, rfl, rfl, by decide +kernel, rfl, by decide +kernel, by decide +kernel⟩
theorem ok_isLet {f fL : Addr} {fd fdL : FuncData} (F : Fun K "is_let" "is_let" sIsLet f fd) (Z : Bi mg) (FL : At K mg "look_of" sLook fL fdL ["size", "operation"]) (GL : FnOk P w K mg base CX0 8 fL fdL ["size", "operation"] (spLook K)) :
    FnOk P w K mg base CX0 9 f fd ["size", "word", "operation"] (spIsLet K) := by
  refine F.ok scIsLet (fun vs H Q E h => ?_) (fun cdv A outer sh H vs Q E hr h => ?_)
  · obtain ⟨vo, wd, s, n, as, rfl, _⟩ := h
    rfl
  · obtain ⟨vo, wd, s, n, as, rfl, hd, op, k⟩ := h
    obtain ⟨s2, s5, n1, n3, la, hlt, hw⟩ := id op
    refine ⟨_, pss_cons (ps_set (i := 3) scIsLet.nd rfl (Or.inl rfl) (pe_call GL (hr.mono (by decide)) rfl FL.g FL.F.kp FL.b .nil pass0 (by exact (pa_cons (pv 0) (pa_cons (pv 2) pa_nil)))))
      (pss_cons (ps_if (PW.pt (pw_or (pt_cmpR op_ne (pe_ix ix_tup (pv 3) pe_int (fun _ _ => rfl)) pe_str (nomark _)) (pw_or1 (pt_cmpR op_eq (pv 1) pe_str (nomark _))))) (pss_one (ps_ret (pe_cmpR op_ne (pe_ix ix_tup (pv 3) pe_int (fun _ _ => rfl)) pe_str (nomark _)))) pss_nil)
      (pss_one (ps_ret (pe_cmpR op_eq (pe_lenSetN (by rfl) Z.len (by rfl) Z.set (pe_ix ix_tup (pv 3) pe_int (fun _ _ => rfl))) (pv 0) (nomark _))))), ?_⟩
    refine ⟨_, rfl, _, rfl, vo, s, n, as, rfl, hd, op, fun H1 v s1 d1 => ?_⟩
    have kk := k H1 s1
    unfold letB at kk
    unfold lookD at d1
    have hl := hung_lt (s := s) (n := n) (as := as)
    match hh : hungN s n as with
    | [] =>
      rw [hh] at kk d1
      obtain ⟨a, x, rfl, q, r⟩ := dp_tup d1
      cases r with
      | cons h0 r =>
      cases h0
      refine ⟨_, rfl, a, _, _, .str "constant", rfl, rfl, q, atI_nat (j := 0) rfl, rfl, _, rfl, ?_⟩
      refine go_t (by decide +kernel) ?_
      refine ⟨_, rfl, a, _, _, .str "constant", rfl, rfl, q, atI_nat (j := 0) rfl, rfl, ?_⟩
      have e : (!decide (V.str "constant" = V.str "two")) = true := by decide +kernel
      rw [e]
      exact kk
    | [p] =>
      rw [hh] at kk d1 hl
      have hpn := hl p (List.mem_singleton.mpr rfl)
      obtain ⟨a, x, rfl, q, r⟩ := dp_tup d1
      cases r with
      | cons h0 r =>
      cases h0
      cases r with
      | cons h1 r =>
      cases h1
      cases r with
      | cons h2 r =>
      cases r
      obtain ⟨a2, x2, rfl, q2, r2⟩ := dp_tup h2
      obtain rfl := dpAll_eqn r2
      refine ⟨_, rfl, a, _, _, .str "one", rfl, rfl, q, atI_nat (j := 0) rfl, rfl, _, rfl, ?_⟩
      refine go_f (by decide +kernel) ?_
      refine ⟨_, rfl, rfl, _, rfl, ?_⟩
      by_cases he : decide (V.str wd = V.str "exact") = true
      · refine go_t he ?_
        refine ⟨_, rfl, a, _, _, .str "one", rfl, rfl, q, atI_nat (j := 0) rfl, rfl, ?_⟩
        have e : (!decide (V.str "one" = V.str "two")) = true := by decide +kernel
        rw [e]
        rw [he] at kk
        exact kk
      · have he' : decide (V.str wd = V.str "exact") = false := by simpa using he
        refine go_f he' ?_
        rw [he'] at kk
        have ll := one_len (as := as) s5 (by omega : n < 4) hpn
        refine ⟨_, rfl, a, _, _, .ref a2, rfl, rfl, q, atI_nat (j := 2) rfl, a2, (heldAns s as (oneO n p)).map (fun n : Nat => (n : Int)), rfl, by rw [List.map_map]; exact q2, by rw [List.length_map, ll]; omega, fun m hm => ⟨_, rfl, rfl, ?_⟩⟩
        rw [List.length_map, ll, nodup_int] at hm
        have e : decide (V.int (m : Nat) = V.int (s : Nat)) = (false || decide (heldAns s as (oneO n p)).Nodup) := by
          rw [Bool.false_or]
          refine decide_eq_decide.mpr ?_
          rw [← hm]
          constructor
          · intro z
            injection z with z
            omega
          · intro z
            rw [z]
        rw [e]
        exact kk
    | p :: p2 :: r =>
      rw [hh] at kk d1 hw
      obtain ⟨c, ec⟩ := Option.ne_none_iff_exists'.mp (hw (by simp))
      obtain ⟨p', o, h⟩ := c
      rw [ec] at d1
      obtain ⟨a, x, rfl, q, r⟩ := dp_tup d1
      cases r with
      | cons h0 r =>
      cases h0
      refine ⟨_, rfl, a, _, _, .str "two", rfl, rfl, q, atI_nat (j := 0) rfl, rfl, _, rfl, ?_⟩
      refine go_t (by decide +kernel) ?_
      refine ⟨_, rfl, a, _, _, .str "two", rfl, rfl, q, atI_nat (j := 0) rfl, rfl, ?_⟩
      have e : (!decide (V.str "two" = V.str "two")) = false := by decide +kernel
      rw [e]
      exact kk
end
end K46
namespace K46
open PySem L2 FX SQ
def bookD (s : Nat) (os : List (Nat × List Nat)) : D := .tuple [nD s, .tuple (os.map opT)]
theorem book_ok2 {s : Nat} (s2 : 2 ≤ s) (s8 : s ≤ 8) {ds : List D} (h : ds.length ≤ 8) : okBook (.tuple [nD s, .tuple ds]) = true := by
  have e : okBook (.tuple [nD s, .tuple ds]) = (isBt 2 8 (nD s) && (true && decide (ds.length ≤ 8))) := rfl
  rw [e, bt_nat s2 s8, decide_eq_true h]
  rfl
theorem kStr {K : PySem.W.Frag} : ∀ d : D, PySem.W.kitOne K (.type (tyN d)) (.type "str") = some (match d with | .str _ => true | _ => false) := fun d => by
  cases d <;> (refine kit_ty ?_; dsimp only [tyN]; decide +kernel)
def letN (s : Nat) (os : List (Nat × List Nat)) (ex : Bool) : List Nat := (List.range os.length).filter fun i => letB s ((os.getD i (0, [])).1) ((os.getD i (0, [])).2) ex
section
variable {P : Program} {w : World} {K : PySem.W.Frag} {mg : Str → Option Value} {base : Heap} {B cB iB cO iO cV iV cS iS : Addr}
/-- what is asked of books and operations' numbers -/
def spAt (K : PySem.W.Frag) (cB cV : Addr) : Sp := fun vs H Q E => ∃ (vb vn : V) (db dn : D), vs = [vb, vn] ∧ Dp K H vb db ∧ Dp K H vn dn ∧
  ((okBook db = false ∧ Thr cB "at" (.int (-1)) H E) ∨ ∃ (s : Nat) (os : List (Nat × List Nat)), db = bookD s os ∧ 2 ≤ s ∧ s < 5 ∧ os.length ≤ 8 ∧ (∀ o ∈ os, Op s o.1 o.2) ∧
    ((isB (os.length : Nat) dn = false ∧ Thr cV "at" (.int (-1)) H E) ∨ ∃ (i : Nat) (o : Nat × List Nat), dn = nD i ∧ os[i]? = some o ∧ ∀ H' v, Same H H' → Dp K H' v (lookD s o.1 o.2) → Q v H'))
theorem scAt : FnScope ["book", "operation"] ["book", "operation"] (defScope sLooksAt) := ⟨rfl, rfl, rfl, by decide +kernel, rfl, by decide +kernel, by decide +kernel⟩
theorem op_tab {s : Nat} {os : List (Nat × List Nat)} (h : ∀ o ∈ os, Op s o.1 o.2) : ∀ (j : Nat) y, (os.map opT)[j]? = some y → isTable s 1 3 y = true := by
  intro j y hy
  rw [List.getElem?_map] at hy
  cases e : os[j]? with
  | none =>
    rw [e] at hy
    cases hy
  | some o =>
    rw [e] at hy
    cases hy
    obtain ⟨_, _, n1, n3, la, hlt, _⟩ := h o (List.mem_of_getElem? e)
    exact (opT_is n1 n3 la hlt).table
theorem ok_at {f fB fL fK : Addr} {fd fdB fdL fdK : FuncData} (F : Fun K "looks_at" "looks_at" sLooksAt f fd) (Z : Bi mg) (T : Ers K mg B cB iB cO iO cV iV cS iS) (FB : At K mg "need_book" sNeedBook fB fdB ["value"]) (GB : FnOk P w K mg base (L2.CX P w) 6 fB fdB ["value"] (spNeedBook K cB))
    (FL : At K mg "is_below" sBelow fL fdL ["many", "value"]) (GL : FnOk P w K mg base CX0 3 fL fdL ["many", "value"] (spB1 K isB)) (FK : At K mg "look_of" sLook fK fdK ["size", "operation"]) (GK : FnOk P w K mg base CX0 8 fK fdK ["size", "operation"] (spLook K)) :
    FnOk P w K mg base (L2.CX P w) 9 f fd ["book", "operation"] (spAt K cB cV) := by
  refine F.okX scAt (fun vs H Q E h => ?_) (fun cdv A outer sh H vs Q E hr h => ?_)
  · obtain ⟨vb, vn, db, dn, rfl, _⟩ := h
    rfl
  · obtain ⟨vb, vn, db, dn, rfl, hb, hn, sc⟩ := h
    refine ⟨_, pss_cons (ps_set (i := 0) scAt.nd rfl (Or.inl rfl) (pe_callS GB (hr.mono (by decide)) rfl FB.g FB.F.kp FB.b (fun σ => passAt (takes_of rfl rfl rfl rfl) σ) (by exact (pa_cons (pv 0) pa_nil))))
      (pss_cons (ps_if (pt_not (pt_val (pe_call GL (hr.mono (by decide)) rfl FL.g FL.F.kp FL.b .nil pass0 (by exact (pa_cons (pe_callB call_len_seq (by rfl) Z.len PySem.boot_len (pa_cons (pe_ix ix_tup (pv 0) pe_int (fun _ _ => rfl)) pa_nil)) (pa_cons (pv 1) pa_nil))))))
        (pss_one (ps_err rfl T.v.T T.v.U hr (takes_of rfl rfl rfl rfl) (by exact (pa_cons (pe_un un_neg pe_int) pa_nil)))) pss_nil)
      (pss_one (ps_ret (pe_call GK (hr.mono (by decide)) rfl FK.g FK.F.kp FK.b .nil pass0 (by exact (pa_cons (pe_ix ix_tup (pv 0) pe_int (fun _ _ => rfl)) (pa_cons (pe_ix ix_tup (pe_ix ix_tup (pv 0) pe_int (fun _ _ => rfl)) (pv 1) (fun _ _ => rfl)) pa_nil))))))), ?_⟩
    refine ⟨_, rfl, vb, db, rfl, hb, fun e => ?_, fun e s' d1 hit => ?_⟩
    · rcases sc with ⟨_, k⟩ | ⟨s, os, rfl, s2, s5, l8, hos, _⟩
      · exact k
      · have := book_ok2 s2 (by omega : s ≤ 8) (ds := os.map opT) (by rw [List.length_map]; exact l8)
        rw [show okBook (bookD s os) = okBook (.tuple [nD s, .tuple (os.map opT)]) from rfl, this] at e
        cases e
    · rcases sc with ⟨e', _⟩ | ⟨s, os, rfl, s2, s5, l8, hos, sc⟩
      · rw [e'] at e
        cases e
      have hit : [nD s, PyData.tuple (os.map opT)] = [.int s', d1] := hit
      cases hit
      refine ⟨fun i x hx hb' _ => ?_, fun _ H1 v1 s1 dv => ?_⟩
      · have := op_tab hos i x hx
        rw [show isTable (s : Int) 1 3 x = isTable s 1 3 x from rfl] at hb'
        rw [this] at hb'
        cases hb'
      have ev : (items (PyData.tuple (os.map opT))).map opD = os.map opT := by
        show (os.map opT).map opD = _
        rw [List.map_map]
        rfl
      rw [ev] at dv
      obtain ⟨a, x, rfl, q, r⟩ := dp_tup dv
      cases r with
      | cons h0 r =>
      cases h0
      cases r with
      | cons h1 r =>
      cases r
      obtain ⟨a2, x2, rfl, q2, r2⟩ := dp_tup h1
      have l2 : x2.length = os.length := by rw [dpAll_len r2, List.length_map]
      refine ⟨_, rfl, a, _, _, .ref a2, rfl, rfl, q, atI_nat (j := 1) rfl, a2, _, rfl, .inr q2, _, rfl, (x2.length : Int), vn, dn, rfl, dp_same s1 hn, fun H2 s2' => ⟨_, rfl, ?_⟩⟩
      rcases sc with ⟨hf, k⟩ | ⟨i, o, rfl, ho, k⟩
      · refine go_t (by rw [l2]; show (!isB ((os.length : Nat) : Int) dn) = true; rw [hf]; rfl) ?_
        exact ⟨_, rfl, _, rfl, fun d' hd' => k H2 d' (s1.trans s2') hd'⟩
      · have hi := (List.getElem?_eq_some_iff.mp ho).1
        refine go_f (by rw [l2, isB_nat, decide_eq_true hi]; rfl) ?_
        cases hn
        obtain ⟨y, ey, dy⟩ := dpAll_at (i := i) (d := opT o) r2 (by rw [List.getElem?_map, ho]; rfl)
        refine ⟨_, rfl, a, _, _, .int (s : Nat), rfl, rfl, seqT s2' q, atI_nat (j := 0) rfl, _, rfl, a, _, _, .ref a2, rfl, rfl, seqT s2' q, atI_nat (j := 1) rfl, _, rfl, a2, _, _, y, rfl, rfl, seqT s2' q2, atI_nat ey, y, s, o.1, o.2, rfl, dp_same s2' dy, hos o (List.mem_of_getElem? ho), fun H3 v3 s3 d3 => ?_⟩
        exact k H3 v3 (s1.trans (s2'.trans s3)) d3
/-- what is asked of words -/
def spPart (K : PySem.W.Frag) (cS : Addr) : Sp := fun vs H Q E => ∃ (vb vw : V) (s : Nat) (os : List (Nat × List Nat)) (dw : D), vs = [vb, vw] ∧ Dp K H vb (bookD s os) ∧ Dp K H vw dw ∧ 2 ≤ s ∧ s < 5 ∧ os.length ≤ 8 ∧ (∀ o ∈ os, Op s o.1 o.2) ∧
    ((dw ≠ .str "exact" ∧ dw ≠ .str "finds" ∧ Thr cS "word" (.str "word") H E) ∨ ∃ wd : Str, dw = .str wd ∧ (wd = "exact" ∨ wd = "finds") ∧ ∀ H' v, Same H H' → Dp K H' v (.tuple ((letN s os (decide (V.str wd = V.str "exact"))).map nD)) → Q v H')
abbrev NPart : List Str := ["book", "word", "number", "operation"]
theorem scPart : FnScope NPart ["book", "word"] (defScope sLetPart) := ⟨rfl, rfl, rfl, by decide +kernel, rfl, by decide +kernel, by decide +kernel⟩
theorem ok_part {f fB fL : Addr} {fd fdB fdL : FuncData} (F : Fun K "let_part" "let_part" sLetPart f fd) (Z : Bi mg) (T : Ers K mg B cB iB cO iO cV iV cS iS) (FB : At K mg "need_book" sNeedBook fB fdB ["value"]) (GB : FnOk P w K mg base (L2.CX P w) 6 fB fdB ["value"] (spNeedBook K cB))
    (FL : At K mg "is_let" sIsLet fL fdL ["size", "word", "operation"]) (GL : FnOk P w K mg base CX0 9 fL fdL ["size", "word", "operation"] (spIsLet K)) :
    FnOk P w K mg base (L2.CX P w) 10 f fd ["book", "word"] (spPart K cS) := by
  refine F.okX scPart (fun vs H Q E h => ?_) (fun cdv A outer sh H vs Q E hr h => ?_)
  · obtain ⟨vb, vw, s, os, dw, rfl, _⟩ := h
    rfl
  · obtain ⟨vb, vw, s, os, dw, rfl, hb, hw, s2, s5, l8, hos, sc⟩ := h
    refine ⟨_, pss_cons (ps_set (i := 0) scPart.nd rfl (Or.inr rfl) (pe_callS GB (hr.mono (by decide)) rfl FB.g FB.F.kp FB.b (fun σ => passAt (takes_of rfl rfl rfl rfl) σ) (by exact (pa_cons (pv 0) pa_nil))))
      (pss_cons (ps_if (PW.pt (pw_or (pt_not (pt_val (pe_callB call_isi (by rfl) Z.isinstance (by decide +kernel) (pa_cons (pv 1) (pa_cons (pe_bltn (v := .ty "str") (by rfl) Z.str (by decide +kernel) rfl) pa_nil)))))
          (pw_or1 (pt_cmpR op_notIn_seq (pv 1) (pe_tup (by exact (pa_cons pe_str (pa_cons pe_str pa_nil)))) (by with_unfolding_all rfl)))))
        (pss_one (ps_err rfl T.s.T T.s.U hr (takes_of rfl rfl rfl rfl) (by exact (pa_cons pe_str pa_nil)))) pss_nil)
      (pss_one (ps_ret (pe_tupleF (by rfl) Z.tuple (pe_lc (own := [("number", 2), ("operation", 3)]) (g := gTup K 2 (gCons (gName 2) (gCons (gName 3) gNil))) (tt := tB (tCall (spIsLet K) [] E0 (tCons (tOp (rIxT K) (tVar 0) (tC (.int 0))) (tCons (tVar 1) (tCons (tVar 3) tNil))))) (te := tVar 2) rfl scPart.nd
          (pi_enum2 (by rfl) Z.enumerate (pa_cons (pe_ix ix_tup (pv 0) pe_int (fun _ _ => rfl)) pa_nil)) (blkOk_by (N := NPart) (sc := defScope sLetPart) (by decide +kernel))
          (fun _ _ _ _ _ => pg_tup rfl (pgs_cons (pg_name (i := 2) scPart.nd rfl (Or.inl rfl)) (pgs_cons (pg_name (i := 3) scPart.nd rfl (Or.inl rfl)) pgs_nil)))
          (fun _ _ _ _ _ => pts_one (pt_val (pe_call GL (hr.mono (by decide)) (by rfl) FL.g FL.F.kp FL.b .nil pass0 (by exact (pa_cons (pe_ix ix_tup (pv 0) pe_int (fun _ _ => rfl)) (pa_cons (pv 1) (pa_cons (pv 3) pa_nil))))))) (fun _ _ _ _ _ => pv 2)))))), ?_⟩
    have okb := book_ok2 s2 (by omega : s ≤ 8) (ds := os.map opT) (by rw [List.length_map]; exact l8)
    refine ⟨_, rfl, vb, bookD s os, rfl, hb, fun e => absurd (okb.symm.trans e) (by decide), fun e s' d1 hit => ?_⟩
    have hit : [nD s, PyData.tuple (os.map opT)] = [.int s', d1] := hit
    cases hit
    refine ⟨fun i x hx hb' _ => ?_, fun _ H1 v1 s1 dv => ?_⟩
    · have := op_tab hos i x hx
      rw [show isTable (s : Int) 1 3 x = isTable s 1 3 x from rfl] at hb'
      rw [this] at hb'
      cases hb'
    have ev : (items (PyData.tuple (os.map opT))).map opD = os.map opT := by
      show (os.map opT).map opD = _
      rw [List.map_map]
      rfl
    rw [ev] at dv
    obtain ⟨a, x, rfl, q, r⟩ := dp_tup dv
    cases r with
    | cons h0 r =>
    cases h0
    cases r with
    | cons h1 r =>
    cases r
    obtain ⟨a2, x2, rfl, q2, r2⟩ := dp_tup h1
    have l2 : x2.length = os.length := by rw [dpAll_len r2, List.length_map]
    have hw1 := dp_same s1 hw
    refine ⟨_, rfl, vw, _, _, _, _, rfl, .ty "str", ty_data hw1, kStr dw, _, rfl, ?_⟩
    rcases sc with ⟨ne1, ne2, kt⟩ | ⟨wd, rfl, hwd, k⟩
    · have kt1 : ∀ H2, Same H1 H2 → ∀ d', H2 d' = none → E (.ref cS) (some d') (upd H2 d' (.xd [("word", .str "word")])) := fun H2 s2' d' hd' => kt H2 d' (s1.trans s2') hd'
      cases hw1 with
      | str z =>
        refine go_f rfl ?_
        refine ⟨_, rfl, (by show 2 ≤ sizeLine; decide), fun t ht => ⟨t, _, rfl, .inr (SqT.of upd_same), rfl, rfl, _, rfl, ?_⟩⟩
        have e1 : z ≠ "exact" := fun e => ne1 (by rw [e])
        have e2 : z ≠ "finds" := fun e => ne2 (by rw [e])
        refine go_t ?_ ?_
        · show (!(("exact" : Str) == z || (("finds" : Str) == z || false))) = true
          rw [beq_eq_false_iff_ne.mpr (Ne.symm e1), beq_eq_false_iff_ne.mpr (Ne.symm e2)]
          rfl
        exact ⟨_, rfl, kt1 _ (same_new ht)⟩
      | non => exact go_t rfl (go_t rfl ⟨_, rfl, kt1 _ (Same.refl _)⟩)
      | bl b => exact go_t rfl (go_t rfl ⟨_, rfl, kt1 _ (Same.refl _)⟩)
      | int b => exact go_t rfl (go_t rfl ⟨_, rfl, kt1 _ (Same.refl _)⟩)
      | lst _ _ => exact go_t rfl (go_t rfl ⟨_, rfl, kt1 _ (Same.refl _)⟩)
      | tup _ _ => exact go_t rfl (go_t rfl ⟨_, rfl, kt1 _ (Same.refl _)⟩)
    · cases hw1
      refine go_f rfl ?_
      refine ⟨_, rfl, (by show 2 ≤ sizeLine; decide), fun t ht => ⟨t, _, rfl, .inr (SqT.of upd_same), rfl, rfl, _, rfl, ?_⟩⟩
      refine go_f ?_ ?_
      · show (!(("exact" : Str) == wd || (("finds" : Str) == wd || false))) = false
        rcases hwd with rfl | rfl <;> decide +kernel
      have st := same_new (o := .tup [.str "exact", .str "finds"]) ht
      generalize upd H1 t (.tup [.str "exact", .str "finds"]) = H2 at st
      have s12 := s1.trans st
      refine ⟨_, rfl, a, _, _, .ref a2, rfl, rfl, seqT st q, atI_nat (j := 1) rfl, a2, x2, .T, rfl, seqT st q2, fun D hD => walk_it (walk_enum2 (k := .T) (a := a2) (xs := x2) (n := x2.length) rfl) (fun i H' => Same H2 H' ∧ H' D = some (.lst (((List.range i).filter fun i => letB s ((os.getD i (0, [])).1) ((os.getD i (0, [])).2) (decide (V.str wd = V.str "exact"))).map fun n : Nat => V.int n))) ⟨same_new hD, upd_same⟩ (fun i H' _ p => seqT (st.trans p.1) q2) ?_ ?_⟩
      · rintro i x H7 H8 hi ⟨s7, eD⟩ ⟨T1, y1, y2, rfl, hT1, rfl, hx1, hx2⟩
        obtain rfl : y1 = .int (i : Nat) := (Option.some.inj hx1).symm
        have hx2 : x2[i]? = some y2 := hx2
        obtain ⟨dx, hdx, hxd⟩ := dpAll_get r2 hx2
        obtain ⟨o, ho, rfl⟩ : ∃ o, os[i]? = some o ∧ dx = opT o := by
          rw [List.getElem?_map] at hdx
          cases e : os[i]? with
          | none =>
            rw [e] at hdx
            cases hdx
          | some c =>
            rw [e] at hdx
            exact ⟨c, rfl, (Option.some.inj hdx).symm⟩
        have s8 := same_new (o := .tup [.int (i : Nat), y2]) hT1
        have s28 := (st.trans s7).trans s8
        have eg : os.getD i (0, []) = o := by rw [List.getD_eq_getElem?_getD, ho]; rfl
        refine ⟨T1, _, rfl, SqT.of upd_same, rfl, _, _, rfl, _, _, rfl, rfl, rfl, ?_⟩
        refine ⟨_, rfl, a, _, _, .int (s : Nat), rfl, rfl, seqT s28 q, atI_nat (j := 0) rfl, _, rfl, _, rfl, y2, wd, s, o.1, o.2, rfl, dp_same s28 hxd, hos o (List.mem_of_getElem? ho), fun H9 s9 => ⟨_, rfl, ?_⟩⟩
        have eD9 := (s8.trans s9) _ _ eD
        have lf := List.length_filter_le (fun i => letB s ((os.getD i (0, [])).1) ((os.getD i (0, [])).2) (decide (V.str wd = V.str "exact"))) (List.range i)
        rw [List.length_range] at lf
        by_cases hb' : letB s o.1 o.2 (decide (V.str wd = V.str "exact")) = true
        · refine go_t hb' ?_
          refine ⟨_, rfl, _, eD9, by rw [List.length_map, sizeLine_eq]; omega, same_of (s7.trans (s8.trans s9)) hD, ?_⟩
          rw [upd_same, range_fil, if_pos (by rw [eg]; exact hb'), List.map_append]
          rfl
        · refine go_f (by simpa using hb') ?_
          refine ⟨s7.trans (s8.trans s9), ?_⟩
          rw [range_fil, if_neg (by rw [eg]; exact hb'), List.append_nil]
          exact eD9
      · rintro H7 ⟨s7, eD⟩
        refine ⟨D, _, rfl, SqL.of eD, fun p o hq ho => ?_⟩
        have s8 := same_new (o := .frz o (.tup (((List.range x2.length).filter fun i => letB s ((os.getD i (0, [])).1) ((os.getD i (0, [])).2) (decide (V.str wd = V.str "exact"))).map fun n : Nat => V.int n))) hq
        refine k _ _ (s12.trans (s7.trans s8)) ?_
        unfold letN
        rw [← l2]
        exact .tup (.inl (.inr ⟨o, upd_same⟩)) (dpAll_mkn _)
end
end K46
/-! tuples put together, and parts of them: whatever comes. -/
namespace SQ
open PySem PySem.Spec PyProof.Rows L2 FX K46
theorem cat_any {K : PySem.W.Frag} {H : Hp} {Q : VK} {a b : Addr} {xs ys : List V} (ha : SqT K H a xs) (hb : SqT K H b ys) (hz : xs.length + ys.length ≤ sizeLine) (k : ∀ H' c, Same H H' → SqT K H' c (xs ++ ys) → Q (.ref c) H') : rCatA K (.ref a) (.ref b) H Q :=
  ⟨a, b, xs, ys, rfl, rfl, ha, hb, hz, fun e => by
    subst e
    exact k H b (Same.refl _) hb, fun _ e => by
    subst e
    exact k H a (Same.refl _) (by rw [List.append_nil]; exact ha), fun _ _ p hp => k _ p (same_new hp) (SqT.of upd_same)⟩
theorem sl_any {K : PySem.W.Frag} {H : Hp} {Q : VK} {a : Addr} {xs : List V} {lo hi : Option Int} (ha : SqT K H a xs) (k : ∀ H' c, Same H H' → SqT K H' c (cutV xs lo hi) → Q (.ref c) H') : rSlA K (.ref a) lo hi H Q :=
  ⟨a, xs, rfl, ha, fun h => k H a (Same.refl _) (by
    unfold cutV
    rw [h.1, h.2, List.drop_zero, Nat.sub_zero, List.take_length]
    exact ha), fun _ p hp => k _ p (same_new hp) (SqT.of upd_same)⟩
end SQ
/-! the law's own look whether an operation hangs on a place. -/
namespace K46
open PySem L2 FX SQ
def row3 (r : List Nat) (p v : Nat) : List Nat := r.take p ++ [v] ++ r.drop (p + 1)
def endsL (s : Nat) (as r : List Nat) (p : Nat) : List Nat := (List.range s).map fun v => as.getD (spotN s (row3 r p v)) 0
def rowHangs (s : Nat) (as : List Nat) (p : Nat) (r : List Nat) : Bool := (endsL s as r p).any fun e => !decide (V.int (e : Nat) = V.int (((endsL s as r p).headD 0 : Nat) : Int))
def hangsL (s : Nat) (as : List Nat) (os : List (Option Nat)) (p : Nat) : Bool := (rowsN (os.map (choiceN s))).any (rowHangs s as p)
theorem row3_len {r : List Nat} {p v n : Nat} (lr : r.length = n) (hp : p < n) : (row3 r p v).length = n := by
  unfold row3
  rw [List.length_append, List.length_append, List.length_take, List.length_drop, List.length_singleton]
  omega
theorem row3_lt {r : List Nat} {p v s : Nat} (hr : ∀ x ∈ r, x < s) (hv : v < s) : ∀ x ∈ row3 r p v, x < s := by
  intro x hx
  unfold row3 at hx
  rcases List.mem_append.mp hx with h | h
  · rcases List.mem_append.mp h with h | h
    · exact hr x (List.mem_of_mem_take h)
    · rw [List.mem_singleton] at h
      omega
  · exact hr x (List.mem_of_mem_drop h)
theorem any_fil {α : Type} (p : α → Bool) : ∀ l : List α, (!(l.filter p).isEmpty) = l.any p
  | [] => rfl
  | a :: l => by
    rw [List.filter_cons, List.any_cons, ← any_fil p l]
    cases p a <;> simp
theorem fil_take {α : Type} {p : α → Bool} {l : List α} {i : Nat} {x : α} (h : l[i]? = some x) : (l.take (i + 1)).filter p = (l.take i).filter p ++ (if p x = true then [x] else []) := by
  rw [take_more h, List.filter_append, List.filter_cons]
  rfl
theorem seqT_offL {K : PySem.W.Frag} {H : Hp} {D c : Addr} {acc xs : List V} (e : H D = some (.lst acc)) (q : SqT K H c xs) : SqT K (off H D) c xs := by
  rcases q with (q | ⟨ob, q⟩) | q
  · exact .inl (.inl (by rw [off_ne fun z => by rw [z, e] at q; cases q]; exact q))
  · exact .inl (.inr ⟨ob, by rw [off_ne fun z => by rw [z, e] at q; cases q]; exact q⟩)
  · exact .inr q
theorem rowsN_many {css : List (List Nat)} (h : ∀ c ∈ css, c.length ≤ 8) : (rowsN css).length ≤ 8 ^ css.length := by
  suffices q : ∀ (css : List (List Nat)) (acc : List (List Nat)), (∀ c ∈ css, c.length ≤ 8) → (css.foldl stepN acc).length ≤ acc.length * 8 ^ css.length by
    have := q css [[]] h
    rw [List.length_singleton, Nat.one_mul] at this
    exact this
  intro css
  induction css with
  | nil => exact fun acc _ => by simp
  | cons c css ih =>
    intro acc h
    have h1 := ih (stepN acc c) fun c' h' => h c' (List.mem_cons_of_mem _ h')
    rw [stepN_len] at h1
    have h2 := h c (List.mem_cons_self ..)
    rw [List.foldl_cons, List.length_cons, Nat.pow_succ]
    refine Nat.le_trans h1 ?_
    rw [Nat.mul_assoc, Nat.mul_comm (8 ^ css.length) 8]
    exact Nat.mul_le_mul_left _ (Nat.mul_le_mul_right _ h2)
theorem spot_snoc (s : Nat) (l : List Nat) (x : Nat) : spotN s (l ++ [x]) = spotN s l * s + x := by
  unfold spotN
  rw [List.foldl_append]
  rfl
section
variable {P : Program} {w : World} {K : PySem.W.Frag} {mg : Str → Option Value} {base : Heap}
abbrev sHL : Stmt := top 38
def spHL (K : PySem.W.Frag) : Sp := fun vs H Q _ => ∃ (vo vh : V) (s n p : Nat) (as : List Nat) (os : List (Option Nat)), vs = [.int s, vo, vh, .int p] ∧ Dp K H vo (opT (n, as)) ∧ Dp K H vh (.tuple (os.map oD)) ∧ 2 ≤ s ∧ s ≤ 8 ∧ n ≤ 3 ∧ p < n ∧ os.length = n ∧ as.length = s ^ n ∧ (∀ m, some m ∈ os → m < s) ∧
  ∀ H', Same H H' → Q (.bl (hangsL s as os p)) H'
abbrev NHL : List Str := ["size", "operation", "held", "place", "rows", "at", "longer", "row", "value", "ends", "spot", "one", "end"]
theorem scHL : FnScope NHL ["size", "operation", "held", "place"] (defScope sHL) := ⟨rfl, rfl, rfl, by decide +kernel, rfl, by decide +kernel, by decide +kernel⟩
theorem ok_HL {f : Addr} {fd : FuncData} (F : Fun K "_law_hangs" "_law_hangs" sHL f fd) (Z : Bi mg) : FnOk P w K mg base CX0 1 f fd ["size", "operation", "held", "place"] (spHL K) := by
  refine F.ok scHL (fun vs H Q E h => ?_) (fun cdv A outer sh H vs Q E hr h => ?_)
  · obtain ⟨vo, vh, s, n, p, as, os, rfl, _⟩ := h
    rfl
  · obtain ⟨vo, vh, s, n, p, as, os, rfl, ho, hh, s2, s8, n3, hp, lo, la, hlt, k⟩ := h
    have hu := hr.units
    refine ⟨_, pss_cons (ps_set (i := 4) scHL.nd rfl (Or.inl rfl) (pe_lst (by exact (pa_cons (pe_tup pa_nil) pa_nil))))
      (pss_cons (ps_for PassesOwn.never rfl (pi_range1 rfl Z.range (pa_cons (pe_ix ix_tup (pv 1) pe_int (fun _ _ => rfl)) pa_nil)) (pg_name (i := 5) scHL.nd rfl (Or.inl rfl))
        (pss_cons (ps_set (i := 6) scHL.nd rfl (Or.inl rfl) (pe_lst pa_nil))
        (pss_cons (ps_for PassesOwn.never rfl (pi_list (pv 4)) (pg_name (i := 7) scHL.nd rfl (Or.inr rfl))
          (pss_one (ps_expr (pe_bm PySem.F.plainAttrs_list PySem.F.slot_list_extend PySem.F.type_list_extend mt_extend (pv 6) (pa_cons
            (pe_lc (own := [("value", 8)]) (g := gName 8) (tt := tYes) (te := tOp (rCatA K) (tVar 7) (tTup (tCons (tVar 8) tNil))) rfl scHL.nd (pi_list (pe_ifExp (pt_cmpR op_isN (pe_ix ix_tup (pv 2) (pv 5) (fun _ _ => rfl)) pe_non (nomark _)) (pe_listRg rfl (by rfl) Z.list (prg_1 (by rfl) Z.range (pv 0))) (pe_lst (pa_cons (pe_ix ix_tup (pv 2) (pv 5) (fun _ _ => rfl)) pa_nil)))) (blkOk_by (N := NHL) (sc := defScope sHL) (by decide +kernel))
              (fun _ _ _ _ _ => pg_name (i := 8) scHL.nd rfl (Or.inl rfl)) (fun _ _ _ _ _ => pts_nil) (fun _ _ _ _ _ => pe_op op_catA (pv 7) (pe_tup (pa_cons (pv 8) pa_nil)))) pa_nil)))))
        (pss_one (ps_set (i := 4) scHL.nd rfl (Or.inl rfl) (pv 6))))))
      (pss_cons (ps_for PassesOwn.never rfl (pi_list (pv 4)) (pg_name (i := 7) scHL.nd rfl (Or.inr rfl))
        (pss_cons (ps_set (i := 9) scHL.nd rfl (Or.inr rfl) (pe_lst pa_nil))
        (pss_cons (ps_for PassesOwn.never rfl (pi_range1 rfl Z.range (pa_cons (pv 0) pa_nil)) (pg_name (i := 8) scHL.nd rfl (Or.inl rfl))
          (pss_cons (ps_set (i := 10) scHL.nd rfl (Or.inl rfl) pe_int)
          (pss_cons (ps_for PassesOwn.never rfl (pi_tup (pe_op op_catA (pe_op op_catA (pe_slice sl_tupA (pv 7) po_none (po_some (pv 3))) (pe_tup (by exact (pa_cons (pv 8) pa_nil)))) (pe_slice sl_tupA (pv 7) (po_some (pe_op op_add (pv 3) pe_int)) po_none))) (pg_name (i := 11) scHL.nd rfl (Or.inl rfl))
            (pss_one (ps_set (i := 10) scHL.nd rfl (Or.inl rfl) (pe_op op_add (pe_op op_mul (pv 10) (pv 0)) (pv 11)))))
          (pss_one (ps_expr (pe_bm PySem.F.plainAttrs_list PySem.F.slot_list_append PySem.F.type_list_append mt_append (pv 9) (pa_cons (pe_ix ix_tup (pe_ix ix_tup (pv 1) pe_int (fun _ _ => rfl)) (pv 10) (fun _ _ => rfl)) pa_nil)))))))
        (pss_one (ps_if (pt_cmpR (op_neD hu) (pe_lc (own := [("end", 12)]) (g := gName 12) (tt := tTest (tOp rNe (tVar 12) (tOp (rIxL K) (tVar 9) (tC (.int 0))))) (te := tVar 12) rfl scHL.nd (pi_list (pv 9)) (blkOk_by (N := NHL) (sc := defScope sHL) (by decide +kernel))
              (fun _ _ _ _ _ => pg_name (i := 12) scHL.nd rfl (Or.inl rfl)) (fun _ _ _ _ _ => pts_one (pt_cmpR op_ne (pv 12) (pe_ix ix_list (pv 9) pe_int (fun _ _ => rfl)) (nomark _))) (fun _ _ _ _ _ => pv 12)) (pe_lst pa_nil) (nomark _))
          (pss_one (ps_ret pe_bl)) pss_nil)))))
      (pss_one (ps_ret pe_bl)))), ?_⟩
    obtain ⟨ao, va, rfl, qo, da⟩ := dpT_op ho
    obtain ⟨aa, xa, rfl, qa, ra⟩ := dp_tup da
    obtain rfl := dpAll_eqn ra
    obtain ⟨ah, xh, rfl, qh, rh⟩ := dp_tup hh
    have lh : xh.length = os.length := by rw [dpAll_len rh, List.length_map]
    refine ⟨(by show 0 ≤ sizeLine; decide), fun t ht => ⟨(by show 1 ≤ sizeLine; decide), fun L0 hL0 => ?_⟩⟩
    have s0 : Same H (upd (upd H t (.tup [])) L0 (.lst [.ref t])) := (same_new ht).trans (same_new hL0)
    have d0 : FreshL K H (upd (upd H t (.tup [])) L0 (.lst [.ref t])) (.ref L0) ((rowsN ((os.take 0).map (choiceN s))).map rowT) := ⟨L0, _, rfl, none_same (same_new ht) hL0, upd_same, .cons (.tup (SqT.of ((same_new hL0) _ _ upd_same)) .nil) .nil⟩
    refine ⟨_, rfl, ao, _, _, _, rfl, rfl, seqT s0 qo, atI_nat (j := 0) rfl, n, rfl, by omega, by omega, ?_⟩
    rw [Int.toNat_natCast]
    refine for_range (n := n) (fun i σ H' => ∃ (Lv : V) (u5 u6 u7 u8 u9 u10 u11 : Option V), σ = [some (.int s), some (.ref ao), some (.ref ah), some (.int (p : Nat)), some Lv, u5, u6, u7, u8, u9, u10, u11, none] ∧ Same H H' ∧ FreshL K H H' Lv ((rowsN ((os.take i).map (choiceN s))).map rowT)) ⟨_, none, none, none, none, none, none, none, rfl, s0, d0⟩ ?_ ?_
    · rintro i σ H1 hi ⟨Lv, u5, u6, u7, u8, u9, u10, u11, rfl, s1, dL⟩
      obtain ⟨aL, xL, rfl, nL0, eL0, rL⟩ := dL
      have qL : SqL K H1 aL xL := SqL.of eL0
      obtain ⟨o, hos⟩ : ∃ o, os[i]? = some o := ⟨os[i], List.getElem?_eq_getElem (by omega)⟩
      obtain ⟨vj, evj, dvj⟩ := dpAll_at (i := i) (d := oD o) rh (by rw [List.getElem?_map, hos]; rfl)
      have lti : (os.take i).length = i := by rw [List.length_take]; omega
      have rl := rowsN_len ((os.take i).map (choiceN s))
      rw [List.length_map, lti] at rl
      have rm := rowsN_many (css := (os.take i).map (choiceN s)) fun c hc => choice_len s8 (os.take i) c hc
      rw [List.length_map, lti] at rm
      have c8 : (choiceN s o).length ≤ 8 := choice_len s8 os _ (List.mem_map.mpr ⟨o, List.mem_of_getElem? hos, rfl⟩)
      have len1 : (rowsN ((os.take i).map (choiceN s))).length ≤ 8 ^ 3 := Nat.le_trans rm (Nat.pow_le_pow_right (by decide) (by omega))
      have eR : rowsN ((os.take (i + 1)).map (choiceN s)) = stepN (rowsN ((os.take i).map (choiceN s))) (choiceN s o) := by
        rw [take_more hos, List.map_append]
        unfold rowsN
        rw [List.foldl_append]
        rfl
      generalize rowsN ((os.take i).map (choiceN s)) = R at rL rl rm len1 eR
      have lL : xL.length = R.length := by rw [dpAll_len rL, List.length_map]
      refine ⟨(by show 0 ≤ sizeLine; decide), fun L hL => ⟨_, rfl, aL, rfl, ⟨_, (same_new hL).seq qL⟩, ?_⟩⟩
      refine for_list (K := K) (a := aL) (xs := xL) (fun j σ H2 => ∃ u7 : Option V, σ = [some (.int s), some (.ref ao), some (.ref ah), some (.int (p : Nat)), some (.ref aL), some (.int (0 + (i : Int))), some (.ref L), u7, u8, u9, u10, u11, none] ∧ Same H1 H2 ∧ Grow K H2 L ((R.take j).flatMap fun r => (choiceN s o).map fun x => rowT (r ++ [x])))
        ⟨u7, rfl, same_new hL, Grow.nil⟩ (fun j σ H2 _ ⟨_, _, s2, _⟩ => s2.seq qL) ?_ ?_
      · rintro j y σ H2 hj ⟨u, rfl, s2', g2⟩
        obtain ⟨dr, hr', hyd⟩ := dpAll_get rL hj
        obtain ⟨r, hrr, rfl⟩ : ∃ r, R[j]? = some r ∧ dr = rowT r := by
          rw [List.getElem?_map] at hr'
          cases e : R[j]? with
          | none =>
            rw [e] at hr'
            cases hr'
          | some c =>
            rw [e] at hr'
            exact ⟨c, rfl, (Option.some.inj hr').symm⟩
        have hjl := (List.getElem?_eq_some_iff.mp hrr).1
        obtain ⟨ar, xr, rfl, qr, rr⟩ := dp_tup (dp_same s2' hyd)
        obtain rfl := dpAll_eqn rr
        have lr := rl r (List.mem_of_getElem? hrr)
        obtain ⟨accL, eL, _⟩ := id g2
        have lacc := g2.len eL
        have fl := flat_len (f := fun r : List Nat => (choiceN s o).map fun x => rowT (r ++ [x])) (m := 8) (fun r => by rw [List.length_map]; exact c8) (R.take j)
        rw [List.length_take] at fl
        have s02 := s1.trans s2'
        refine ⟨_, rfl, .inl ⟨rfl, _, SqL.of eL⟩, _, rfl, _, rfl, ah, _, _, vj, rfl, rfl, seqT s02 qh, by rw [Int.zero_add]; exact atI_nat evj, rfl, _, rfl, ?_⟩
        refine ifE (fun x H' => ∃ M, x = .ref M ∧ Same H2 H' ∧ H' M = some (.lst ((choiceN s o).map fun n : Nat => V.int n))) (fun hc Q' hQ => ?_) (fun hc Q' hQ => ?_) ?_
        · cases o with
          | some m =>
            cases dvj
            cases hc
          | none =>
            refine ⟨_, rfl, _, rfl, RgOk.of_le (by omega) (by omega) (by omega) (by omega), fun M hM => ?_⟩
            have er : rgV 0 (s : Int) = (List.range s).map fun n : Nat => V.int n := by
              unfold rgV
              rw [Int.sub_zero, Int.toNat_natCast]
              exact List.map_congr_left fun n _ => by rw [Int.zero_add]
            rw [er]
            exact hQ _ _ ⟨M, rfl, same_new hM, upd_same⟩
        · cases o with
          | none =>
            cases dvj
            exact absurd rfl hc
          | some m =>
            cases dvj
            refine ⟨_, rfl, _, rfl, ah, _, _, _, rfl, rfl, seqT s02 qh, by rw [Int.zero_add]; exact atI_nat evj, (by show 1 ≤ sizeLine; decide), fun M hM => ?_⟩
            exact hQ _ _ ⟨M, rfl, same_new hM, upd_same⟩
        rintro _ H2' ⟨M, rfl, sM, eM⟩
        have s2' := s2'.trans sM
        have g2 := g2.keep sM
        have eL := sM _ _ eL
        have qr := seqT sM qr
        refine ⟨M, rfl, ⟨_, SqL.of eM⟩, fun D hD => walk_it walk_list (fun k H3 => Same H2' H3 ∧ Grow K H3 D (((choiceN s o).take k).map fun x => rowT (r ++ [x]))) ⟨same_new hD, Grow.nil⟩ (fun _ H' _ q => SqL.of (q.1 _ _ eM)) ?_ ?_⟩
        · rintro k x _ H3 hk ⟨s3, g3⟩ ⟨rfl, hx⟩
          rw [List.length_map] at hk
          obtain ⟨m, hm, rfl⟩ : ∃ m, (choiceN s o)[k]? = some m ∧ x = .int (m : Nat) := by
            rw [List.getElem?_map, List.getElem?_eq_getElem hk] at hx
            exact ⟨_, List.getElem?_eq_getElem hk, (Option.some.inj hx).symm⟩
          refine ⟨rfl, ?_⟩
          obtain ⟨acc, eD, _⟩ := id g3
          have lD := g3.len eD
          rw [List.length_map, List.length_take] at lD
          refine ⟨_, rfl, _, rfl, (by show 1 ≤ sizeLine; decide), fun t1 ht1 => ?_⟩
          have s4 := same_new (o := .tup [.int (m : Int)]) ht1
          refine cat_any (seqT (s3.trans s4) qr) (SqT.of upd_same) (by rw [List.length_map, lr, sizeLine_eq]; show i + 1 ≤ _; omega) fun H5 c s5 qc => ?_
          have s45 := s4.trans s5
          have eD5 := s45 _ _ eD
          refine ⟨acc, eD5, by rw [lD, sizeLine_eq]; omega, same_of (s3.trans s45) hD, ?_⟩
          rw [take_more hm, List.map_append]
          refine (g3.keep s45).put eD5 (.tup (seqT_offL eD5 qc) ?_)
          have := dpAll_mkn (K := K) (H := off H5 D) (r ++ [m])
          rw [List.map_append] at this
          exact this
        · rintro H3 ⟨s3, g3⟩
          obtain ⟨zs, e3, d3⟩ := id g3
          have eL3 := s3 _ _ eL
          have lz := g3.len e3
          rw [List.length_map, List.length_take, List.length_map] at lz
          refine ⟨L, D, accL, zs, rfl, rfl, eL3, e3, by rw [lacc, lz, sizeLine_eq]; omega, ?_⟩
          have nL : H1 L = none := hL
          refine ⟨some (.ref ar), rfl, same_of (s2'.trans s3) nL, accL ++ zs, upd_same, ?_⟩
          rw [off_upd, take_more hrr, List.flatMap_append]
          obtain ⟨vs, ev, dv⟩ := g2.keep s3
          rw [eL3] at ev
          cases ev
          refine dpAll_app dv ?_
          have er : ([r].flatMap fun r => (choiceN s o).map fun x => rowT (r ++ [x])) = ((choiceN s o).map fun x => r ++ [x]).map rowT := by
            simp only [List.flatMap_cons, List.flatMap_nil, List.append_nil, List.map_map]
            rfl
          rw [er]
          refine rows_off eL3 (dpAll_same (off_le (a := D)) ?_)
          rw [List.length_map, List.take_length] at d3
          rw [List.map_map]
          exact d3
      · rintro σ H2 ⟨u, rfl, s2', g2⟩
        refine ⟨_, rfl, _, _, _, _, _, _, _, _, rfl, s1.trans s2', ?_⟩
        rw [lL, List.take_length] at g2
        have e1 : (rowsN ((os.take (i + 1)).map (choiceN s))).map rowT = R.flatMap fun r => (choiceN s o).map fun x => rowT (r ++ [x]) := by
          rw [eR]
          unfold stepN
          rw [List.map_flatMap]
          simp only [List.map_map]
          rfl
        rw [e1]
        obtain ⟨vs, e2, d2⟩ := g2
        exact ⟨L, vs, rfl, none_same s1 hL, e2, dpAll_same off_le d2⟩
    · rintro σ H1 ⟨Lv, u5, u6, u7, u8, u9, u10, u11, rfl, s1, dL⟩
      obtain ⟨aR, xR, rfl, nR, eR, rR⟩ := dL
      have et : os.take n = os := List.take_of_length_le (by omega)
      rw [et] at rR
      have rl := rowsN_len (os.map (choiceN s))
      rw [List.length_map, lo] at rl
      have rlt := rowsN_lt (os.map (choiceN s)) (choice_lt hlt)
      have kk : ∀ b, b = (rowsN (os.map (choiceN s))).any (rowHangs s as p) → ∀ H', Same H H' → Q (.bl b) H' := fun b e H' s' => by
        rw [e]
        exact k H' s'
      clear k
      generalize rowsN (os.map (choiceN s)) = R at rR rl rlt kk
      have lR : xR.length = R.length := by rw [dpAll_len rR, List.length_map]
      refine ⟨_, rfl, aR, rfl, ⟨_, SqL.of eR⟩, for_list (K := K) (a := aR) (xs := xR) (fun i σ H' => ∃ u7 u8 u9 u10 u11 : Option V, σ = [some (.int s), some (.ref ao), some (.ref ah), some (.int (p : Nat)), some (.ref aR), u5, u6, u7, u8, u9, u10, u11, none] ∧ Same H1 H' ∧ (R.take i).any (rowHangs s as p) = false)
        ⟨u7, u8, u9, u10, u11, rfl, Same.refl H1, rfl⟩ (fun i σ H' _ h => by obtain ⟨_, _, _, _, _, _, s', _⟩ := h; exact SqL.of (s' _ _ eR)) ?_ ?_⟩
      · rintro i x σ H2 hx ⟨u7, u8, u9, u10, u11, rfl, s2', hn⟩
        obtain ⟨dr, hr', hyd⟩ := dpAll_get rR hx
        obtain ⟨r, hrr, rfl⟩ : ∃ r, R[i]? = some r ∧ dr = rowT r := by
          rw [List.getElem?_map] at hr'
          cases e : R[i]? with
          | none =>
            rw [e] at hr'
            cases hr'
          | some c =>
            rw [e] at hr'
            exact ⟨c, rfl, (Option.some.inj hr').symm⟩
        have lr := rl r (List.mem_of_getElem? hrr)
        have xr := rlt r (List.mem_of_getElem? hrr)
        obtain ⟨ar, xs, rfl, qr, rr⟩ := dp_tup (dp_same s2' hyd)
        obtain rfl := dpAll_eqn rr
        refine ⟨(by show 0 ≤ sizeLine; decide), fun L hL => ?_⟩
        have eL2 : upd H2 L (.lst []) L = some (.lst []) := upd_same
        have s23 : Same H2 (upd H2 L (.lst [])) := same_new hL
        generalize upd H2 L (.lst []) = H3 at eL2 s23
        have kp : ∀ {H'}, But L H3 H' → Same H2 H' := fun b c o e => b c o (s23 c o e) (ne_of_none e hL)
        have s02 := s1.trans s2'
        refine ⟨_, rfl, s, rfl, by omega, by omega, ?_⟩
        rw [Int.toNat_natCast]
        refine for_range (n := s) (fun v σ H' => ∃ u8 u10 u11 : Option V, σ = [some (.int s), some (.ref ao), some (.ref ah), some (.int (p : Nat)), some (.ref aR), u5, u6, some (.ref ar), u8, some (.ref L), u10, u11, none] ∧ But L H3 H' ∧ H' L = some (.lst ((List.range v).map fun v => V.int ((as.getD (spotN s (row3 r p v)) 0 : Nat) : Int))))
          ⟨u8, u10, u11, rfl, But.refl L H3, eL2⟩ ?_ ?_
        · rintro v σ H4 hv ⟨u8, u10, u11, rfl, b4, eL4⟩
          have s24 := kp b4
          refine ⟨_, rfl, _, rfl, (p : Int), rfl, sl_any (seqT s24 qr) fun H5 c5 s5 q5 => ?_⟩
          refine ⟨_, rfl, (by show 1 ≤ sizeLine; decide), fun t ht => ?_⟩
          have s6 := same_new (o := .tup [.int (0 + (v : Int))]) ht
          have l5 : (cutV (r.map fun n : Nat => V.int n) none (some (p : Int))) = (r.take p).map fun n : Nat => V.int n := by
            rw [cut_lo _ (by rw [List.length_map]; omega), List.map_take]
          rw [l5] at q5
          refine cat_any (seqT s6 q5) (SqT.of upd_same) (by rw [List.length_map, List.length_take, sizeLine_eq]; show min p r.length + 1 ≤ _; omega) fun H7 c7 s7 q7 => ?_
          have s57 := s5.trans (s6.trans s7)
          refine ⟨_, rfl, _, rfl, _, _, rfl, rfl, ((p + 1 : Nat) : Int), (by show V.int ((p : Int) + 1) = _; rfl), ?_⟩
          refine ⟨ar, _, rfl, seqT (s24.trans s57) qr, fun h => absurd h.1 ?_, fun _ c8 hc8 => ?_⟩
          · rw [HT.sIx_nat, List.length_map]
            omega
          have s8' := same_new (o := .tup (cutV (r.map fun n : Nat => V.int n) (some ((p + 1 : Nat) : Int)) none)) hc8
          have q8 : SqT K (upd H7 c8 (.tup (cutV (r.map fun n : Nat => V.int n) (some ((p + 1 : Nat) : Int)) none))) c8 (cutV (r.map fun n : Nat => V.int n) (some ((p + 1 : Nat) : Int)) none) := SqT.of upd_same
          generalize upd H7 c8 (.tup (cutV (r.map fun n : Nat => V.int n) (some ((p + 1 : Nat) : Int)) none)) = H8 at s8' q8
          rw [cut_hi] at q8
          refine cat_any (seqT s8' q7) q8 (by rw [List.length_append, List.length_map, List.length_take, List.length_drop, List.length_map, sizeLine_eq]; show min p r.length + 1 + (r.length - (p + 1)) ≤ _; omega) fun H9 c9 s9 q9 => ?_
          have s49 := s57.trans (s8'.trans s9)
          have e9 : (r.take p).map (fun n : Nat => V.int n) ++ [V.int (0 + (v : Int))] ++ (r.map fun n : Nat => V.int n).drop (p + 1) = (row3 r p v).map fun n : Nat => V.int n := by
            unfold row3
            rw [List.map_append, List.map_append, List.map_drop, Int.zero_add]
            rfl
          rw [e9] at q9
          have l3 := row3_len (v := v) lr hp
          have lt3 := row3_lt (p := p) xr hv
          refine ⟨c9, rfl, ⟨_, q9⟩, ?_⟩
          refine for_tup (K := K) (a := c9) (xs := (row3 r p v).map fun n : Nat => V.int n) (fun j σ H' => ∃ u11 : Option V, σ = [some (.int s), some (.ref ao), some (.ref ah), some (.int (p : Nat)), some (.ref aR), u5, u6, some (.ref ar), some (.int (0 + (v : Int))), some (.ref L), some (.int (spotN s ((row3 r p v).take j) : Nat)), u11, none] ∧ H' = H9)
            ?_ (fun j σ H' _ h => by obtain ⟨_, _, rfl⟩ := h; exact q9) ?_ ?_
          · exact ⟨u11, rfl, rfl⟩
          · rintro j x σ H' hx ⟨u11, rfl, rfl⟩
            obtain ⟨m, hm, rfl⟩ : ∃ m, (row3 r p v)[j]? = some m ∧ x = .int (m : Nat) := by
              rw [List.getElem?_map] at hx
              cases e : (row3 r p v)[j]? with
              | none =>
                rw [e] at hx
                cases hx
              | some c =>
                rw [e] at hx
                exact ⟨c, rfl, (Option.some.inj hx).symm⟩
            refine ⟨_, rfl, _, rfl, _, _, rfl, rfl, .inr ⟨by omega, by omega⟩, _, rfl, _, _, rfl, rfl, some (.int (m : Nat)), ?_, rfl⟩
            rw [take_more hm, spot_snoc, Int.natCast_add, Int.natCast_mul]
            rfl
          · rintro σ H' ⟨u11, rfl, rfl⟩
            rw [List.length_map, List.take_length]
            have eL9 := s49 _ _ eL4
            have hsp := spot_lt' s8 lt3
            rw [l3, ← la] at hsp
            refine ⟨_, rfl, .inl ⟨rfl, _, SqL.of eL9⟩, _, rfl, ao, _, _, _, rfl, rfl, seqT (s02.trans (s24.trans s49)) qo, atI_nat (j := 1) rfl, _, rfl, aa, _, _, .int (as[spotN s (row3 r p v)] : Nat), rfl, rfl, seqT (s02.trans (s24.trans s49)) qa, atI_nat (by rw [List.getElem?_map, List.getElem?_eq_getElem hsp]; rfl), ?_⟩
            refine ⟨L, _, _, rfl, rfl, eL9, by rw [List.length_map, List.length_range, sizeLine_eq]; omega, some (.int (0 + (v : Int))), some (.int (spotN s (row3 r p v) : Nat)), u11, rfl, (b4.trans (But.of s49)).put, ?_⟩
            rw [upd_same, List.range_succ, List.map_append]
            have : as.getD (spotN s (row3 r p v)) 0 = as[spotN s (row3 r p v)] := by rw [List.getD_eq_getElem?_getD, List.getElem?_eq_getElem hsp]; rfl
            simp only [List.map_cons, List.map_nil, this]
        · rintro σ H4 ⟨u8, u10, u11, rfl, b4, eL4⟩
          have s24 := kp b4
          have el : ((List.range s).map fun v => V.int ((as.getD (spotN s (row3 r p v)) 0 : Nat) : Int)) = (endsL s as r p).map fun n : Nat => V.int n := by
            unfold endsL
            rw [List.map_map]
            rfl
          rw [el] at eL4
          have le : (endsL s as r p).length = s := by unfold endsL; rw [List.length_map, List.length_range]
          have e0 : (endsL s as r p)[0]? = some ((endsL s as r p).headD 0) := by
            cases h : endsL s as r p with
            | nil =>
              rw [h] at le
              simp at le
              omega
            | cons a l => rfl
          refine ⟨_, rfl, L, rfl, ⟨_, SqL.of eL4⟩, fun D hD => walk_it walk_list (fun j H5 => Same H4 H5 ∧ H5 D = some (.lst ((((endsL s as r p).take j).filter fun e => !decide (V.int (e : Nat) = V.int (((endsL s as r p).headD 0 : Nat) : Int))).map fun n : Nat => V.int n))) ⟨same_new hD, upd_same⟩ (fun _ H' _ q => SqL.of (q.1 _ _ eL4)) ?_ ?_⟩
          · rintro j x _ H5 hj ⟨s5, eD⟩ ⟨rfl, hx⟩
            refine ⟨rfl, ?_⟩
            obtain ⟨m, hm, rfl⟩ : ∃ m, (endsL s as r p)[j]? = some m ∧ x = .int (m : Nat) := by
              rw [List.getElem?_map] at hx
              cases e : (endsL s as r p)[j]? with
              | none =>
                rw [e] at hx
                cases hx
              | some c =>
                rw [e] at hx
                exact ⟨c, rfl, (Option.some.inj hx).symm⟩
            refine ⟨_, rfl, _, rfl, L, _, _, .int (((endsL s as r p).headD 0 : Nat) : Int), rfl, rfl, SqL.of (s5 _ _ eL4), atI_nat (j := 0) (by rw [List.getElem?_map, e0]; rfl), rfl, _, rfl, ?_⟩
            have lf := List.length_filter_le (fun e => !decide (V.int (e : Nat) = V.int (((endsL s as r p).headD 0 : Nat) : Int))) ((endsL s as r p).take j)
            rw [List.length_take] at lf
            by_cases hb : (!decide (V.int (m : Nat) = V.int (((endsL s as r p).headD 0 : Nat) : Int))) = true
            · refine go_t hb ?_
              refine ⟨_, rfl, _, eD, by rw [List.length_map, sizeLine_eq]; omega, same_of s5 hD, ?_⟩
              rw [upd_same, fil_take hm, if_pos hb, List.map_append]
              rfl
            · refine go_f (by simpa using hb) ?_
              refine ⟨s5, ?_⟩
              rw [fil_take hm, if_neg hb, List.append_nil]
              exact eD
          · rintro H5 ⟨s5, eD⟩
            rw [List.length_map, List.take_length] at eD
            refine ⟨(by show 0 ≤ sizeLine; decide), fun L2 hL2 => ?_⟩
            have s6 := same_new (o := .lst []) hL2
            refine ⟨_, _, .lst (SqL.of (s6 _ _ eD)) (dpAll_mkn _), .lst (SqL.of upd_same) .nil, shaped_n _, rfl, _, rfl, ?_⟩
            rw [eqv_nil, any_fil]
            have s26 := s24.trans (s5.trans s6)
            by_cases hb : rowHangs s as p r = true
            · refine go_t hb ?_
              refine kk true ?_ _ (s02.trans s26)
              exact (List.any_eq_true.mpr ⟨r, List.mem_of_getElem? hrr, hb⟩).symm
            · refine go_f (by unfold rowHangs at hb; simpa using hb) ?_
              refine ⟨_, _, _, _, _, rfl, s2'.trans s26, ?_⟩
              rw [take_more hrr, List.any_append, hn, List.any_cons, List.any_nil]
              simpa using hb
      · rintro σ H2 ⟨u7, u8, u9, u10, u11, rfl, s2', hn⟩
        rw [lR, List.take_length] at hn
        exact kk false hn.symm _ (s1.trans s2')
end
end K46
/-! what is alike in the program's look and the law's. -/
namespace K46
open PySem L2 FX SQ
abbrev ne2 (as : List Nat) (x : Nat × Nat) : Bool := !decide (as.getD x.1 0 = as.getD x.2 0)
def pairsA (s n p : Nat) : List (Nat × Nat) := (List.range (s ^ n)).map fun i => (i, lowI s (stO s n p) i)
def pairsL (s : Nat) (os : List (Option Nat)) (p : Nat) : List (Nat × Nat) := (rowsN (os.map (choiceN s))).flatMap fun r => (List.range s).map fun v => (spotN s (row3 r p v), spotN s (row3 r p 0))
def subP (A B : List (Nat × Nat)) : Bool := A.all fun x => decide (x.1 = x.2) || B.contains x
theorem sub_any {as : List Nat} {A B : List (Nat × Nat)} (h : subP A B = true) (ha : A.any (ne2 as) = true) : B.any (ne2 as) = true := by
  obtain ⟨x, hx, hn⟩ := List.any_eq_true.mp ha
  have := List.all_eq_true.mp h x hx
  rw [Bool.or_eq_true] at this
  rcases this with e | e
  · have e := of_decide_eq_true e
    unfold ne2 at hn
    rw [e] at hn
    simp at hn
  · exact List.any_eq_true.mpr ⟨x, by simpa using e, hn⟩
theorem sub_eq {as : List Nat} {A B : List (Nat × Nat)} (h1 : subP A B = true) (h2 : subP B A = true) : A.any (ne2 as) = B.any (ne2 as) := Bool.eq_iff_iff.mpr ⟨sub_any h1, sub_any h2⟩
theorem vint_eq (a b : Nat) : decide (V.int (a : Nat) = V.int (b : Nat)) = decide (a = b) := by
  refine decide_eq_decide.mpr ⟨fun z => ?_, fun z => by rw [z]⟩
  injection z with z
  omega
theorem hangsA_pairs (s n : Nat) (as : List Nat) (p : Nat) : hangsA s n as p = (pairsA s n p).any (ne2 as) := by
  unfold hangsA pairsA
  rw [List.any_map]
  rfl
theorem hangsL_pairs {s : Nat} (hs : 1 ≤ s) (as : List Nat) (os : List (Option Nat)) (p : Nat) : hangsL s as os p = (pairsL s os p).any (ne2 as) := by
  unfold hangsL pairsL
  rw [List.any_flatMap]
  congr 1
  funext r
  have e0 : (endsL s as r p).headD 0 = as.getD (spotN s (row3 r p 0)) 0 := by
    unfold endsL
    cases s with
    | zero => omega
    | succ m =>
      rw [List.range_succ_eq_map]
      rfl
  unfold rowHangs
  rw [e0]
  unfold endsL
  rw [List.any_map, List.any_map]
  congr 1
  funext v
  show (!decide (V.int _ = V.int _)) = _
  rw [vint_eq]
  rfl
/-- the sizes and places that are drawn -/
def SN (s n : Nat) : Prop := 1 ≤ n ∧ ((s = 2 ∧ n ≤ 3) ∨ (s = 3 ∧ n ≤ 2))
theorem SN.all {f : Nat → Nat → Bool} (h : (f 2 1 && f 2 2 && f 2 3 && f 3 1 && f 3 2) = true) {s n : Nat} (hh : SN s n) : f s n = true := by
  simp only [Bool.and_eq_true] at h
  obtain ⟨⟨⟨⟨h1, h2⟩, h3⟩, h4⟩, h5⟩ := h
  obtain ⟨n1, ⟨rfl, n3⟩ | ⟨rfl, n2⟩⟩ := hh
  · obtain rfl | rfl | rfl : n = 1 ∨ n = 2 ∨ n = 3 := by omega
    · exact h1
    · exact h2
    · exact h3
  · obtain rfl | rfl : n = 1 ∨ n = 2 := by omega
    · exact h4
    · exact h5
def m1 (s n : Nat) : Bool := (List.range n).all fun p => subP (pairsA s n p) (pairsL s (List.replicate n none) p) && subP (pairsL s (List.replicate n none) p) (pairsA s n p)
theorem hangs_same {s n p : Nat} {as : List Nat} (h : SN s n) (hp : p < n) : hangsL s as (List.replicate n none) p = hangsA s n as p := by
  have h1 := all_lt (SN.all (f := m1) (by decide +kernel) h) hp
  rw [Bool.and_eq_true] at h1
  rw [hangsA_pairs, hangsL_pairs (by obtain ⟨_, ⟨rfl, _⟩ | ⟨rfl, _⟩⟩ := h <;> decide)]
  exact sub_eq h1.2 h1.1
def rowsIdx (s : Nat) (os : List (Option Nat)) : List Nat := (rowsN (os.map (choiceN s))).map (spotN s)
theorem heldAns_idx (s : Nat) (as : List Nat) (os : List (Option Nat)) : heldAns s as os = (rowsIdx s os).map fun i => as.getD i 0 := by
  unfold heldAns rowsIdx
  rw [List.map_map]
  rfl
def pairsH (s : Nat) (h : List (Option Nat)) (q : Nat) : List (Nat × Nat) := (pairsA s 2 q).map fun x => ((rowsIdx s h).getD x.1 0, (rowsIdx s h).getD x.2 0)
def m2 (s n : Nat) : Bool := (List.range n).all fun o => (List.range o).all fun p => (heldsO s n p o).all fun h => subP (pairsH s h 0) (pairsL s h p) && subP (pairsH s h 1) (pairsL s h o) && ((pairsA s 2 0 ++ pairsA s 2 1).all fun x => decide (x.1 < (rowsIdx s h).length) && decide (x.2 < (rowsIdx s h).length)) &&
  decide (h.length = n) && ((List.range n).all fun a => (h.getD a (some 0)).isNone == (decide (a = p) || decide (a = o)))
theorem hungN_two {s : Nat} {as : List Nat} (h : (hungN s 2 as).length = 2) : hangsA s 2 as 0 = true ∧ hangsA s 2 as 1 = true := by
  unfold hungN at h
  rw [show List.range 2 = [0, 1] from rfl] at h
  cases e0 : hangsA s 2 as 0 <;> cases e1 : hangsA s 2 as 1 <;> simp [List.filter_cons, e0, e1] at h ⊢
theorem any_held {s : Nat} {as : List Nat} {h : List (Option Nat)} {q : Nat} (hl : ∀ x ∈ pairsA s 2 q, x.1 < (rowsIdx s h).length ∧ x.2 < (rowsIdx s h).length) : (pairsA s 2 q).any (ne2 (heldAns s as h)) = (pairsH s h q).any (ne2 as) := by
  unfold pairsH
  rw [List.any_map]
  refine Bool.eq_iff_iff.mpr ?_
  rw [List.any_eq_true, List.any_eq_true]
  have go : ∀ x ∈ pairsA s 2 q, ne2 (heldAns s as h) x = ne2 as ((rowsIdx s h).getD x.1 0, (rowsIdx s h).getD x.2 0) := fun x hx => by
    obtain ⟨h1, h2⟩ := hl x hx
    have e : ∀ i, i < (rowsIdx s h).length → (heldAns s as h).getD i 0 = as.getD ((rowsIdx s h).getD i 0) 0 := fun i hi => by
      rw [heldAns_idx, List.getD_eq_getElem?_getD, List.getElem?_map, List.getElem?_eq_getElem hi, List.getD_eq_getElem?_getD (l := rowsIdx s h), List.getElem?_eq_getElem hi]
      rfl
    unfold ne2
    rw [e _ h1, e _ h2]
  exact ⟨fun ⟨x, hx, hn⟩ => ⟨x, hx, by rw [← hn, go x hx]; rfl⟩, fun ⟨x, hx, hn⟩ => ⟨x, hx, by rw [go x hx]; exact hn⟩⟩
theorem two_right {s n o p : Nat} {as : List Nat} {h : List (Option Nat)} (hs : SN s n) (ho : o < n) (hp : p < o) (hh : h ∈ heldsO s n p o) (g : goodO s as (p, o, h) = true) : hangsL s as h p = true ∧ hangsL s as h o = true ∧ h.length = n ∧ ∀ a < n, (h.getD a (some 0)).isNone = (decide (a = p) || decide (a = o)) := by
  have h1 := List.all_eq_true.mp (all_lt (all_lt (SN.all (f := m2) (by decide +kernel) hs) ho) hp) h hh
  simp only [Bool.and_eq_true, decide_eq_true_eq, List.all_eq_true, List.mem_append] at h1
  obtain ⟨⟨⟨⟨h1, h2⟩, h3⟩, h4⟩, h5⟩ := h1
  obtain ⟨g0, g1⟩ := hungN_two (of_decide_eq_true g)
  rw [hangsA_pairs] at g0 g1
  have s1 : 1 ≤ s := by obtain ⟨_, ⟨rfl, _⟩ | ⟨rfl, _⟩⟩ := hs <;> decide
  rw [hangsL_pairs s1, hangsL_pairs s1]
  refine ⟨sub_any h1 ?_, sub_any h2 ?_, h4, fun a ha => by simpa using h5 a (List.mem_range.mpr ha)⟩
  · rw [← any_held fun x hx => h3 x (.inl hx)]
    exact g0
  · rw [← any_held fun x hx => h3 x (.inr hx)]
    exact g1
end K46
namespace K46
open PySem L2 FX SQ
theorem mem_grid {s : Nat} : ∀ {m : Nat} {as : List Nat}, as.length = m → (∀ a ∈ as, a < s) → as ∈ gridN s m
  | 0, [], _, _ => List.mem_singleton.mpr rfl
  | m + 1, as, l, h => by
    rw [gridN_succ]
    have ne : as ≠ [] := fun z => by rw [z] at l; cases l
    have e := List.dropLast_concat_getLast ne
    have ld : as.dropLast.length = m := by rw [List.length_dropLast]; omega
    have h1 := mem_grid (s := s) ld fun a ha => h a ((List.dropLast_subset as) ha)
    rw [← e]
    unfold stepN
    exact List.mem_flatMap.mpr ⟨_, h1, List.mem_map.mpr ⟨_, List.mem_range.mpr (h _ (List.getLast_mem ne)), rfl⟩⟩
theorem getD_range {as : List Nat} {m : Nat} (l : as.length = m) : (List.range m).map (fun i => as.getD i 0) = as := by
  refine List.ext_getElem (by rw [List.length_map, List.length_range, l]) fun i h1 h2 => ?_
  rw [List.getElem_map, List.getElem_range, List.getD_eq_getElem?_getD, List.getElem?_eq_getElem h2]
  rfl
theorem tabs_two : ((gridN 2 8).all fun as => !decide (2 ≤ (hungN 2 3 as).length) || (twoN 2 3 as).isSome) = true := by decide +kernel
theorem two_some {s n : Nat} {as : List Nat} (hs : SN s n) (la : as.length = s ^ n) (hlt : ∀ a ∈ as, a < s) : 2 ≤ (hungN s n as).length → twoN s n as ≠ none := by
  intro h2
  have two : ∀ s, (s = 2 ∨ s = 3) → as.length = s ^ 2 → 2 ≤ (hungN s 2 as).length → twoN s 2 as ≠ none := by
    intro s hs la h2
    have e : (List.range 2).flatMap (candP s 2) = [(0, 1, [none, none])] := by rcases hs with rfl | rfl <;> decide +kernel
    have ei : rowsIdx s [none, none] = List.range (s ^ 2) := by rcases hs with rfl | rfl <;> decide +kernel
    have eh : heldAns s as [none, none] = as := by
      rw [heldAns_idx, ei]
      exact getD_range la
    have hf := hung_few (s := s) (n := 2) (as := as)
    have g : goodO s as (0, 1, [none, none]) = true := by
      unfold goodO
      rw [eh]
      exact decide_eq_true (by omega)
    unfold twoN
    rw [e, List.find?_cons, g]
    exact fun z => nomatch z
  obtain ⟨n1, ⟨rfl, n3⟩ | ⟨rfl, n2⟩⟩ := hs
  · obtain rfl | rfl | rfl : n = 1 ∨ n = 2 ∨ n = 3 := by omega
    · have := hung_few (s := 2) (n := 1) (as := as)
      omega
    · exact two 2 (.inl rfl) la h2
    · have := List.all_eq_true.mp tabs_two as (mem_grid la hlt)
      rw [Bool.or_eq_true] at this
      rcases this with h | h
      · simp at h
        omega
      · exact Option.isSome_iff_ne_none.mp h
  · obtain rfl | rfl : n = 1 ∨ n = 2 := by omega
    · have := hung_few (s := 3) (n := 1) (as := as)
      omega
    · exact two 3 (.inr rfl) la h2
def m4 (s n : Nat) : Bool := (List.range n).all fun p => decide (rowsIdx s (oneO n p) = (List.range s).map fun v => v * stO s n p)
theorem one_tab {s n p : Nat} (as : List Nat) (hs : SN s n) (hp : p < n) : heldAns s as (oneO n p) = (List.range s).map fun v => as.getD (v * stO s n p) 0 := by
  have h := of_decide_eq_true (all_lt (SN.all (f := m4) (by decide +kernel) hs) hp)
  rw [heldAns_idx, h, List.map_map]
  rfl
def cnts (s : Nat) (as : List Nat) : List Nat := (List.range s).map fun v => as.countP fun a => a == v
def cntOk (s : Nat) (as : List Nat) : Bool := !((cnts s as).any fun c => !decide (c = (cnts s as).headD 0))
def m5 (s n : Nat) (as : List Nat) : Bool := match hungN s n as with
  | [p] => decide (heldAns s as (oneO n p)).Nodup == cntOk s as
  | _ => true
theorem tabs_let : (((gridN 2 2).all (m5 2 1) && (gridN 2 4).all (m5 2 2)) && ((gridN 2 8).all (m5 2 3) && (gridN 3 3).all (m5 3 1))) = true := by decide +kernel
theorem tabs_let0 : ((List.range 3).all fun a => (List.range 3).all fun b => (List.range 3).all fun c => m5 3 2 [a, a, a, b, b, b, c, c, c] && m5 3 2 [a, b, c, a, b, c, a, b, c]) = true := by decide +kernel
theorem hangs_no {s n p i : Nat} {as : List Nat} (h : hangsA s n as p = false) (hi : i < s ^ n) : as.getD i 0 = as.getD (lowI s (stO s n p) i) 0 := by
  unfold hangsA at h
  have := List.any_eq_false.mp h i (List.mem_range.mpr hi)
  simpa using this
theorem m5_ok {s n : Nat} {as : List Nat} (hs : SN s n) (la : as.length = s ^ n) (hlt : ∀ a ∈ as, a < s) : m5 s n as = true := by
  have h := tabs_let
  simp only [Bool.and_eq_true, List.all_eq_true] at h
  obtain ⟨⟨h1, h2⟩, h3, h4⟩ := h
  obtain ⟨n1, ⟨rfl, n3⟩ | ⟨rfl, n2⟩⟩ := hs
  · obtain rfl | rfl | rfl : n = 1 ∨ n = 2 ∨ n = 3 := by omega
    · exact h1 as (mem_grid la hlt)
    · exact h2 as (mem_grid la hlt)
    · exact h3 as (mem_grid la hlt)
  · obtain rfl | rfl : n = 1 ∨ n = 2 := by omega
    · exact h4 as (mem_grid la hlt)
    · match as, la, hlt with
      | [a0, a1, a2, a3, a4, a5, a6, a7, a8], _, hlt =>
        have t := tabs_let0
        have b0 : a0 < 3 := hlt a0 (by simp)
        have b1 : a1 < 3 := hlt a1 (by simp)
        have b2 : a2 < 3 := hlt a2 (by simp)
        have b3 : a3 < 3 := hlt a3 (by simp)
        have b6 : a6 < 3 := hlt a6 (by simp)
        unfold m5
        cases e0 : hangsA 3 2 [a0, a1, a2, a3, a4, a5, a6, a7, a8] 0 <;> cases e1 : hangsA 3 2 [a0, a1, a2, a3, a4, a5, a6, a7, a8] 1
        · have eh : hungN 3 2 [a0, a1, a2, a3, a4, a5, a6, a7, a8] = [] := by
            unfold hungN
            rw [show List.range 2 = [0, 1] from rfl]
            simp [List.filter_cons, e0, e1]
          rw [eh]
        · have c3 : a3 = a0 := hangs_no e0 (i := 3) (by decide)
          have c4 : a4 = a1 := hangs_no e0 (i := 4) (by decide)
          have c5 : a5 = a2 := hangs_no e0 (i := 5) (by decide)
          have c6 : a6 = a0 := hangs_no e0 (i := 6) (by decide)
          have c7 : a7 = a1 := hangs_no e0 (i := 7) (by decide)
          have c8 : a8 = a2 := hangs_no e0 (i := 8) (by decide)
          subst c3 c4 c5 c6 c7 c8
          have t1 := all_lt (all_lt (all_lt t b0) b1) b2
          rw [Bool.and_eq_true] at t1
          exact t1.2
        · have c1 : a1 = a0 := hangs_no e1 (i := 1) (by decide)
          have c2 : a2 = a0 := hangs_no e1 (i := 2) (by decide)
          have c4 : a4 = a3 := hangs_no e1 (i := 4) (by decide)
          have c5 : a5 = a3 := hangs_no e1 (i := 5) (by decide)
          have c7 : a7 = a6 := hangs_no e1 (i := 7) (by decide)
          have c8 : a8 = a6 := hangs_no e1 (i := 8) (by decide)
          subst c1 c2 c4 c5 c7 c8
          have t1 := all_lt (all_lt (all_lt t b0) b3) b6
          rw [Bool.and_eq_true] at t1
          exact t1.1
        · have eh : hungN 3 2 [a0, a1, a2, a3, a4, a5, a6, a7, a8] = [0, 1] := by
            unfold hungN
            rw [show List.range 2 = [0, 1] from rfl]
            simp [List.filter_cons, e0, e1]
          rw [eh]
/-- the law's own word which are let -/
def letL (s n : Nat) (as : List Nat) (ex : Bool) : Bool := match hungN s n as with
  | [] => true
  | [_] => ex || cntOk s as
  | _ => false
theorem let_same {s n : Nat} {as : List Nat} (hs : SN s n) (la : as.length = s ^ n) (hlt : ∀ a ∈ as, a < s) (ex : Bool) : letB s n as ex = letL s n as ex := by
  have h := m5_ok hs la hlt
  unfold m5 at h
  unfold letB letL
  match hh : hungN s n as with
  | [] => rfl
  | [p] =>
    rw [hh] at h
    have h : (decide (heldAns s as (oneO n p)).Nodup == cntOk s as) = true := h
    rw [beq_iff_eq] at h
    rw [← h]
  | p :: q :: r => rfl
end K46
/-! A tuple so many times, once too (then it is itself). -/
namespace SQ
open PySem PySem.Spec PyProof.Rows L2 K46
theorem tuple_mul1 (l : Addr) (items : Array Value) (n : Nat) (dd : Option Addr) (sl : Array (Option Value)) (u : Tok) :
    Meets (Builtin.«tuple.__mul__» ⟨[.ref l, .int 1 u], []⟩) (fun _ R s => s.heap.get? l = some { cls := .type "tuple", dict := dd, data := .seq items n, slots := sl } ∧ R (.ok (.ret (Value.ref l))) s) :=
  .of_wp fun prog w A R s h => by
    obtain ⟨hp, g, d, tk, os⟩ := s
    obtain ⟨hl, h⟩ := h
    have f1 := AutoSeq1.idx_int
    wp_walk using wpAny_loadPart' hl
    exact ⟨_, rfl, h⟩
def rRepA (K : PySem.W.Frag) : R2 := fun x y H Q => ∃ l k xs, x = .ref l ∧ y = .int k ∧ SqT K H l xs ∧ xs ≠ [] ∧ 1 ≤ k ∧ k ≤ 1000 ∧ xs.length ≤ 1000 ∧ ∀ H' c, Same H H' → SqT K H' c (List.replicate k.toNat xs).flatten → Q (.ref c) H'
theorem op_repA {X : Cx} : OpR X (binaryOp .Mult) (rRepA X.K) := by
  intro pins s σ H x y v u Q I rx ry h
  obtain ⟨l, k, xs, rfl, rfl, hT, hne, h1, h2, hz, q⟩ := h
  by_cases hk : k = 1
  · subst hk
    cases rx
    obtain ⟨t, rfl⟩ := ry
    obtain ⟨its, r, ⟨⟨cls, dd, data, sl⟩, ho, hc, n, hd⟩, hs⟩ := I.tuple hT
    simp only at hc hd
    subst hc hd
    refine wpAny_binaryOp_repeat_ref (T := "tuple") (U := "int") (by decide) ⟨_, ho, rfl⟩ (fun s' => typeIs_int s' 1 t) noFill_tuple_mul F.fills_int_mul F.slot_int_rmul repeat_tuple F.slot_int_index.lookup
      (call_meets F.slot_int_rmul (typeIs_int s 1 t) F.entry_int_rmul (F.args_int_rmul_2 _ _) (int_rmul_tuple 1 t l its.toArray n dd sl)
        ⟨ho, rfl, ⟨_, ho, rfl⟩, call_meets F.slot_tuple_mul ⟨_, ho, rfl⟩ F.entry_tuple_mul (F.args_tuple_mul_2 _ _) (tuple_mul1 l its.toArray n dd sl t) ⟨ho, ?_⟩⟩)
    refine ⟨.ref l, H, I, rfl, q H l (Same.refl H) ?_⟩
    show SqT _ H l (List.replicate 1 xs).flatten
    rw [List.replicate_one, List.flatten_singleton]
    exact hT
  · exact op_repT pins s σ H _ _ v u Q I rx ry ⟨l, k, xs, rfl, rfl, hT, hne, by omega, h2, hz, fun p hp => q _ p (same_new hp) (SqT.of upd_same)⟩
end SQ
/-! the law's own places, and what is let. -/
namespace K46
open PySem L2 FX SQ
theorem non_flat (n : Nat) : (List.replicate (n : Int).toNat [V.non]).flatten = List.replicate n V.non := by
  rw [Int.toNat_natCast]
  induction n with
  | zero => rfl
  | succ n ih =>
    rw [List.replicate_succ, List.flatten_cons, ih]
    rfl
theorem dpAll_non {K : PySem.W.Frag} {H : Hp} : ∀ n : Nat, DpAll K H (List.replicate n V.non) ((List.replicate n none).map oD)
  | 0 => .nil
  | n + 1 => .cons .non (dpAll_non n)
theorem SN.s {s n : Nat} (h : SN s n) : 2 ≤ s ∧ s ≤ 3 ∧ 1 ≤ n ∧ n ≤ 3 := by
  obtain ⟨n1, ⟨rfl, _⟩ | ⟨rfl, _⟩⟩ := h <;> omega
section
variable {P : Program} {w : World} {K : PySem.W.Frag} {mg : Str → Option Value} {base : Heap}
abbrev sPl : Stmt := top 39
def spPl (K : PySem.W.Frag) : Sp := fun vs H Q _ => ∃ (vo : V) (s n : Nat) (as : List Nat), vs = [.int s, vo] ∧ Dp K H vo (opT (n, as)) ∧ SN s n ∧ as.length = s ^ n ∧
  ∀ H' a, Same H H' → H' a = some (.lst ((hungN s n as).map fun n : Nat => V.int n)) → Q (.ref a) H'
theorem scPl : FnScope ["size", "operation", "place"] ["size", "operation"] (defScope sPl) := ⟨rfl, rfl, rfl, by decide +kernel, rfl, by decide +kernel, by decide +kernel⟩
theorem ok_pl {f fH : Addr} {fd fdH : FuncData} (F : Fun K "_law_places" "_law_places" sPl f fd) (Z : Bi mg) (FH : At K mg "_law_hangs" sHL fH fdH ["size", "operation", "held", "place"]) (GH : FnOk P w K mg base CX0 1 fH fdH ["size", "operation", "held", "place"] (spHL K)) :
    FnOk P w K mg base CX0 2 f fd ["size", "operation"] (spPl K) := by
  refine F.ok scPl (fun vs H Q E h => ?_) (fun cdv A outer sh H vs Q E hr h => ?_)
  · obtain ⟨vo, s, n, as, rfl, _⟩ := h
    rfl
  · obtain ⟨vo, s, n, as, rfl, ho, hs, la, k⟩ := h
    obtain ⟨s2, s3, n1, n3⟩ := hs.s
    refine ⟨_, pss_one (ps_ret (pe_lc (own := [("place", 2)]) (g := gName 2) (tt := tB (tCall (spHL K) [] E0 (tCons (tVar 0) (tCons (tVar 1) (tCons (tOp (rRepA K) (tTup (tCons (tC .non) tNil)) (tOp (rIxT K) (tVar 1) (tC (.int 0)))) (tCons (tVar 2) tNil)))))) (te := tVar 2) rfl scPl.nd
        (pi_range1 (by rfl) Z.range (pa_cons (pe_ix ix_tup (pv 1) pe_int (fun _ _ => rfl)) pa_nil)) (blkOk_by (N := ["size", "operation", "place"]) (sc := defScope sPl) (by decide +kernel))
        (fun _ _ _ _ _ => pg_name (i := 2) scPl.nd rfl (Or.inl rfl)) (fun _ _ _ _ _ => pts_one (pt_val (pe_call GH (hr.mono (by decide)) (by rfl) FH.g FH.F.kp FH.b .nil pass0 (by exact (pa_cons (pv 0) (pa_cons (pv 1) (pa_cons (pe_op op_repA (pe_tup (pa_cons pe_non pa_nil)) (pe_ix ix_tup (pv 1) pe_int (fun _ _ => rfl))) (pa_cons (pv 2) pa_nil)))))))) (fun _ _ _ _ _ => pv 2))), ?_⟩
    obtain ⟨ao, va, rfl, qo, da⟩ := dpT_op ho
    refine ⟨_, rfl, ao, _, _, _, rfl, rfl, qo, atI_nat (j := 0) rfl, n, rfl, by omega, by omega, ?_⟩
    rw [Int.toNat_natCast]
    refine fun D hD => walk_it walk_range (fun j H5 => Same H H5 ∧ H5 D = some (.lst (((List.range j).filter (hangsA s n as)).map fun n : Nat => V.int n))) ⟨same_new hD, upd_same⟩ (fun _ _ _ _ => trivial) ?_ ?_
    · rintro j x _ H5 hj ⟨s5, eD⟩ ⟨rfl, ex⟩
      obtain rfl := int_nat0 ex
      refine ⟨rfl, ?_⟩
      refine ⟨_, rfl, _, rfl, (by show 1 ≤ sizeLine; decide), fun l hl => ⟨_, rfl, ao, _, _, _, rfl, rfl, seqT (s5.trans (same_new hl)) qo, atI_nat (j := 0) rfl, l, _, _, rfl, rfl, SqT.of upd_same, (fun z => nomatch z), by omega, by omega, (by show 1 ≤ 1000; decide), fun H5' l2 s5' q5 => ?_⟩⟩
      rw [non_flat] at q5
      have s6 := (same_new (o := .tup [V.non]) hl).trans s5'
      refine ⟨_, rfl, .ref ao, .ref l2, s, n, j, as, List.replicate n none, rfl, dp_same (s5.trans s6) ho, .tup q5 (dpAll_non n), s2, by omega, n3, hj, List.length_replicate .., la, fun m hm => ?_, fun H6 s7 => ⟨_, rfl, ?_⟩⟩
      · have := List.eq_of_mem_replicate hm
        cases this
      rw [hangs_same hs hj]
      have s57 := s5.trans (s6.trans s7)
      have eD6 := (s6.trans s7) _ _ eD
      have lf := List.length_filter_le (hangsA s n as) (List.range j)
      rw [List.length_range] at lf
      by_cases hb : hangsA s n as j = true
      · refine go_t hb ?_
        refine ⟨_, rfl, _, eD6, by rw [List.length_map, sizeLine_eq]; omega, same_of s57 hD, ?_⟩
        rw [upd_same, range_fil, if_pos hb, List.map_append]
        rfl
      · refine go_f (by simpa using hb) ?_
        refine ⟨s57, ?_⟩
        rw [range_fil, if_neg hb, List.append_nil]
        exact eD6
    · rintro H5 ⟨s5, eD⟩
      exact k _ _ s5 eD
/-- an operation whose answers have no dict -/
def OpV (K : PySem.W.Frag) (H : Hp) (v : V) (o : Nat × List Nat) : Prop := ∃ a b, v = .ref a ∧ SqT K H a [.int (o.1 : Nat), .ref b] ∧ SqT K H b (o.2.map fun n : Nat => V.int n) ∧ Nd K H (.ref b)
theorem OpV.dp {H : Hp} {v : V} {o : Nat × List Nat} (h : OpV K H v o) : Dp K H v (opT o) := by
  obtain ⟨a, b, rfl, q, q2, _⟩ := h
  exact .tup q (.cons (.int _) (.cons (.tup q2 (dpAll_mkn _)) .nil))
theorem OpV.same {H H' : Hp} {v : V} {o : Nat × List Nat} (s : Same H H') (h : OpV K H v o) : OpV K H' v o := by
  obtain ⟨a, b, rfl, q, q2, q3⟩ := h
  exact ⟨a, b, rfl, seqT s q, seqT s q2, q3.same s⟩
abbrev sLets : Stmt := top 41
def spLets (K : PySem.W.Frag) : Sp := fun vs H Q _ => ∃ (vo : V) (wd : Str) (s n : Nat) (as : List Nat), vs = [.int s, vo, .str wd] ∧ OpV K H vo (n, as) ∧ SN s n ∧ as.length = s ^ n ∧
  ∀ H', Same H H' → Q (.bl (letL s n as (decide (V.str wd = V.str "exact")))) H'
abbrev NLets : List Str := ["size", "operation", "word", "places", "counts", "value", "many"]
theorem scLets : FnScope NLets ["size", "operation", "word"] (defScope sLets) := ⟨rfl, rfl, rfl, by decide +kernel, rfl, by decide +kernel, by decide +kernel⟩
theorem ok_lets {f fP : Addr} {fd fdP : FuncData} (F : Fun K "_law_lets" "_law_lets" sLets f fd) (Z : Bi mg) (FP : At K mg "_law_places" sPl fP fdP ["size", "operation"]) (GP : FnOk P w K mg base CX0 2 fP fdP ["size", "operation"] (spPl K)) :
    FnOk P w K mg base CX0 3 f fd ["size", "operation", "word"] (spLets K) := by
  refine F.ok scLets (fun vs H Q E h => ?_) (fun cdv A outer sh H vs Q E hr h => ?_)
  · obtain ⟨vo, wd, s, n, as, rfl, _⟩ := h
    rfl
  · obtain ⟨vo, wd, s, n, as, rfl, ho, hs, la, k⟩ := h
    obtain ⟨s2, s3, n1, n3⟩ := hs.s
    have hu := hr.units
    have hu65 := hr65 hr
    refine ⟨_, pss_cons (ps_set (i := 3) scLets.nd rfl (Or.inl rfl) (pe_call GP (hr.mono (by decide)) rfl FP.g FP.F.kp FP.b .nil pass0 (by exact (pa_cons (pv 0) (pa_cons (pv 1) pa_nil)))))
      (pss_cons (ps_if (PW.pt (pw_or (pt_cmpR op_gt (pe_callB call_len_seq (by rfl) Z.len PySem.boot_len (pa_cons (pv 3) pa_nil)) pe_int (nomark _)) (pw_or1 (pt_cmpR (op_eqD hu) (pv 3) (pe_lst pa_nil) (nomark _))))) (pss_one (ps_ret (pe_cmpR (op_eqD hu) (pv 3) (pe_lst pa_nil) (nomark _)))) pss_nil)
      (pss_cons (ps_set (i := 4) scLets.nd rfl (Or.inr rfl) (pe_lc (own := [("value", 5)]) (g := gName 5) (tt := tYes) (te := tBMT K (rCntD K .tuple) (tOp (rIxT K) (tVar 1) (tC (.int 1))) (tCons (tVar 5) tNil)) rfl scLets.nd (pi_range1 (by rfl) Z.range (pa_cons (pv 0) pa_nil)) (blkOk_by (N := NLets) (sc := defScope sLets) (by decide +kernel))
          (fun _ _ _ _ _ => pg_name (i := 5) scLets.nd rfl (Or.inl rfl)) (fun _ _ _ _ _ => pts_nil)
          (fun _ _ _ _ _ => pe_bmT PySem.F.slot_tuple_count PySem.F.type_tuple_count (mt_tcountD hu65) (pe_ix ix_tup (pv 1) pe_int (fun _ _ => rfl)) (pa_cons (pv 5) pa_nil))))
      (pss_one (ps_ret (pe_or (pe_cmpR op_eq (pv 2) pe_str (nomark _)) (pe_one (pe_cmpR (op_eqD hu) (pe_lc (own := [("many", 6)]) (g := gName 6) (tt := tTest (tOp rNe (tVar 6) (tOp (rIxL K) (tVar 4) (tC (.int 0))))) (te := tVar 6) rfl scLets.nd (pi_list (pv 4)) (blkOk_by (N := NLets) (sc := defScope sLets) (by decide +kernel))
          (fun _ _ _ _ _ => pg_name (i := 6) scLets.nd rfl (Or.inl rfl)) (fun _ _ _ _ _ => pts_one (pt_cmpR op_ne (pv 6) (pe_ix ix_list (pv 4) pe_int (fun _ _ => rfl)) (nomark _))) (fun _ _ _ _ _ => pv 6)) (pe_lst pa_nil) (nomark _)))))))), ?_⟩
    refine ⟨_, rfl, _, rfl, vo, s, n, as, rfl, ho.dp, hs, la, fun H1 a s1 ea => ?_⟩
    refine ⟨_, rfl, a, _, rfl, .inl (SqL.of ea), _, _, rfl, rfl, _, rfl, ?_⟩
    have kk := k
    unfold letL at kk
    have hl := hung_lt (s := s) (n := n) (as := as)
    match hh : hungN s n as with
    | [] =>
      rw [hh] at ea kk
      refine go_f rfl ?_
      refine ⟨_, rfl, (by show 0 ≤ sizeLine; decide), fun L2 hL2 => ⟨_, _, .lst (SqL.of (same_new hL2 _ _ ea)) (dpAll_mkn []), .lst (SqL.of upd_same) .nil, shaped_n _, rfl, _, rfl, ?_⟩⟩
      refine go_t rfl ?_
      have s2' := same_new (o := .lst []) hL2
      refine ⟨_, rfl, (by show 0 ≤ sizeLine; decide), fun L3 hL3 => ⟨_, _, .lst (SqL.of (same_new hL3 _ _ (s2' _ _ ea))) (dpAll_mkn []), .lst (SqL.of upd_same) .nil, shaped_n _, rfl, ?_⟩⟩
      exact kk _ (s1.trans (s2'.trans (same_new hL3)))
    | p :: p2 :: r =>
      rw [hh] at ea kk
      refine go_t (by simp; omega) ?_
      refine ⟨_, rfl, (by show 0 ≤ sizeLine; decide), fun L3 hL3 => ⟨_, _, .lst (SqL.of (same_new hL3 _ _ ea)) (dpAll_mkn (p :: p2 :: r)), .lst (SqL.of upd_same) .nil, shaped_n _, rfl, ?_⟩⟩
      exact kk _ (s1.trans (same_new hL3))
    | [p] =>
      rw [hh] at ea kk
      refine go_f rfl ?_
      refine ⟨_, rfl, (by show 0 ≤ sizeLine; decide), fun L2 hL2 => ⟨_, _, .lst (SqL.of (same_new hL2 _ _ ea)) (dpAll_mkn [p]), .lst (SqL.of upd_same) .nil, shaped_n _, rfl, _, rfl, ?_⟩⟩
      refine go_f rfl ?_
      have s2' := s1.trans (same_new (o := .lst []) hL2)
      generalize upd H1 L2 (.lst []) = H2 at s2'
      obtain ⟨ao, ab, rfl, qo, qb, nb⟩ := id ho
      refine ⟨_, rfl, s, rfl, by omega, by omega, ?_⟩
      rw [Int.toNat_natCast]
      refine fun D hD => walk_it walk_range (fun j H5 => Same H2 H5 ∧ H5 D = some (.lst ((List.range j).map fun v => V.int ((as.countP fun a => a == v : Nat) : Int)))) ⟨same_new hD, upd_same⟩ (fun _ _ _ _ => trivial) ?_ ?_
      · rintro j x _ H5 hj ⟨s5, eD⟩ ⟨rfl, ex⟩
        obtain rfl := int_nat0 ex
        refine ⟨rfl, ?_⟩
        have s05 := s2'.trans s5
        refine ⟨_, rfl, ao, _, _, .ref ab, rfl, rfl, seqT s05 qo, atI_nat (j := 1) rfl, nb.same s05, _, rfl, .int (j : Nat), nD j, as.map nD, rfl, .tup (seqT s05 qb) (dpAll_mkn as), .int _, lay_n as, rfl, ?_⟩
        rw [cnt_n]
        refine ⟨_, eD, by rw [List.length_map, List.length_range, sizeLine_eq]; omega, same_of s5 hD, ?_⟩
        rw [upd_same, List.range_succ, List.map_append]
        rfl
      rintro H5 ⟨s5, eD⟩
      have s05 := s2'.trans s5
      have ec : ((List.range s).map fun v => V.int ((as.countP fun a => a == v : Nat) : Int)) = (cnts s as).map fun n : Nat => V.int n := by
        unfold cnts
        rw [List.map_map]
        rfl
      rw [ec] at eD
      have lc : (cnts s as).length = s := by unfold cnts; rw [List.length_map, List.length_range]
      have e0 : (cnts s as)[0]? = some ((cnts s as).headD 0) := by
        cases h : cnts s as with
        | nil =>
          rw [h] at lc
          simp at lc
          omega
        | cons a l => rfl
      refine ⟨_, rfl, rfl, _, rfl, ?_⟩
      by_cases he : decide (V.str wd = V.str "exact") = true
      · refine go_t he ?_
        rw [he] at kk
        exact kk _ s05
      · have he' : decide (V.str wd = V.str "exact") = false := by simpa using he
        refine go_f he' ?_
        rw [he'] at kk
        refine ⟨_, rfl, D, rfl, ⟨_, SqL.of eD⟩, fun D2 hD2 => walk_it walk_list (fun j H6 => Same H5 H6 ∧ H6 D2 = some (.lst ((((cnts s as).take j).filter fun e => !decide (V.int (e : Nat) = V.int (((cnts s as).headD 0 : Nat) : Int))).map fun n : Nat => V.int n))) ⟨same_new hD2, upd_same⟩ (fun _ H' _ q => SqL.of (q.1 _ _ eD)) ?_ ?_⟩
        · rintro j x _ H6 hj ⟨s6, eE⟩ ⟨rfl, hx⟩
          refine ⟨rfl, ?_⟩
          obtain ⟨m, hm, rfl⟩ : ∃ m, (cnts s as)[j]? = some m ∧ x = .int (m : Nat) := by
            rw [List.getElem?_map] at hx
            cases e : (cnts s as)[j]? with
            | none =>
              rw [e] at hx
              cases hx
            | some c =>
              rw [e] at hx
              exact ⟨c, rfl, (Option.some.inj hx).symm⟩
          refine ⟨_, rfl, _, rfl, D, _, _, .int (((cnts s as).headD 0 : Nat) : Int), rfl, rfl, SqL.of (s6 _ _ eD), atI_nat (j := 0) (by rw [List.getElem?_map, e0]; rfl), rfl, _, rfl, ?_⟩
          have lf := List.length_filter_le (fun e => !decide (V.int (e : Nat) = V.int (((cnts s as).headD 0 : Nat) : Int))) ((cnts s as).take j)
          rw [List.length_take] at lf
          by_cases hb : (!decide (V.int (m : Nat) = V.int (((cnts s as).headD 0 : Nat) : Int))) = true
          · refine go_t hb ?_
            refine ⟨_, rfl, _, eE, by rw [List.length_map, sizeLine_eq]; omega, same_of s6 hD2, ?_⟩
            rw [upd_same, fil_take hm, if_pos hb, List.map_append]
            rfl
          · refine go_f (by simpa using hb) ?_
            refine ⟨s6, ?_⟩
            rw [fil_take hm, if_neg hb, List.append_nil]
            exact eE
        · rintro H6 ⟨s6, eE⟩
          rw [List.length_map, List.take_length] at eE
          refine ⟨(by show 0 ≤ sizeLine; decide), fun L3 hL3 => ?_⟩
          have s7 := same_new (o := .lst []) hL3
          refine ⟨_, _, .lst (SqL.of (s7 _ _ eE)) (dpAll_mkn _), .lst (SqL.of upd_same) .nil, shaped_n _, rfl, ?_⟩
          rw [eqv_nil]
          have ei : (((cnts s as).filter fun e => !decide (V.int (e : Nat) = V.int (((cnts s as).headD 0 : Nat) : Int))).isEmpty) = (false || cntOk s as) := by
            rw [Bool.false_or]
            unfold cntOk
            rw [← any_fil, Bool.not_not]
            congr 2
            funext e
            rw [vint_eq]
          rw [ei]
          exact kk _ (s05.trans (s6.trans s7))
end
end K46
/-! whether a told look is one. -/
namespace K46
open PySem L2 FX SQ
theorem okC : PyData.strOk "constant" = true := by decide +kernel
theorem okO : PyData.strOk "one" = true := by decide +kernel
theorem okT : PyData.strOk "two" = true := by decide +kernel
theorem shaped_c {a : Str} (i : Int) (ha : PyData.strOk a = true) : SeqAt.shaped (.tuple [.str a, .int i]) = true := by
  unfold SeqAt.shaped
  simp [PyData.canLay0, PyData.canLayAll0, PyData.depth, PyData.depthAll, ha]
theorem shaped_1 (p : Nat) (ns : List Nat) : SeqAt.shaped (.tuple [.str "one", nD p, .tuple (ns.map nD)]) = true := by
  unfold SeqAt.shaped
  rw [Bool.and_eq_true]
  refine ⟨?_, decide_eq_true ?_⟩
  · have := lay_n ns
    simp [PyData.canLay0, PyData.canLayAll0, nD, okO] at this ⊢
    exact this
  · have := depth_n ns
    simp only [PyData.depth, PyData.depthAll, nD]
    omega
theorem eqv_self {d : D} (h : SeqAt.shaped d = true) : PyData.eqv d d = true := SeqAt.eqv_refl _ (SeqAt.canLay_of_shaped h)
theorem ret_eq {Q : VK} {b : Bool} {H : Hp} (e : b = true) (k : Q (.bl true) H) : Q (.bl b) H := by
  rw [e]
  exact k
theorem pow_cell {s n p : Nat} (hp : p < n) (n3 : n ≤ 3) : ([V.int 1, V.int (s : Nat), V.int ((s : Int) ^ (2 : Int).toNat)] : List V)[n - 1 - p]? = some (.int (stO s n p : Nat)) := by
  unfold stO
  obtain h | h | h : n - 1 - p = 0 ∨ n - 1 - p = 1 ∨ n - 1 - p = 2 := by omega
  · rw [h]; rfl
  · rw [h, Nat.pow_one]; rfl
  · rw [h]
    show some (V.int ((s : Int) ^ 2)) = _
    rw [Int.natCast_pow]
theorem stO_lt {s n p v : Nat} (hp : p < n) (hv : v < s) : v * stO s n p < s ^ n := by
  unfold stO
  have h0 : 0 < s := by omega
  have h1 : v * s ^ (n - 1 - p) < s * s ^ (n - 1 - p) := Nat.mul_lt_mul_of_pos_right hv (Nat.pow_pos h0)
  have h2 : s * s ^ (n - 1 - p) = s ^ (n - 1 - p + 1) := by rw [Nat.pow_succ, Nat.mul_comm]
  have h3 : s ^ (n - 1 - p + 1) ≤ s ^ n := Nat.pow_le_pow_right h0 (by omega)
  omega
theorem two_mem {s n : Nat} {as : List Nat} {p o : Nat} {h : List (Option Nat)} (e : twoN s n as = some (p, o, h)) : p < o ∧ o < n ∧ h ∈ heldsO s n p o ∧ goodO s as (p, o, h) = true := by
  unfold twoN at e
  have g := List.find?_some e
  have m := List.mem_of_find?_eq_some e
  obtain ⟨o', ho', m⟩ := List.mem_flatMap.mp m
  unfold candP at m
  obtain ⟨p', hp', m⟩ := List.mem_flatMap.mp m
  unfold candR at m
  obtain ⟨h', hh', z⟩ := List.mem_map.mp m
  cases z
  exact ⟨List.mem_range.mp hp', List.mem_range.mp ho', hh', g⟩
theorem in_two (i p o : Nat) : inV (V.int (i : Nat)) [V.int (p : Nat), V.int (o : Nat)] = (decide (i = p) || decide (i = o)) := by
  show ((p : Int) == (i : Int) || ((o : Int) == (i : Int) || false)) = _
  rw [Bool.or_false]
  congr 1 <;> (rw [Bool.eq_iff_iff]; simp; omega)
section
variable {P : Program} {w : World} {K : PySem.W.Frag} {mg : Str → Option Value} {base : Heap}
abbrev sIsLook : Stmt := top 40
def spIsLook (K : PySem.W.Frag) : Sp := fun vs H Q _ => ∃ (vo vv : V) (s n : Nat) (as : List Nat), vs = [.int s, vo, vv] ∧ Dp K H vo (opT (n, as)) ∧ SN s n ∧ as.length = s ^ n ∧ (∀ a ∈ as, a < s) ∧ Dp K H vv (lookD s n as) ∧ ∀ H', Same H H' → Q (.bl true) H'
abbrev NIsLook : List Str := ["size", "operation", "value", "places", "step", "one", "at"]
theorem scIsLook : FnScope NIsLook ["size", "operation", "value"] (defScope sIsLook) := ⟨rfl, rfl, rfl, by decide +kernel, rfl, by decide +kernel, by decide +kernel⟩
theorem ok_isLook {f fP fH : Addr} {fd fdP fdH : FuncData} (F : Fun K "_law_is_look" "_law_is_look" sIsLook f fd) (Z : Bi mg) (FP : At K mg "_law_places" sPl fP fdP ["size", "operation"]) (GP : FnOk P w K mg base CX0 2 fP fdP ["size", "operation"] (spPl K))
    (FH : At K mg "_law_hangs" sHL fH fdH ["size", "operation", "held", "place"]) (GH : FnOk P w K mg base CX0 1 fH fdH ["size", "operation", "held", "place"] (spHL K)) :
    FnOk P w K mg base CX0 3 f fd ["size", "operation", "value"] (spIsLook K) := by
  refine F.ok scIsLook (fun vs H Q E h => ?_) (fun cdv A outer sh H vs Q E hr h => ?_)
  · obtain ⟨vo, vv, s, n, as, rfl, _⟩ := h
    rfl
  · obtain ⟨vo, vv, s, n, as, rfl, ho, hs, la, hlt, hv, k⟩ := h
    obtain ⟨s2, s3, n1, n3⟩ := hs.s
    have hu := hr.units
    refine ⟨_, pss_cons (ps_set (i := 3) scIsLook.nd rfl (Or.inl rfl) (pe_call GP (hr.mono (by decide)) rfl FP.g FP.F.kp FP.b .nil pass0 (by exact (pa_cons (pv 0) (pa_cons (pv 1) pa_nil)))))
      (pss_cons (ps_if (PW.pt (pw_or (pt_not (pt_val (pe_callB call_isi (by rfl) Z.isinstance (by decide +kernel) (pa_cons (pv 2) (pa_cons (pe_bltn (v := .ty "tuple") (by rfl) Z.tuple (by decide +kernel) rfl) pa_nil)))))
          (pw_or1 (pt_cmpR op_eq (pe_callB call_len_seq (by rfl) Z.len PySem.boot_len (pa_cons (pv 2) pa_nil)) pe_int (nomark _))))) (pss_one (ps_ret pe_bl)) pss_nil)
      (pss_cons (ps_if (pt_cmpR (op_eqD hu) (pv 3) (pe_lst pa_nil) (nomark _)) (pss_one (ps_ret (pe_cmpR (op_eqD hu) (pv 2) (pe_tup (by exact (pa_cons pe_str (pa_cons (pe_ix ix_tup (pe_ix ix_tup (pv 1) pe_int (fun _ _ => rfl)) pe_int (fun _ _ => rfl)) pa_nil)))) (nomark _)))) pss_nil)
      (pss_cons (ps_if (pt_cmpR op_eq (pe_callB call_len_seq (by rfl) Z.len PySem.boot_len (pa_cons (pv 3) pa_nil)) pe_int (nomark _))
        (pss_cons (ps_set (i := 4) scIsLook.nd rfl (Or.inr rfl) (pe_ix ix_list (pe_lst (by exact (pa_cons pe_int (pa_cons (pv 0) (pa_cons (pe_op op_pow (pv 0) pe_int) pa_nil))))) (pe_op op_sub (pe_op op_sub (pe_ix ix_tup (pv 1) pe_int (fun _ _ => rfl)) pe_int) (pe_ix ix_list (pv 3) pe_int (fun _ _ => rfl))) (fun _ _ => rfl)))
        (pss_one (ps_ret (pe_cmpR (op_eqD hu) (pv 2) (pe_tup (by exact (pa_cons pe_str (pa_cons (pe_ix ix_list (pv 3) pe_int (fun _ _ => rfl)) (pa_cons (pe_tupleF (by rfl) Z.tuple
          (pe_lc (own := [("one", 5)]) (g := gName 5) (tt := tYes) (te := tOp (rIxT K) (tOp (rIxT K) (tVar 1) (tC (.int 1))) (tOp (rI CMul fun i j => .int (i * j)) (tVar 5) (tVar 4))) rfl scIsLook.nd (pi_range1 (by rfl) Z.range (pa_cons (pv 0) pa_nil)) (blkOk_by (N := NIsLook) (sc := defScope sIsLook) (by decide +kernel))
            (fun _ _ _ _ _ => pg_name (i := 5) scIsLook.nd rfl (Or.inl rfl)) (fun _ _ _ _ _ => pts_nil) (fun _ _ _ _ _ => pe_ix ix_tup (pe_ix ix_tup (pv 1) pe_int (fun _ _ => rfl)) (pe_op op_mul (pv 5) (pv 4)) (fun _ _ => rfl)))) pa_nil))))) (nomark _))))) pss_nil)
      (pss_cons (ps_if (PW.pt (pw_or (pt_cmpR op_ne (pe_ix ix_tup (pv 2) pe_int (fun _ _ => rfl)) pe_str (nomark _))
          (pw_or (pt_cmpR op_ne (pe_callB call_len_seq (by rfl) Z.len PySem.boot_len (pa_cons (pv 2) pa_nil)) pe_int (nomark _))
          (pw_or (pt_not (pt_val (pe_callB call_isi (by rfl) Z.isinstance (by decide +kernel) (pa_cons (pe_ix ix_tup (pv 2) pe_int (fun _ _ => rfl)) (pa_cons (pe_bltn (v := .ty "tuple") (by rfl) Z.tuple (by decide +kernel) rfl) pa_nil)))))
          (pw_or1 (pt_cmpR op_ne (pe_callB call_len_seq (by rfl) Z.len PySem.boot_len (pa_cons (pe_ix ix_tup (pv 2) pe_int (fun _ _ => rfl)) pa_nil)) (pe_ix ix_tup (pv 1) pe_int (fun _ _ => rfl)) (nomark _))))))) (pss_one (ps_ret pe_bl)) pss_nil)
      (pss_cons (ps_for PassesOwn.never rfl (pi_enum2 (by rfl) Z.enumerate (pa_cons (pe_ix ix_tup (pv 2) pe_int (fun _ _ => rfl)) pa_nil)) (pg_tup rfl (pgs_cons (pg_name (i := 6) scIsLook.nd rfl (Or.inl rfl)) (pgs_cons (pg_name (i := 5) scIsLook.nd rfl (Or.inl rfl)) pgs_nil)))
        (pss_one (ps_if (PW.pt (pw_or (pt_cmpR op_ne (pe_cmpR op_isN (pv 5) pe_non (nomark _)) (pe_cmpR op_in_seq (pv 6) (pe_slice sl_tupA (pv 2) (po_some pe_int) (po_some pe_int)) (by with_unfolding_all rfl)) (nomark _))
            (pw_or1 (PW.pt (pw_and (pt_cmpR op_notN (pv 5) pe_non (nomark _)) (pw_and1 (pt_not (pt_chain op_le op_lt pe_int (pv 5) (pv 0))))))))) (pss_one (ps_ret pe_bl)) pss_nil)))
      (pss_one (ps_ret (pe_and (pe_cmpR op_lt (pe_ix ix_tup (pv 2) pe_int (fun _ _ => rfl)) (pe_ix ix_tup (pv 2) pe_int (fun _ _ => rfl)) (nomark _))
        (pe_and (pe_call GH (hr.mono (by decide)) rfl FH.g FH.F.kp FH.b .nil pass0 (by exact (pa_cons (pv 0) (pa_cons (pv 1) (pa_cons (pe_ix ix_tup (pv 2) pe_int (fun _ _ => rfl)) (pa_cons (pe_ix ix_tup (pv 2) pe_int (fun _ _ => rfl)) pa_nil))))))
        (pe_one (pe_call GH (hr.mono (by decide)) rfl FH.g FH.F.kp FH.b .nil pass0 (by exact (pa_cons (pv 0) (pa_cons (pv 1) (pa_cons (pe_ix ix_tup (pv 2) pe_int (fun _ _ => rfl)) (pa_cons (pe_ix ix_tup (pv 2) pe_int (fun _ _ => rfl)) pa_nil)))))))))))))))), ?_⟩
    obtain ⟨ao, va, rfl, qo, da⟩ := dpT_op ho
    obtain ⟨aa, xa, rfl, qa, ra⟩ := dp_tup da
    obtain rfl := dpAll_eqn ra
    refine ⟨_, rfl, _, rfl, .ref ao, s, n, as, rfl, ho, hs, la, fun H1 a s1 ea => ?_⟩
    have hl := hung_lt (s := s) (n := n) (as := as)
    have l1 : 0 < s ^ n := Nat.pow_pos (by omega)
    have hv1 := dp_same s1 hv
    unfold lookD at hv1
    match hh : hungN s n as with
    | [] =>
      rw [hh] at ea hv1
      obtain ⟨av, xv, rfl, qv, rv⟩ := dp_tup hv1
      have lv : xv.length = 2 := dpAll_len rv
      refine ⟨_, rfl, .ref av, _, _, _, _, rfl, .ty "tuple", ty_data hv1, kTuple _, _, rfl, ?_⟩
      refine go_f rfl ?_
      refine ⟨_, rfl, av, xv, rfl, .inr qv, rfl, _, rfl, ?_⟩
      refine go_f (by rw [lv]; rfl) ?_
      refine ⟨_, rfl, (by show 0 ≤ sizeLine; decide), fun L2 hL2 => ⟨_, _, .lst (SqL.of (same_new hL2 _ _ ea)) (dpAll_mkn []), .lst (SqL.of upd_same) .nil, shaped_n _, rfl, _, rfl, ?_⟩⟩
      refine go_t rfl ?_
      have s2' := same_new (o := .lst []) hL2
      have s12 := s1.trans s2'
      have e0 : as.getD 0 0 = as[0]'(by omega) := by rw [List.getD_eq_getElem?_getD, List.getElem?_eq_getElem (by omega)]; rfl
      have d2 := dp_same s2' hv1
      refine ⟨_, rfl, _, rfl, ao, _, _, .ref aa, rfl, rfl, seqT s12 qo, atI_nat (j := 1) rfl, aa, _, _, .int (as[0]'(by omega) : Nat), rfl, rfl, seqT s12 qa, atI_nat (j := 0) (by rw [List.getElem?_map, List.getElem?_eq_getElem (by omega)]; rfl), (by show 2 ≤ sizeLine; decide), fun t ht => ?_⟩
      have s3' := same_new (o := .tup [.str "constant", .int (as[0]'(by omega) : Nat)]) ht
      refine ⟨.tuple [.str "constant", nD (as.getD 0 0)], .tuple [.str "constant", nD (as.getD 0 0)], dp_same s3' d2, ?_, shaped_c _ okC, shaped_c _ okC, ?_⟩
      · rw [e0]
        exact .tup (SqT.of upd_same) (.cons (.str _) (.cons (.int _) .nil))
      exact ret_eq (eqv_self (shaped_c _ okC)) (k _ (s12.trans s3'))
    | [p] =>
      rw [hh] at ea hv1 hl
      have hp := hl p (List.mem_singleton.mpr rfl)
      obtain ⟨av, xv, rfl, qv, rv⟩ := dp_tup hv1
      have lv : xv.length = 3 := dpAll_len rv
      refine ⟨_, rfl, .ref av, _, _, _, _, rfl, .ty "tuple", ty_data hv1, kTuple _, _, rfl, ?_⟩
      refine go_f rfl ?_
      refine ⟨_, rfl, av, xv, rfl, .inr qv, rfl, _, rfl, ?_⟩
      refine go_f (by rw [lv]; rfl) ?_
      refine ⟨_, rfl, (by show 0 ≤ sizeLine; decide), fun L2 hL2 => ⟨_, _, .lst (SqL.of (same_new hL2 _ _ ea)) (dpAll_mkn [p]), .lst (SqL.of upd_same) .nil, shaped_n _, rfl, _, rfl, ?_⟩⟩
      refine go_f rfl ?_
      have s2' := same_new (o := .lst []) hL2
      have s12 := s1.trans s2'
      have ea2 := s2' _ _ ea
      have d2 := dp_same s2' hv1
      generalize upd H1 L2 (.lst []) = H2 at s2' s12 ea2 d2
      refine ⟨_, rfl, a, _, rfl, .inl (SqL.of ea2), rfl, _, rfl, ?_⟩
      refine go_t rfl ?_
      refine ⟨_, rfl, _, rfl, _, _, rfl, rfl, ⟨by decide, by decide, by omega⟩, (by show 3 ≤ sizeLine; decide), fun L3 hL3 => ?_⟩
      have s3' := same_new (o := .lst [V.int 1, V.int (s : Nat), V.int ((s : Int) ^ (2 : Int).toNat)]) hL3
      have s13 := s12.trans s3'
      refine ⟨_, rfl, ao, _, _, _, rfl, rfl, seqT s13 qo, atI_nat (j := 0) rfl, _, _, rfl, rfl, _, rfl, a, _, _, .int (p : Nat), rfl, rfl, SqL.of (s3' _ _ ea2), atI_nat (j := 0) rfl, _, _, rfl, rfl, L3, _, _, .int (stO s n p : Nat), rfl, rfl, SqL.of upd_same, ?_, ?_⟩
      · rw [show ((n : Int) - 1 - (p : Int)) = ((n - 1 - p : Nat) : Int) from by omega]
        exact atI_nat (pow_cell hp n3)
      have d3 := dp_same s3' d2
      have ea3 := s3' _ _ ea2
      generalize upd H2 L3 (.lst [V.int 1, V.int (s : Nat), V.int ((s : Int) ^ (2 : Int).toNat)]) = H3 at s3' s13 d3 ea3
      have lst : stO s n p ≤ 3 ^ 3 := Nat.le_trans (Nat.pow_le_pow_left s3 _) (Nat.pow_le_pow_right (by decide) (by omega))
      refine ⟨_, rfl, _, rfl, a, _, _, .int (p : Nat), rfl, rfl, SqL.of ea3, atI_nat (j := 0) rfl, _, rfl, s, rfl, by omega, by omega, ?_⟩
      rw [Int.toNat_natCast]
      refine fun D hD => walk_it walk_range (fun j H5 => Same H3 H5 ∧ H5 D = some (.lst ((List.range j).map fun v => V.int ((as.getD (v * stO s n p) 0 : Nat) : Int)))) ⟨same_new hD, upd_same⟩ (fun _ _ _ _ => trivial) ?_ ?_
      · rintro j x _ H5 hj ⟨s5, eD⟩ ⟨rfl, ex⟩
        obtain rfl := int_nat0 ex
        refine ⟨rfl, ?_⟩
        have hi := stO_lt hp hj
        rw [← la] at hi
        have s05 := s13.trans s5
        refine ⟨_, rfl, ao, _, _, .ref aa, rfl, rfl, seqT s05 qo, atI_nat (j := 1) rfl, _, rfl, _, rfl, _, _, rfl, rfl, .inr ⟨by omega, by omega⟩, aa, _, _, .int (as[j * stO s n p] : Nat), rfl, rfl, seqT s05 qa, ?_, ?_⟩
        · rw [← Int.natCast_mul]
          exact atI_nat (by rw [List.getElem?_map, List.getElem?_eq_getElem hi]; rfl)
        refine ⟨_, eD, by rw [List.length_map, List.length_range, sizeLine_eq]; omega, same_of s5 hD, ?_⟩
        rw [upd_same, List.range_succ, List.map_append]
        have : as.getD (j * stO s n p) 0 = as[j * stO s n p] := by rw [List.getD_eq_getElem?_getD, List.getElem?_eq_getElem hi]; rfl
        simp only [List.map_cons, List.map_nil, this]
      rintro H5 ⟨s5, eD⟩
      have em : ((List.range s).map fun v => V.int ((as.getD (v * stO s n p) 0 : Nat) : Int)) = (heldAns s as (oneO n p)).map fun n : Nat => V.int n := by
        rw [one_tab as hs hp, List.map_map]
        rfl
      rw [em] at eD
      refine ⟨D, _, rfl, SqL.of eD, fun q1 o1 hq1 _ => ⟨(by show 3 ≤ sizeLine; decide), fun t ht => ?_⟩⟩
      have s6 := same_new (o := .frz o1 (.tup ((heldAns s as (oneO n p)).map fun n : Nat => V.int n))) hq1
      have s7 := same_new (o := .tup [.str "one", .int (p : Nat), .ref q1]) ht
      refine ⟨.tuple [.str "one", nD p, .tuple ((heldAns s as (oneO n p)).map nD)], .tuple [.str "one", nD p, .tuple ((heldAns s as (oneO n p)).map nD)], dp_same (s5.trans (s6.trans s7)) d3, ?_, shaped_1 _ _, shaped_1 _ _, ?_⟩
      · exact .tup (SqT.of upd_same) (.cons (.str _) (.cons (.int _) (.cons (.tup (.inl (.inr ⟨o1, s7 _ _ upd_same⟩)) (dpAll_mkn _)) .nil)))
      exact ret_eq (eqv_self (shaped_1 _ _)) (k _ (s13.trans (s5.trans (s6.trans s7))))
    | p0 :: q0 :: r0 =>
      obtain ⟨c, ec⟩ := Option.ne_none_iff_exists'.mp (two_some hs la hlt (by rw [hh]; simp))
      obtain ⟨p, o, h⟩ := c
      obtain ⟨hpo, hon, hm, hg⟩ := two_mem ec
      obtain ⟨t1, t2, t3, t4⟩ := two_right hs hon hpo hm hg
      rw [hh] at ea hv1
      rw [ec] at hv1
      have hv1 : Dp K H1 vv (.tuple [.str "two", nD p, nD o, .tuple (h.map oD)]) := hv1
      obtain ⟨av, xv, rfl, qv, rv⟩ := dp_tup hv1
      cases rv with
      | cons h0 rv =>
      cases rv with
      | cons h1 rv =>
      cases rv with
      | cons h2 rv =>
      cases rv with
      | cons dh rv =>
      cases rv
      cases h0
      cases h1
      cases h2
      obtain ⟨ah, xh, rfl, qh, rh⟩ := dp_tup dh
      have lh : xh.length = n := by rw [dpAll_len rh, List.length_map, t3]
      refine ⟨_, rfl, .ref av, _, _, _, _, rfl, .ty "tuple", ty_data hv1, kTuple _, _, rfl, ?_⟩
      refine go_f rfl ?_
      refine ⟨_, rfl, av, _, rfl, .inr qv, rfl, _, rfl, ?_⟩
      refine go_f rfl ?_
      refine ⟨_, rfl, (by show 0 ≤ sizeLine; decide), fun L2 hL2 => ⟨_, _, .lst (SqL.of (same_new hL2 _ _ ea)) (dpAll_mkn (p0 :: q0 :: r0)), .lst (SqL.of upd_same) .nil, shaped_n _, rfl, _, rfl, ?_⟩⟩
      refine go_f rfl ?_
      have s2' := same_new (o := .lst []) hL2
      have s12 := s1.trans s2'
      have ea2 := s2' _ _ ea
      have qv2 := seqT s2' qv
      have qh2 := seqT s2' qh
      have dh2 := dp_same s2' dh
      have rh2 := dpAll_same s2' rh
      generalize upd H1 L2 (.lst []) = H2 at s2' s12 ea2 qv2 qh2 dh2 rh2
      refine ⟨_, rfl, a, _, rfl, .inl (SqL.of ea2), rfl, _, rfl, ?_⟩
      refine go_f (by simp; omega) ?_
      refine ⟨_, rfl, av, _, _, .str "two", rfl, rfl, qv2, atI_nat (j := 0) rfl, rfl, _, rfl, ?_⟩
      refine go_f (by decide +kernel) ?_
      refine ⟨_, rfl, av, _, rfl, .inr qv2, rfl, _, rfl, ?_⟩
      refine go_f rfl ?_
      refine ⟨_, rfl, av, _, _, .ref ah, rfl, rfl, qv2, atI_nat (j := 3) rfl, .ref ah, _, _, _, _, rfl, .ty "tuple", ty_data dh2, kTuple _, _, rfl, ?_⟩
      refine go_f rfl ?_
      refine ⟨_, rfl, av, _, _, .ref ah, rfl, rfl, qv2, atI_nat (j := 3) rfl, ah, _, rfl, .inr qh2, _, rfl, ao, _, _, .int (n : Nat), rfl, rfl, seqT s12 qo, atI_nat (j := 0) rfl, rfl, _, rfl, ?_⟩
      refine go_f (by rw [lh]; simp) ?_
      refine ⟨_, rfl, av, _, _, .ref ah, rfl, rfl, qv2, atI_nat (j := 3) rfl, ah, xh, .T, rfl, qh2, for_it (walk_enum2 (k := .T) (a := ah) (xs := xh) (n := xh.length) rfl)
        (fun i σ H' => ∃ u5 u6 : Option V, σ = [some (.int s), some (.ref ao), some (.ref av), some (.ref a), none, u5, u6] ∧ Same H2 H')
        ⟨none, none, rfl, Same.refl H2⟩ (fun i σ H' _ ⟨_, _, _, s3⟩ => seqT s3 qh2) ?_ ?_⟩
      · rintro i x σ H3 H4 hi ⟨u5, u6, rfl, s3'⟩ ⟨t, x1, x2, rfl, ht, rfl, hx1, hx2⟩
        obtain rfl : x1 = .int (i : Nat) := (Option.some.inj hx1).symm
        have hx2 : xh[i]? = some x2 := hx2
        have hin := t4 i (by omega)
        obtain ⟨dx, hdx, hxd⟩ := dpAll_get rh2 hx2
        obtain ⟨ov, hov, rfl⟩ : ∃ ov, h[i]? = some ov ∧ dx = oD ov := by
          rw [List.getElem?_map] at hdx
          cases e : h[i]? with
          | none =>
            rw [e] at hdx
            cases hdx
          | some c =>
            rw [e] at hdx
            exact ⟨c, rfl, (Option.some.inj hdx).symm⟩
        rw [List.getD_eq_getElem?_getD, hov] at hin
        have hin : ov.isNone = (decide (i = p) || decide (i = o)) := hin
        have s4 := same_new (o := .tup [.int (i : Nat), x2]) ht
        refine ⟨t, _, rfl, SqT.of upd_same, rfl, _, _, rfl, _, _, rfl, rfl, ?_⟩
        refine ⟨_, rfl, rfl, _, rfl, _, rfl, (1 : Int), rfl, (3 : Int), rfl, av, _, rfl, seqT (s3'.trans s4) qv2, fun z => absurd z.1 (by show ¬ HT.sIx 4 0 (some 1) = 0; decide), fun _ c hc => ?_⟩
        have s5 := same_new (o := .tup [V.int (p : Nat), V.int (o : Nat)]) hc
        refine ⟨c, [V.int (p : Nat), V.int (o : Nat)], rfl, .inr (SqT.of upd_same), rfl, rfl, rfl, _, rfl, ?_⟩
        rw [in_two, ← hin]
        cases ov with
        | none =>
          cases hxd
          refine go_f rfl ?_
          refine ⟨_, rfl, rfl, _, rfl, ?_⟩
          refine go_f rfl ?_
          refine go_f rfl ?_
          exact ⟨_, _, rfl, s3'.trans (s4.trans s5)⟩
        | some m =>
          cases hxd
          have hms := helds_lt hm m (List.mem_of_getElem? hov)
          refine go_f rfl ?_
          refine ⟨_, rfl, rfl, _, rfl, ?_⟩
          refine go_t rfl ?_
          refine ⟨_, rfl, _, _, rfl, rfl, _, rfl, ?_⟩
          refine go_t (decide_eq_true (by omega)) ?_
          refine ⟨_, rfl, _, _, rfl, rfl, _, rfl, ?_⟩
          refine go_f (by rw [decide_eq_true (by omega)]; rfl) ?_
          exact ⟨_, _, rfl, s3'.trans (s4.trans s5)⟩
      · rintro σ H3 ⟨u5, u6, rfl, s3'⟩
        have s13 := s12.trans s3'
        have dh3 := dp_same s3' dh2
        refine ⟨_, rfl, av, _, _, .int (p : Nat), rfl, rfl, seqT s3' qv2, atI_nat (j := 1) rfl, _, rfl, av, _, _, .int (o : Nat), rfl, rfl, seqT s3' qv2, atI_nat (j := 2) rfl, _, _, rfl, rfl, _, rfl, ?_⟩
        refine go_t (decide_eq_true (by omega)) ?_
        refine ⟨_, rfl, _, rfl, _, rfl, av, _, _, .ref ah, rfl, rfl, seqT s3' qv2, atI_nat (j := 3) rfl, _, rfl, av, _, _, .int (p : Nat), rfl, rfl, seqT s3' qv2, atI_nat (j := 1) rfl, .ref ao, .ref ah, s, n, p, as, h, rfl, dp_same s13 ho, dh3, s2, by omega, n3, by omega, t3, la, helds_lt hm, fun H4 s4 => ⟨_, rfl, ?_⟩⟩
        refine go_t t1 ?_
        have s34 := s3'.trans s4
        refine ⟨_, rfl, _, rfl, _, rfl, av, _, _, .ref ah, rfl, rfl, seqT s34 qv2, atI_nat (j := 3) rfl, _, rfl, av, _, _, .int (o : Nat), rfl, rfl, seqT s34 qv2, atI_nat (j := 2) rfl, .ref ao, .ref ah, s, n, o, as, h, rfl, dp_same (s13.trans s4) ho, dp_same s4 dh3, s2, by omega, n3, by omega, t3, la, helds_lt hm, fun H5 s5 => ?_⟩
        exact ret_eq t2 (k _ (s13.trans (s4.trans s5)))
end
end K46
/-! a drawn book. -/
namespace K46
open PySem L2 FX SQ
theorem off_upd2 {H : Hp} {p a : Addr} {o : HO} : off (off (upd H a o) p) a = off (off H p) a := by
  funext b
  by_cases h : b = a
  · rw [h, off_same, off_same]
  · rw [off_ne h, off_ne h]
    by_cases h2 : b = p
    · rw [h2, off_same, off_same]
    · rw [off_ne h2, off_ne h2, upd_ne h]
theorem but_off2 {p a : Addr} {H H' : Hp} (b : But p H H') : Same (off (off H p) a) (off (off H' p) a) := off_mono fun c o _ e => b.off c o e
def OpsV (K : PySem.W.Frag) (H : Hp) (vs : List V) (os : List (Nat × List Nat)) : Prop := vs.length = os.length ∧ ∀ (i : Nat) v o, vs[i]? = some v → os[i]? = some o → OpV K H v o
theorem OpsV.same {K : PySem.W.Frag} {H H' : Hp} {vs : List V} {os : List (Nat × List Nat)} (s : Same H H') (h : OpsV K H vs os) : OpsV K H' vs os := ⟨h.1, fun i v o a b => (h.2 i v o a b).same s⟩
theorem OpsV.snoc {K : PySem.W.Frag} {H : Hp} {vs : List V} {os : List (Nat × List Nat)} {v : V} {o : Nat × List Nat} (h : OpsV K H vs os) (g : OpV K H v o) : OpsV K H (vs ++ [v]) (os ++ [o]) := by
  refine ⟨by rw [List.length_append, List.length_append, h.1]; rfl, fun i v' o' a b => ?_⟩
  by_cases hi : i < vs.length
  · rw [List.getElem?_append_left hi] at a
    rw [List.getElem?_append_left (by rw [← h.1]; exact hi)] at b
    exact h.2 i v' o' a b
  · rw [List.getElem?_append_right (by omega)] at a
    rw [List.getElem?_append_right (by rw [← h.1]; omega), ← h.1] at b
    cases e : i - vs.length with
    | zero =>
      rw [e] at a b
      cases a
      cases b
      exact g
    | succ k =>
      rw [e] at a
      cases a
def GoodN (s : Nat) (o : Nat × List Nat) : Prop := SN s o.1 ∧ o.2.length = s ^ o.1 ∧ ∀ a ∈ o.2, a < s
/-- a drawn book, none of whose tuples has a dict where it is counted in -/
def BookV (K : PySem.W.Frag) (H : Hp) (v : V) (s : Nat) (os : List (Nat × List Nat)) : Prop := ∃ a a2 vs, v = .ref a ∧ SqT K H a [.int (s : Nat), .ref a2] ∧ SqT K H a2 vs ∧ OpsV K H vs os
theorem erase_map {α β : Type} (f : α → β) : ∀ (l : List α) (i : Nat), (l.map f).eraseIdx i = (l.eraseIdx i).map f
  | [], _ => rfl
  | a :: l, 0 => rfl
  | a :: l, i + 1 => by
    show f a :: (l.map f).eraseIdx i = f a :: (l.eraseIdx i).map f
    rw [erase_map f l i]
theorem cells_at {s n : Nat} (n1 : 1 ≤ n) (n3 : n ≤ 3) : ([V.int (s : Nat), V.int ((s : Int) ^ (2 : Int).toNat), V.int ((s : Int) ^ (3 : Int).toNat)] : List V)[n - 1]? = some (.int (s ^ n : Nat)) := by
  obtain rfl | rfl | rfl : n = 1 ∨ n = 2 ∨ n = 3 := by omega
  · rw [Nat.pow_one]; rfl
  · show some (V.int ((s : Int) ^ 2)) = _
    rw [Int.natCast_pow]
  · show some (V.int ((s : Int) ^ 3)) = _
    rw [Int.natCast_pow]
theorem step_at {s k : Nat} (k3 : k < 3) : ([V.int 1, V.int (s : Nat), V.int ((s : Int) ^ (2 : Int).toNat)] : List V)[k]? = some (.int (s ^ k : Nat)) := by
  obtain rfl | rfl | rfl : k = 0 ∨ k = 1 ∨ k = 2 := by omega
  · rfl
  · rw [Nat.pow_one]; rfl
  · show some (V.int ((s : Int) ^ 2)) = _
    rw [Int.natCast_pow]
section
variable {P : Program} {w : World} {K : PySem.W.Frag} {mg : Str → Option Value} {base : Heap}
abbrev sBk : Stmt := top 37
def spBk (K : PySem.W.Frag) : Sp := fun vs H Q _ => ∃ p : Addr, vs = [.ref p] ∧ Box H p ∧ ∀ (H' : Hp) (v : V) (s : Nat) (os : List (Nat × List Nat)), But p H H' → Box H' p → (s = 2 ∨ s = 3) → 1 ≤ os.length → os.length ≤ 3 → (∀ o ∈ os, GoodN s o) → BookV K (off H' p) v s os → Q v H'
abbrev NBk : List Str := ["box", "size", "operations", "turn", "places", "kind", "cells", "table", "step", "answers", "left", "cell", "value"]
theorem scBk : FnScope NBk ["box"] (defScope sBk) := ⟨rfl, rfl, rfl, by decide +kernel, rfl, by decide +kernel, by decide +kernel⟩
theorem ok_bk {f fT : Addr} {fd fdT : FuncData} (F : Fun K "_law_book" "_law_book" sBk f fd) (Z : Bi mg) (FT : At K mg "_law_take" sTake fT fdT ["box", "many"]) (GT : FnOk P w K mg base CX0 1 fT fdT ["box", "many"] spTake) : FnOk P w K mg base CX0 2 f fd ["box"] (spBk K) := by
  refine F.ok scBk (fun vs H Q E h => ?_) (fun cdv A outer sh H vs Q E hr h => ?_)
  · obtain ⟨p, rfl, _⟩ := h
    rfl
  · obtain ⟨p, rfl, hb, k⟩ := h
    refine ⟨_, pss_cons (ps_asg (pe_tup (by exact (pa_cons (pe_op op_add pe_int (pe_call GT (hr.mono (by decide)) rfl FT.g FT.F.kp FT.b .nil pass0 (by exact (pa_cons (pv 0) (pa_cons pe_int pa_nil))))) (pa_cons (pe_lst pa_nil) pa_nil)))) (pg_tup rfl (pgs_cons (pg_name (i := 1) scBk.nd rfl (Or.inr rfl)) (pgs_cons (pg_name (i := 2) scBk.nd rfl (Or.inl rfl)) pgs_nil))))
      (pss_cons (ps_for PassesOwn.never rfl (pi_range1 rfl Z.range (pa_cons (pe_op op_add pe_int (pe_call GT (hr.mono (by decide)) rfl FT.g FT.F.kp FT.b .nil pass0 (by exact (pa_cons (pv 0) (pa_cons pe_int pa_nil))))) pa_nil)) (pg_name (i := 3) scBk.nd rfl (Or.inl rfl))
        (pss_cons (ps_par rfl scBk.nd (i := 4) (j := 5) rfl rfl (by decide) rfl rfl (by exact (pa_cons (pe_op op_add pe_int (pe_call GT (hr.mono (by decide)) rfl FT.g FT.F.kp FT.b .nil pass0 (by exact (pa_cons (pv 0) (pa_cons (pe_ifExp (pt_cmpR op_eq (pv 1) pe_int (nomark _)) pe_int pe_int) pa_nil))))) (pa_cons (pe_call GT (hr.mono (by decide)) rfl FT.g FT.F.kp FT.b .nil pass0 (by exact (pa_cons (pv 0) (pa_cons pe_int pa_nil)))) pa_nil))) (by rfl))
        (pss_cons (ps_set (i := 6) scBk.nd rfl (Or.inl rfl) (pe_ix ix_list (pe_lst (by exact (pa_cons (pv 1) (pa_cons (pe_op op_pow (pv 1) pe_int) (pa_cons (pe_op op_pow (pv 1) pe_int) pa_nil))))) (pe_op op_sub (pv 4) pe_int) (fun _ _ => rfl)))
        (pss_cons (ps_setLc (i := 7) (own := [("cell", 11)]) (g := gName 11) (tt := tYes) (te := tCall spTake [] E0 (tCons (tVar 0) (tCons (tVar 1) tNil))) rfl scBk.nd rfl rfl (sw_true rfl rfl rfl (by decide +kernel)) (pi_range1 (by rfl) Z.range (pa_cons (pv 6) pa_nil))
            (blkOk_by (N := NBk) (sc := defScope sBk) (by decide +kernel)) (fun _ _ _ _ _ => pg_name (i := 11) scBk.nd rfl (Or.inl rfl)) (fun _ _ _ _ _ => pts_nil) (fun _ _ _ _ _ => pe_call GT (hr.mono (by decide)) (by rfl) FT.g FT.F.kp FT.b .nil pass0 (by exact (pa_cons (pv 0) (pa_cons (pv 1) pa_nil)))))
        (C8.pss_cut (ps_if (pt_cmpR op_gt (pv 5) pe_int (nomark _))
          (pss_cons (ps_asg (pe_tup (by exact (pa_cons (pe_ix ix_list (pe_lst (by exact (pa_cons pe_int (pa_cons (pv 1) (pa_cons (pe_op op_pow (pv 1) pe_int) pa_nil))))) (pe_call GT (hr.mono (by decide)) rfl FT.g FT.F.kp FT.b .nil pass0 (by exact (pa_cons (pv 0) (pa_cons (pv 4) pa_nil)))) (fun _ _ => rfl))
              (pa_cons (pe_lc (own := [("value", 12)]) (g := gName 12) (tt := tYes) (te := tCall spTake [] E0 (tCons (tVar 0) (tCons (tVar 1) tNil))) rfl scBk.nd (pi_range1 (by rfl) Z.range (pa_cons (pv 1) pa_nil)) (blkOk_by (N := NBk) (sc := defScope sBk) (by decide +kernel))
                (fun _ _ _ _ _ => pg_name (i := 12) scBk.nd rfl (Or.inl rfl)) (fun _ _ _ _ _ => pts_nil) (fun _ _ _ _ _ => pe_call GT (hr.mono (by decide)) (by rfl) FT.g FT.F.kp FT.b .nil pass0 (by exact (pa_cons (pv 0) (pa_cons (pv 1) pa_nil))))) pa_nil)))) (pg_tup rfl (pgs_cons (pg_name (i := 8) scBk.nd rfl (Or.inr rfl)) (pgs_cons (pg_name (i := 9) scBk.nd rfl (Or.inr rfl)) pgs_nil))))
          (C8.pss_cut (ps_if (pt_cmpR op_eq (pv 5) pe_int (nomark _))
            (pss_cons (ps_set (i := 10) scBk.nd rfl (Or.inr rfl) (pe_listRg rfl (by rfl) Z.list (prg_1 (by rfl) Z.range (pv 1))))
            (pss_one (ps_set (i := 9) scBk.nd rfl (Or.inr rfl) (pe_lc (own := [("value", 12)]) (g := gName 12) (tt := tYes) (te := tBM K "list" rPopAt (tVar 10) (tCons (tCall spTake [] E0 (tCons (tVar 0) (tCons (tCB (fun xs H Q => ∃ p ys, xs = [V.ref p] ∧ (SqL K H p ys ∨ SqT K H p ys) ∧ Q (V.int ys.length) H) (tCons (tVar 10) tNil)) tNil))) tNil)) rfl scBk.nd (pi_range1 (by rfl) Z.range (pa_cons (pv 1) pa_nil)) (blkOk_by (N := NBk) (sc := defScope sBk) (by decide +kernel))
                (fun _ _ _ _ _ => pg_name (i := 12) scBk.nd rfl (Or.inl rfl)) (fun _ _ _ _ _ => pts_nil) (fun _ _ _ _ _ => pe_bm PySem.F.plainAttrs_list PySem.F.slot_list_pop PySem.F.type_list_pop mt_popAt (pv 10) (pa_cons (pe_call GT (hr.mono (by decide)) (by rfl) FT.g FT.F.kp FT.b .nil pass0 (by exact (pa_cons (pv 0) (pa_cons (pe_callB call_len_seq (by rfl) Z.len PySem.boot_len (pa_cons (pv 10) pa_nil)) pa_nil)))) pa_nil)))))) pss_nil)
          (pss_one (ps_setLc (i := 7) (own := [("cell", 11)]) (g := gName 11) (tt := tYes) (te := tOp (rIxL K) (tVar 9) (tOp (rI (fun _ j => 0 < j) fun i j => .int (i % j)) (tOp (rI CDiv fun i j => .int (i / j)) (tVar 11) (tVar 8)) (tVar 1))) rfl scBk.nd rfl rfl (sw_true rfl rfl rfl (by decide +kernel)) (pi_range1 (by rfl) Z.range (pa_cons (pv 6) pa_nil))
            (blkOk_by (N := NBk) (sc := defScope sBk) (by decide +kernel)) (fun _ _ _ _ _ => pg_name (i := 11) scBk.nd rfl (Or.inl rfl)) (fun _ _ _ _ _ => pts_nil) (fun _ _ _ _ _ => pe_ix ix_list (pv 9) (pe_op op_mod (pe_op op_fdiv (pv 11) (pv 8)) (pv 1)) (fun _ _ => rfl)))))) pss_nil)
        (pss_one (ps_expr (pe_bm PySem.F.plainAttrs_list PySem.F.slot_list_append PySem.F.type_list_append mt_append (pv 2) (pa_cons (pe_tup (by exact (pa_cons (pv 4) (pa_cons (pe_tupleF (by rfl) Z.tuple (pv 7)) pa_nil)))) pa_nil)))))))))
      (pss_one (ps_ret (pe_tup (by exact (pa_cons (pv 1) (pa_cons (pe_tupleOf (by rfl) Z.tuple (pv 2)) pa_nil))))))), ?_⟩
    refine ⟨_, rfl, p, 2, rfl, by decide, by decide, hb, fun H1 d bt1 b1 d0 d1 => ?_⟩
    obtain ⟨dn, rfl, hdn⟩ := nat_of d0 d1
    obtain ⟨s, es, hs⟩ : ∃ s : Nat, (2 : Int) + (dn : Int) = (s : Nat) ∧ (s = 2 ∨ s = 3) := ⟨2 + dn, by omega, by omega⟩
    refine ⟨_, _, rfl, rfl, (by show 0 ≤ sizeLine; decide), fun L hL => ⟨(by show 2 ≤ sizeLine; decide), fun t ht => ⟨t, [.int (s : Nat), .ref L], rfl, SqT.of (by rw [upd_same]; show some (HO.tup [V.int (2 + (dn : Int)), V.ref L]) = _; rw [es]), rfl, _, _, rfl, _, _, rfl, rfl, ?_⟩⟩⟩
    have nLp := b1.fresh hL
    have nHL : H L = none := none_but bt1 nLp hL
    have eLt : upd (upd H1 L (.lst [])) t (.tup [.int ((2 : Int) + (dn : Int)), .ref L]) L = some (.lst []) := same_new ht _ _ upd_same
    have bt2 : But p H (upd (upd H1 L (.lst [])) t (.tup [.int ((2 : Int) + (dn : Int)), .ref L])) := bt1.trans (But.of ((same_new hL).trans (same_new ht)))
    have b2 := b1.same ((same_new (o := .lst []) hL).trans (same_new (o := .tup [.int ((2 : Int) + (dn : Int)), .ref L]) ht))
    generalize hH2 : upd (upd H1 L (.lst [])) t (.tup [.int ((2 : Int) + (dn : Int)), .ref L]) = H2 at eLt bt2 b2
    refine ⟨_, rfl, p, 3, rfl, by decide, by decide, b2, fun H3 m bt3 b3 m0 m1 => ?_⟩
    obtain ⟨mn, rfl, hmn⟩ := nat_of m0 m1
    refine ⟨_, _, rfl, rfl, ((mn + 1 : Nat) : Int), (by show [V.int (1 + (mn : Int))] = _; rw [show (1 : Int) + (mn : Int) = ((mn + 1 : Nat) : Int) from by omega]), by omega, by omega, ?_⟩
    rw [Int.toNat_natCast]
    have bt03 : But p H H3 := bt2.trans bt3
    have eL3 := bt3 L _ eLt nLp
    have es' : V.int ((2 : Int) + (dn : Int)) = V.int (s : Nat) := by rw [es]
    have s23 : 2 ≤ s ∧ s ≤ 3 := by omega
    refine for_range (n := mn + 1) (fun i σ H' => ∃ u3 u4 u5 u6 u7 u8 u9 u10 : Option V, σ = [some (.ref p), some (.int (s : Nat)), some (.ref L), u3, u4, u5, u6, u7, u8, u9, u10, none, none] ∧ But p H H' ∧ Box H' p ∧ ∃ (vs : List V) (os : List (Nat × List Nat)), os.length = i ∧ (∀ o ∈ os, GoodN s o) ∧ H' L = some (.lst vs) ∧ OpsV K (off (off H' p) L) vs os) ?_ ?_ ?_
    · exact ⟨none, none, none, none, none, none, none, none, by rw [← es']; rfl, bt03, b3, [], [], rfl, (fun o h => nomatch h), eL3, rfl, fun i v o a b => by cases a⟩
    · rintro i σ H4 hi ⟨u3, u4, u5, u6, u7, u8, u9, u10, rfl, bt4, b4, vs, os, lo, go, eL4, dv⟩
      have lv : vs.length = os.length := dv.1
      refine ⟨_, rfl, _, rfl, rfl, _, rfl, ?_⟩
      refine ifE (fun x H' => ∃ q : Nat, x = .int (q : Nat) ∧ H' = H4 ∧ ((s = 2 ∧ q = 3) ∨ (s = 3 ∧ q = 2))) (fun hc Q' hQ => ?_) (fun hc Q' hQ => ?_) ?_
      · refine hQ _ _ ⟨3, rfl, rfl, .inl ⟨?_, rfl⟩⟩
        rcases hs with h | h
        · exact h
        · rw [h] at hc
          cases hc
      · refine hQ _ _ ⟨2, rfl, rfl, .inr ⟨?_, rfl⟩⟩
        rcases hs with h | h
        · rw [h] at hc
          exact absurd rfl hc
        · exact h
      rintro _ H4 ⟨q, rfl, rfl, hq⟩
      refine ⟨p, (q : Int), rfl, by omega, by omega, b4, fun H5 d bt5 b5 d0 d1 => ?_⟩
      obtain ⟨kk, rfl, hkk⟩ := nat_of d0 d1
      have hS : SN s (kk + 1) := ⟨by omega, by omega⟩
      have c27 : s ^ (kk + 1) ≤ 3 ^ 3 := Nat.le_trans (Nat.pow_le_pow_left s23.2 _) (Nat.pow_le_pow_right (by decide) (by omega))
      refine ⟨_, _, rfl, rfl, ?_⟩
      refine ⟨_, rfl, p, 4, rfl, by decide, by decide, b5, fun H6 kd bt6 b6 _ _ => ⟨_, _, rfl, ?_⟩⟩
      refine ⟨_, rfl, _, rfl, _, _, rfl, rfl, ⟨by decide, by decide, by omega⟩, _, rfl, _, _, rfl, rfl, ⟨by decide, by decide, by omega⟩, (by show 3 ≤ sizeLine; decide), fun l hl => ?_⟩
      refine ⟨_, rfl, _, _, rfl, rfl, l, _, _, .int (s ^ (kk + 1) : Nat), rfl, rfl, SqL.of upd_same, ?_, ?_⟩
      · show atI _ ((1 : Int) + (kk : Int) - 1) = _
        rw [show (1 : Int) + (kk : Int) - 1 = ((kk : Nat) : Int) from by omega]
        exact atI_nat (cells_at (s := s) (n := kk + 1) (by omega) (by omega))
      have bt47 := (bt5.trans bt6).trans (But.of (same_new (o := .lst [V.int (s : Nat), V.int ((s : Int) ^ (2 : Int).toNat), V.int ((s : Int) ^ (3 : Int).toNat)]) hl))
      have b7 := b6.same (same_new (o := .lst [V.int (s : Nat), V.int ((s : Int) ^ (2 : Int).toNat), V.int ((s : Int) ^ (3 : Int).toNat)]) hl)
      generalize upd H6 l _ = H7 at bt47 b7
      refine ⟨_, rfl, ((s ^ (kk + 1) : Nat) : Int), rfl, by omega, by omega, ?_⟩
      rw [Int.toNat_natCast]
      refine fun T hT => walk_it walk_range (fun i H' => But p H7 H' ∧ Box H' p ∧ ∃ ts : List Nat, ts.length = i ∧ (∀ a ∈ ts, a < s) ∧ H' T = some (.lst (ts.map fun n : Nat => V.int n))) ⟨(But.refl p H7).new hT, b7.ne (b7.fresh hT), [], rfl, (fun a h => nomatch h), upd_same⟩ (fun _ _ _ _ => trivial) ?_ ?_
      · rintro j x _ H8 hj ⟨bt, b8, ts, lt, hlt, eT⟩ ⟨rfl, ex⟩
        refine ⟨rfl, _, rfl, _, rfl, p, s, rfl, by omega, by omega, b8, fun H9 d bt9 b9 d0 d1 => ?_⟩
        obtain ⟨dn, rfl, hdn⟩ := nat_of d0 d1
        have nT := b7.fresh hT
        refine ⟨_, bt9 T _ eT nT, by rw [List.length_map, lt, sizeLine_eq]; omega, (bt.trans bt9).new hT, b9.ne nT, ts ++ [dn], by rw [List.length_append, lt]; rfl, fun a ha => ?_, by rw [upd_same, List.map_append]; rfl⟩
        rcases List.mem_append.mp ha with h | h
        · exact hlt a h
        · rw [List.mem_singleton] at h
          omega
      rintro H8 ⟨bt, b8, ts, lt, hlt, eT⟩
      have nT := b7.fresh hT
      have bt48 := bt47.trans bt
      have nT4 : H4 T = none := none_but bt47 nT hT
      refine ⟨fun σ H' => ∃ (T' : Addr) (ts : List Nat) (u8 u9 u10 : Option V), σ = [some (.ref p), some (.int (s : Nat)), some (.ref L), some (.int (0 + (i : Int))), some (.int (1 + (kk : Int))), some (.int kd), some (.int (s ^ (kk + 1) : Nat)), some (.ref T'), u8, u9, u10, none, none] ∧ But p H4 H' ∧ Box H' p ∧ H' T' = some (.lst (ts.map fun n : Nat => V.int n)) ∧ ts.length = s ^ (kk + 1) ∧ ∀ a ∈ ts, a < s, ?_, ?_⟩
      · refine ⟨_, rfl, _, _, rfl, rfl, _, rfl, ?_⟩
        by_cases hkd : (0 : Int) < kd
        case neg =>
          refine go_f (decide_eq_false hkd) ?_
          exact ⟨T, ts, _, _, _, rfl, bt48, b8, eT, lt, hlt⟩
        refine go_t (decide_eq_true hkd) ?_
        refine ⟨_, rfl, _, rfl, _, _, rfl, rfl, ⟨by decide, by decide, by omega⟩, (by show 3 ≤ sizeLine; decide), fun l2 hl2 => ?_⟩
        have el2 : upd H8 l2 (.lst [V.int 1, V.int (s : Nat), V.int ((s : Int) ^ (2 : Int).toNat)]) l2 = some (.lst [V.int 1, V.int (s : Nat), V.int ((s : Int) ^ (2 : Int).toNat)]) := upd_same
        have s89 := same_new (o := .lst [V.int 1, V.int (s : Nat), V.int ((s : Int) ^ (2 : Int).toNat)]) hl2
        have nl2 := b8.fresh hl2
        have b9 := b8.same s89
        generalize upd H8 l2 (.lst [V.int 1, V.int (s : Nat), V.int ((s : Int) ^ (2 : Int).toNat)]) = H9 at el2 s89 b9
        refine ⟨_, rfl, _, rfl, p, (1 : Int) + (kk : Int), rfl, by omega, by omega, b9, fun H10 d bt10 b10 d0 d1 => ?_⟩
        obtain ⟨k2, rfl, hk2⟩ := nat_of d0 d1
        refine ⟨l2, _, _, .int (s ^ k2 : Nat), rfl, rfl, SqL.of (bt10 l2 _ el2 nl2), atI_nat (step_at (by omega)), ?_⟩
        have bt410 := bt48.trans ((But.of s89).trans bt10)
        have st0 : 0 < s ^ k2 := Nat.pow_pos (by omega)
        have st27 : s ^ k2 ≤ 3 ^ 3 := Nat.le_trans (Nat.pow_le_pow_left s23.2 _) (Nat.pow_le_pow_right (by decide) (by omega))
        refine ⟨_, rfl, (s : Int), rfl, by omega, by omega, ?_⟩
        rw [Int.toNat_natCast]
        refine fun A0 hA0 => walk_it walk_range (fun i H' => But p H10 H' ∧ Box H' p ∧ ∃ gs : List Nat, gs.length = i ∧ (∀ a ∈ gs, a < s) ∧ H' A0 = some (.lst (gs.map fun n : Nat => V.int n))) ⟨(But.refl p H10).new hA0, b10.ne (b10.fresh hA0), [], rfl, (fun a h => nomatch h), upd_same⟩ (fun _ _ _ _ => trivial) ?_ ?_
        · rintro j x _ H11 hj ⟨bt11, b11, gs, lg, hlg, eA⟩ ⟨rfl, ex⟩
          refine ⟨rfl, _, rfl, _, rfl, p, s, rfl, by omega, by omega, b11, fun H12 d bt12 b12 d0 d1 => ?_⟩
          obtain ⟨dn, rfl, hdn⟩ := nat_of d0 d1
          have nA := b10.fresh hA0
          refine ⟨_, bt12 A0 _ eA nA, by rw [List.length_map, lg, sizeLine_eq]; omega, (bt11.trans bt12).new hA0, b12.ne nA, gs ++ [dn], by rw [List.length_append, lg]; rfl, fun a ha => ?_, by rw [upd_same, List.map_append]; rfl⟩
          rcases List.mem_append.mp ha with h | h
          · exact hlg a h
          · rw [List.mem_singleton] at h
            omega
        rintro H11 ⟨bt11, b11, gs, lg, hlg, eA⟩
        refine ⟨(by show 2 ≤ sizeLine; decide), fun t ht => ⟨t, _, rfl, SqT.of upd_same, rfl, _, _, rfl, _, _, rfl, rfl, ?_⟩⟩
        have s1112 := same_new (o := .tup [.int (s ^ k2 : Nat), .ref A0]) ht
        have b12 := b11.same s1112
        have eA12 := s1112 _ _ eA
        have bt412 := (bt410.trans bt11).trans (But.of s1112)
        generalize upd H11 t (.tup [.int (s ^ k2 : Nat), .ref A0]) = H12 at s1112 b12 eA12 bt412
        refine ⟨fun σ H' => ∃ (A' : Addr) (gs : List Nat) (u10 : Option V), σ = [some (.ref p), some (.int (s : Nat)), some (.ref L), some (.int (0 + (i : Int))), some (.int (1 + (kk : Int))), some (.int kd), some (.int (s ^ (kk + 1) : Nat)), some (.ref T), some (.int (s ^ k2 : Nat)), some (.ref A'), u10, none, none] ∧ But p H4 H' ∧ Box H' p ∧ H' A' = some (.lst (gs.map fun n : Nat => V.int n)) ∧ gs.length = s ∧ ∀ a ∈ gs, a < s, ?_, ?_⟩
        · refine ⟨_, rfl, rfl, _, rfl, ?_⟩
          by_cases hk1 : decide (V.int kd = V.int 1) = true
          case neg =>
            refine go_f (by simpa using hk1) ?_
            exact ⟨A0, gs, _, rfl, bt412, b12, eA12, lg, hlg⟩
          refine go_t hk1 ?_
          refine ⟨_, rfl, _, rfl, RgOk.of_le (by omega) (by omega) (by omega) (by omega), fun Lf hLf => ?_⟩
          have er : rgV 0 (s : Int) = (List.range s).map fun n : Nat => V.int n := by
            unfold rgV
            rw [Int.sub_zero, Int.toNat_natCast]
            exact List.map_congr_left fun n _ => by rw [Int.zero_add]
          rw [er]
          have nLf := b12.fresh hLf
          have eLf : upd H12 Lf (.lst ((List.range s).map fun n : Nat => V.int n)) Lf = some (.lst ((List.range s).map fun n : Nat => V.int n)) := upd_same
          have bt13 : But p H12 (upd H12 Lf (.lst ((List.range s).map fun n : Nat => V.int n))) := But.of (same_new hLf)
          have b13 := b12.ne (o := .lst ((List.range s).map fun n : Nat => V.int n)) nLf
          generalize upd H12 Lf (.lst ((List.range s).map fun n : Nat => V.int n)) = H13 at eLf bt13 b13
          refine ⟨_, rfl, (s : Int), rfl, by omega, by omega, ?_⟩
          rw [Int.toNat_natCast]
          refine fun D hD => walk_it walk_range (fun i H' => But p H12 H' ∧ Box H' p ∧ ∃ ls gs : List Nat, ls.length + i = s ∧ (∀ a ∈ ls, a < s) ∧ H' Lf = some (.lst (ls.map fun n : Nat => V.int n)) ∧ gs.length = i ∧ (∀ a ∈ gs, a < s) ∧ H' D = some (.lst (gs.map fun n : Nat => V.int n)))
            ⟨bt13.new (none_but bt13 (b13.fresh hD) hD), b13.ne (b13.fresh hD), List.range s, [], by rw [List.length_range]; rfl, fun a ha => List.mem_range.mp ha, by rw [upd_ne (ne_of_none eLf hD)]; exact eLf, rfl, (fun a h => nomatch h), upd_same⟩ (fun _ _ _ _ => trivial) ?_ ?_
          · rintro j x _ H14 hj ⟨bt14, b14, ls, gs2, lls, hls, eLs, lg2, hlg2, eD⟩ ⟨rfl, ex⟩
            have nD := b13.fresh hD
            have nDL : D ≠ Lf := fun z => by rw [z, eLf] at hD; cases hD
            refine ⟨rfl, _, rfl, .inl ⟨rfl, _, SqL.of eLs⟩, _, rfl, _, rfl, Lf, _, rfl, .inl (SqL.of eLs), p, ((ls.length : Nat) : Int), by rw [List.length_map]; rfl, by omega, by omega, b14, fun H15 d bt15 b15 d0 d1 => ?_⟩
            obtain ⟨dn, rfl, hdn⟩ := nat_of d0 d1
            have hdl : dn < ls.length := by omega
            have eLs15 := bt15 Lf _ eLs nLf
            have eD15 := bt15 D _ eD nD
            refine ⟨Lf, _, (dn : Int), dn, .int (ls[dn] : Nat), rfl, rfl, eLs15, by omega, by omega, ?_, by rw [List.getElem?_map, List.getElem?_eq_getElem hdl]; rfl, ?_⟩
            · rw [List.length_map]
              simp [seqIndex?]
              omega
            refine ⟨_, by rw [upd_ne nDL]; exact eD15, by rw [List.length_map, lg2, sizeLine_eq]; omega, ?_⟩
            have nL12 : H12 Lf = none := hLf
            have nD12 : H12 D = none := none_but bt13 nD hD
            refine ⟨((bt14.trans bt15).new nL12).new nD12, (b15.ne nLf).ne nD, ls.eraseIdx dn, gs2 ++ [ls[dn]], by rw [List.length_eraseIdx_of_lt hdl]; omega, fun a ha => hls a (List.mem_of_mem_eraseIdx ha), ?_, by rw [List.length_append, lg2]; rfl, fun a ha => ?_, by rw [upd_same, List.map_append]; rfl⟩
            · rw [upd_ne (Ne.symm nDL), upd_same, erase_map]
            · rcases List.mem_append.mp ha with h | h
              · exact hlg2 a h
              · rw [List.mem_singleton] at h
                rw [h]
                exact hls _ (List.getElem_mem hdl)
          · rintro H14 ⟨bt14, b14, ls, gs2, lls, hls, eLs, lg2, hlg2, eD⟩
            exact ⟨D, gs2, _, rfl, bt412.trans bt14, b14, eD, lg2, hlg2⟩
        · rintro σ H13 ⟨A', gs, u10, rfl, bt13, b13, eA, lg, hlg⟩
          refine ⟨_, rfl, ((s ^ (kk + 1) : Nat) : Int), rfl, by omega, by omega, ?_⟩
          rw [Int.toNat_natCast]
          refine fun T2 hT2 => walk_it walk_range (fun i H' => Same H13 H' ∧ ∃ ts : List Nat, ts.length = i ∧ (∀ a ∈ ts, a < s) ∧ H' T2 = some (.lst (ts.map fun n : Nat => V.int n))) ⟨same_new hT2, [], rfl, (fun a h => nomatch h), upd_same⟩ (fun _ _ _ _ => trivial) ?_ ?_
          · rintro j x _ H14 hj ⟨s14, ts2, lt2, hlt2, eT2⟩ ⟨rfl, ex⟩
            obtain rfl := int_nat0 ex
            have hix : j / s ^ k2 % s < gs.length := by rw [lg]; exact Nat.mod_lt _ (by omega)
            refine ⟨rfl, _, rfl, _, rfl, _, rfl, _, _, rfl, rfl, ⟨by omega, by omega⟩, _, rfl, _, _, rfl, rfl, by omega, A', _, _, .int (gs[j / s ^ k2 % s] : Nat), rfl, rfl, SqL.of (s14 _ _ eA), ?_, ?_⟩
            · show atI _ ((j : Int) / ((s ^ k2 : Nat) : Int) % (s : Int)) = _
              rw [← Int.natCast_ediv, ← Int.natCast_emod]
              exact atI_nat (by rw [List.getElem?_map, List.getElem?_eq_getElem hix]; rfl)
            refine ⟨_, eT2, by rw [List.length_map, lt2, sizeLine_eq]; omega, same_of s14 hT2, ts2 ++ [gs[j / s ^ k2 % s]], by rw [List.length_append, lt2]; rfl, fun a ha => ?_, by rw [upd_same, List.map_append]; rfl⟩
            rcases List.mem_append.mp ha with h | h
            · exact hlt2 a h
            · rw [List.mem_singleton] at h
              rw [h]
              exact hlg _ (List.getElem_mem hix)
          · rintro H14 ⟨s14, ts2, lt2, hlt2, eT2⟩
            exact ⟨T2, ts2, _, _, _, rfl, bt13.trans (But.of s14), b13.same s14, eT2, lt2, hlt2⟩
      · rintro σ H9 ⟨T', ts, u8, u9, u10, rfl, bt9, b9, eT, lt, hlt⟩
        have eL9 := bt9 L _ eL4 nLp
        refine ⟨_, rfl, .inl ⟨rfl, _, SqL.of eL9⟩, _, rfl, _, rfl, T', _, rfl, SqL.of eT, fun q1 o1 hq1 ho1 => ⟨(by show 2 ≤ sizeLine; decide), fun t' ht' => ?_⟩⟩
        have s1 := (same_new (o := .frz o1 (.tup (ts.map fun n : Nat => V.int n))) hq1).trans (same_new (o := .tup [.int (1 + (kk : Int)), .ref q1]) ht')
        have eL10 := s1 _ _ eL9
        have eq1 := same_new (o := .tup [.int (1 + (kk : Int)), .ref q1]) ht' _ _ upd_same
        have et1 : upd (upd H9 q1 (.frz o1 (.tup (ts.map fun n : Nat => V.int n)))) t' (.tup [.int (1 + (kk : Int)), .ref q1]) t' = some (.tup [.int ((kk + 1 : Nat) : Int), .ref q1]) := by
          rw [upd_same, show (1 : Int) + (kk : Int) = ((kk + 1 : Nat) : Int) from by omega]
        have bt10 := bt9.trans (But.of s1)
        have b10 := b9.same s1
        generalize hH : upd (upd H9 q1 (.frz o1 (.tup (ts.map fun n : Nat => V.int n)))) t' (.tup [.int (1 + (kk : Int)), .ref q1]) = H10 at s1 eL10 eq1 et1 bt10 b10
        refine ⟨L, _, _, rfl, rfl, eL10, by rw [lv, lo, sizeLine_eq]; omega, ?_⟩
        have ntL : t' ≠ L := fun z => by rw [z, eL10] at et1; cases et1
        have nqL : q1 ≠ L := fun z => by rw [z, eL10] at eq1; cases eq1
        obtain ⟨bx, by', bz, ep⟩ := id b10
        have ntp : t' ≠ p := fun z => by rw [z, ep] at et1; cases et1
        have nqp : q1 ≠ p := fun z => by rw [z, ep] at eq1; cases eq1
        refine ⟨_, _, _, _, _, _, _, _, rfl, (bt4.trans bt10).new nHL, b10.ne nLp, vs ++ [.ref t'], os ++ [(kk + 1, ts)], by rw [List.length_append, lo]; rfl, fun o ho => ?_, upd_same, ?_⟩
        · rcases List.mem_append.mp ho with h | h
          · exact go o h
          · rw [List.mem_singleton] at h
            rw [h]
            exact ⟨hS, lt, hlt⟩
        · rw [off_upd2]
          refine (dv.same (but_off2 bt10)).snoc ⟨t', q1, rfl, SqT.of (by rw [off_ne ntL, off_ne ntp]; exact et1), .inl (.inr ⟨o1, by rw [off_ne nqL, off_ne nqp]; exact eq1⟩), q1, rfl, .inl ⟨o1, _, by rw [off_ne nqL, off_ne nqp]; exact eq1, ho1⟩⟩
    · rintro σ H4 ⟨u3, u4, u5, u6, u7, u8, u9, u10, rfl, bt4, b4, vs, os, lo, go, eL4, dv⟩
      have lv : vs.length = os.length := dv.1
      refine ⟨_, rfl, _, rfl, .inl ⟨L, vs, rfl, SqL.of eL4, fun q hq => ⟨(by show 2 ≤ sizeLine; decide), fun t' ht' => ?_⟩⟩⟩
      have s1 := (same_new (o := .tup vs) hq).trans (same_new (o := .tup [.int (s : Nat), .ref q]) ht')
      have ntp := (b4.same (same_new (o := .tup vs) hq)).fresh ht'
      have nqp := b4.fresh hq
      refine k _ _ s os (bt4.trans (But.of s1)) (b4.same s1) hs (by omega) (by omega) go ⟨t', q, vs, rfl, SqT.of (by rw [off_ne ntp]; exact upd_same), SqT.of (by rw [off_ne nqp]; exact same_new ht' _ _ upd_same), ?_⟩
      exact dv.same (Same.trans off_le (But.of s1).off)
end
end K46
/-! what a work tells, or is refused with. -/
namespace K46
open PySem L2 FX SQ LamX
abbrev sErr : Stmt := top 42
/-- the error of a class is caught and told -/
def Hit (C : Addr) (fl : Str) (wd : Str) (Q : VK) (cls : Value) (d : Option Addr) (H : Hp) : Prop := cls = .ref C ∧ ∃ dd v, d = some dd ∧ H dd = some (.xd [(fl, v)]) ∧ ∀ t, H t = none → Q (.ref t) (upd H t (.tup [.str wd, v]))
def ErrW (cB cV cS : Addr) (Q : VK) : XK := fun cls d H => Hit cB "at" "book" Q cls d H ∨ Hit cV "at" "index" Q cls d H ∨ Hit cS "word" "size" Q cls d H
def IsW (Q : VK) : VK := fun v H' => ([V.str "is", v] : List V).length ≤ sizeLine ∧ ∀ q, H' q = none → Q (.ref q) (upd H' q (.tup [V.str "is", v]))
def TTerr (cB cV cS : Addr) : (XK → Hp → VK → Prop) → Hp → VK → Prop := fun tl H Q => tl (ErrW cB cV cS Q) H (IsW Q)
def suErr (C : Addr) (fl wd : Str) : Su := fun a cls d => tRet (tTup (tCons (tC (.str wd)) (tCons (tFld C fl a cls d (tVar 1)) tNil)))
theorem suErr_ok {C : Addr} {fl wd : Str} {Q : VK} {d : Option Addr} {H : Hp} {a : Addr} {D : Ends} {σ : L2.St} (h : Hit C fl wd Q (.ref C) d H) (hrt : D.rt = Q) (hs : σ[1]? = some (some (.ref a))) : suErr C fl wd a (.ref C) d D σ H := by
  obtain ⟨_, dd, v, rfl, ed, k⟩ := h
  refine ⟨_, hs, rfl, rfl, dd, v, rfl, ed, (by show 2 ≤ sizeLine; decide), fun t ht => ?_⟩
  rw [hrt]
  exact k t ht
abbrev NErr : List Str := ["work", "e"]
theorem scErr : FnScope NErr ["work"] (defScope sErr) := ⟨rfl, rfl, rfl, by decide +kernel, rfl, by decide +kernel, by decide +kernel⟩
section
variable {K : PySem.W.Frag} {mg : Str → Option Value} {B cB iB cO iO cV iV cS iS : Addr}
theorem err_gives {X : Cx} {g : Addr} {cdg : Value} {q : Str} (T : Ers X.K X.mg B cB iB cO iO cV iV cS iS) : GivesTo X NErr "_law_heard" (defScope sErr) g cdg (defBody sErr) "work" q (TTerr cB cV cS) := by
  intro f c' s H Q tl act hc h
  refine ⟨_, pss_one (ps_tryCl (X := (cxOf C8.CX0 X.prog X.w X.K X.mg X.base NErr "_law_heard" (defScope sErr) g cdg X.A X.stack s H C8.E0).nox) (Wout := fun _ _ _ _ => False)
      (l := [(.ref cB, some 1, suErr cB "at" "book"), (.ref cV, some 1, suErr cV "at" "index"), (.ref cS, some 1, suErr cS "word" "size")])
      (tb := fun W D σ H => ∃ Ech : XK, (∀ cls d σ' H', Ech cls d H' → σ'.length = 2 → W cls d σ' H') ∧ σ[0]? = some (some (.ref f)) ∧ H c' = some (CodeO c' q) ∧ tl Ech H (IsW D.rt))
      rfl rfl scErr.nd LamX.takes0 (fun W pn xe tk _ => ?_)
      (by exact (Cl.named (i := 1) rfl rfl ⟨rfl, by decide, Or.inl T.b.T.gC⟩ (fun a oe cls d pn hz hf => pss_one (ps_ret (pe_tup (by exact (pa_cons pe_str (pa_cons (pe_errfield T.b.T T.b.U hz hf (pv 1)) pa_nil))))))
        (Cl.named (i := 1) rfl rfl ⟨rfl, by decide, Or.inl T.v.T.gC⟩ (fun a oe cls d pn hz hf => pss_one (ps_ret (pe_tup (by exact (pa_cons pe_str (pa_cons (pe_errfield T.v.T T.v.U hz hf (pv 1)) pa_nil))))))
        (Cl.named (i := 1) rfl rfl ⟨rfl, by decide, Or.inl T.s.T.gC⟩ (fun a oe cls d pn hz hf => pss_one (ps_ret (pe_tup (by exact (pa_cons pe_str (pa_cons (pe_errfield T.s.T T.s.U hz hf (pv 1)) pa_nil))))))
        Cl.nil))))), ?_⟩
  · refine ⟨fun pins s' σ H' D I h' => ?_⟩
    obtain ⟨Ech, hW, h1, h2, h3⟩ := h'
    have tk' : Takes ((cxOf C8.CX0 X.prog X.w X.K X.mg X.base NErr "_law_heard" (defScope sErr) g cdg X.A X.stack s H C8.E0).tr pn xe) (fun cls d σ' H' => σ'.length = 2 → W cls d σ' H') := fun e s'' x => by
      obtain ⟨a, B, sI, pins', σ', H'', cls, d, e1, J, r1, r2, r3, r4, r5, r6, w⟩ := x
      exact tk e s'' ⟨a, B, sI, pins', σ', H'', cls, d, e1, J, r1, r2, r3, r4, r5, r6, w J.len⟩
    have hp := fun p1 p2 => act (fun cls d σ' H' => σ'.length = 2 → W cls d σ' H') pn xe Ech p1 p2 tk' hW
    exact (pss_one (ps_ret (pe_tup (pa_cons pe_str (pa_cons (hp _ _) pa_nil))))).run pins s' σ H' D I ⟨h1, h2, h3⟩
  · refine ⟨ErrW cB cV cS Q, fun cls d σ' H' he hl => ?_, rfl, hc, h⟩
    have s1 : ∀ a : Addr, (σ'.set 1 (some (.ref a)))[1]? = some (some (V.ref a)) := fun a => by rw [List.getElem?_set_self (by omega)]
    have no : ∀ {x y : Str} {C C' : Addr}, ErrTxt X.K X.mg B x C → ErrTxt X.K X.mg B y C' → x ≠ y → y ≠ "FoldError" → PySem.W.exmOne X.K (.ref C) (.ref C') = some false := fun a b n nb => a.other T.S b n nb
    rcases he with he | he | he
    all_goals (obtain rfl := he.1)
    · exact ⟨true, T.b.T.own, fun _ a _ => suErr_ok he rfl (s1 a), fun z => nomatch z⟩
    · exact ⟨false, no T.v.T T.b.T (by decide) (by decide), fun z => (nomatch z), fun _ => ⟨true, T.v.T.own, fun _ a _ => suErr_ok he rfl (s1 a), fun z => nomatch z⟩⟩
    · exact ⟨false, no T.s.T T.b.T (by decide) (by decide), fun z => (nomatch z), fun _ => ⟨false, no T.s.T T.v.T (by decide) (by decide), fun z => (nomatch z), fun _ => ⟨true, T.s.T.own, fun _ a _ => suErr_ok he rfl (s1 a), fun z => nomatch z⟩⟩⟩
end
end K46
namespace K46
open PySem L2 FX SQ LamX
/-- all but lists and tables is kept -/
def NL (H H' : Hp) : Prop := ∀ a o, H a = some o → (∀ xs, o ≠ .lst xs) → (∀ ps, o ≠ .tbl ps) → H' a = some o
theorem NL.of {H H' : Hp} (s : Same H H') : NL H H' := fun a o e _ _ => s a o e
theorem NL.ext {H H' : Hp} (s : ExtN H H') : NL H H' := fun a o e _ n => s a o e n
theorem NL.but {p : Addr} {H H' : Hp} (b : Box H p) (s : But p H H') : NL H H' := fun a o e n _ => by
  obtain ⟨x, y, z, q⟩ := b
  exact s a o e fun h => by
    rw [h, q] at e
    exact n _ (Option.some.inj e).symm
theorem NL.put {H : Hp} {a : Addr} {xs : List V} {o : HO} (e : H a = some (.lst xs)) : NL H (upd H a o) := fun b u q n _ => by
  rw [upd_ne fun h => by
    rw [h, e] at q
    exact n _ (Option.some.inj q).symm]
  exact q
theorem NL.trans {H H1 H2 : Hp} (a : NL H H1) (b : NL H1 H2) : NL H H2 := fun c o e n t => b c o (a c o e n t) n t
/-- a kept work: the pair at w, what is told at t, the lambda at f -/
structure Stored (q : Str) (H : Hp) (w f c t : Addr) (told : List V) (params : Arguments) (body : Expr) (scope : Scope) (clo : List (Str × Addr)) : Prop where
  w : H w = some (.tup [.ref f, .ref t])
  t : H t = some (.tup told)
  f : H f = some (LamO f c q params body scope clo)
  c : H c = some (CodeO c q)
theorem Keep.put {p a : Addr} {H0 H : Hp} {o : HO} (k : Keep p H0 H) (n : ∀ u, H0 a = some u → (∀ ps, u ≠ .tbl ps) → False) : Keep p H0 (upd H a o) := fun c u e n1 n2 n3 => by
  rw [upd_ne fun z => by
    rw [z] at e
    exact n u e n2]
  exact k c u e n1 n2 n3
theorem none_ext {H H' : Hp} {a : Addr} (x : ExtN H H') (h : H' a = none) : ∀ u, H a = some u → (∀ ps, u ≠ .tbl ps) → False := fun u e n => by
  rw [x a u e n] at h
  cases h
variable {q : Str} {H H' : Hp} {w f c t : Addr} {told : List V} {params : Arguments} {body : Expr} {scope : Scope} {clo : List (Str × Addr)}
theorem lamO_lst (xs : List V) : LamO f c q params body scope clo ≠ .lst xs := fun z => by unfold LamO at z; cases z
theorem lamO_tbl (xs : Array Value) : LamO f c q params body scope clo ≠ .tbl xs := fun z => by unfold LamO at z; cases z
theorem codeO_lst (xs : List V) : CodeO c q ≠ .lst xs := fun z => by unfold CodeO at z; cases z
theorem Stored.nl (S : Stored q H w f c t told params body scope clo) (n : NL H H') : Stored q H' w f c t told params body scope clo :=
  ⟨n _ _ S.w (fun _ z => nomatch z) (fun _ z => nomatch z), n _ _ S.t (fun _ z => nomatch z) (fun _ z => nomatch z), n _ _ S.f lamO_lst lamO_tbl, n _ _ S.c codeO_lst codeO_ne⟩
theorem Stored.off {g : Addr} {φ : Heap → Prop} (S : Stored q H w f c t told params body scope clo) (e : H g = some (.ext φ)) (n1 : f ≠ g) (n2 : c ≠ g) : Stored q (offA H g) w f c t told params body scope clo :=
  ⟨by rw [offA_of fun z => by have h := S.w; rw [z, e] at h; cases h]; exact S.w, by rw [offA_of fun z => by have h := S.t; rw [z, e] at h; cases h]; exact S.t, by rw [offA_of n1]; exact S.f, by rw [offA_of n2]; exact S.c⟩
theorem tf_same {T : List (Addr × Str)} {fs : List Addr} (h : Tabs T (forg fs H)) (s : Same H H') : Tabs T (forg fs H') := h.ext fun b o e => forg_of (s _ _ (forg_le _ _ e)) (forg_not e)
theorem tf_off {T : List (Addr × Str)} {fs : List Addr} {g : Addr} (h : Tabs T (forg fs H)) (hg : g ∈ fs) : Tabs T (forg fs (offA H g)) := h.ext fun b o e => forg_of (by
  rw [offA_of fun z => forg_not e (by rw [z]; exact hg)]
  exact forg_le _ _ e) (forg_not e)
theorem tf_but {T : List (Addr × Str)} {fs : List Addr} {p : Addr} (h : Tabs T (forg fs H)) (b : Box H p) (s : But p H H') : Tabs T (forg fs H') := by
  obtain ⟨x, y, z, q⟩ := b
  intro u hu
  obtain ⟨ps, h1, h2, h3⟩ := h u hu
  have e1 := forg_le _ _ h1
  refine ⟨ps, forg_of (s _ _ e1 fun z => by rw [z, q] at e1; cases e1) (forg_not h1), h2, fun pos cv hc => ?_⟩
  obtain ⟨c, ec, e2⟩ := h3 pos cv hc
  have e3 := forg_le _ _ e2
  exact ⟨c, ec, forg_of (s _ _ e3 fun z => by rw [z, q] at e3; unfold CodeO at e3; cases e3) (forg_not e2)⟩
theorem tf_put {T : List (Addr × Str)} {fs : List Addr} {a : Addr} {xs : List V} {o : HO} (h : Tabs T (forg fs H)) (e : H a = some (.lst xs)) : Tabs T (forg fs (upd H a o)) := by
  intro u hu
  obtain ⟨ps, h1, h2, h3⟩ := h u hu
  have e1 := forg_le _ _ h1
  refine ⟨ps, forg_of (by rw [upd_ne fun z => by rw [z, e] at e1; cases e1]; exact e1) (forg_not h1), h2, fun pos cv hc => ?_⟩
  obtain ⟨c, ec, e2⟩ := h3 pos cv hc
  have e3 := forg_le _ _ e2
  exact ⟨c, ec, forg_of (by rw [upd_ne fun z => by rw [z, e] at e3; unfold CodeO at e3; cases e3]; exact e3) (forg_not e2)⟩
theorem tf_nil {T : List (Addr × Str)} (h : Tabs T H) : Tabs T (forg [] H) := h.ext fun b o e => forg_of e (by simp)
theorem tf_out {T : List (Addr × Str)} {fs : List Addr} (h : Tabs T (forg fs H)) : Tabs T H := h.ext fun b o e => forg_le _ _ e
theorem noPins {X : Cx} {pb : List (Addr × Obj)} {σ : L2.St} {H : Hp} {s : Shared} (I : Inv X pb σ H s) : Inv X [] σ H s := I.pins_of fun p hp => nomatch hp
/-- what stands at each turn, but the works -/
structure PvB (T : List (Addr × Str)) (fs : List Addr) (p Wl D : Addr) (ws : List V) (H0 H : Hp) : Prop where
  k : Keep p H0 H
  b : Box H p
  t : Tabs T (forg fs H)
  w : H Wl = some (.lst ws)
  d : H D = some (.lst [])
theorem PvB.step {T : List (Addr × Str)} {fs : List Addr} {p Wl D g : Addr} {ws : List V} {H0 H H' : Hp} {φ : Heap → Prop} (P : PvB T fs p Wl D ws H0 H) (e : H g = some (.ext φ)) (hg : g ∈ fs) (s : But p (offA H g) H') (b : Box H' p) (nW : Wl ≠ p) (nD : D ≠ p) : PvB T fs p Wl D ws H0 H' := by
  have nl : ∀ {a : Addr} {xs : List V}, H a = some (.lst xs) → a ≠ g := fun {a xs} h z => by rw [z, e] at h; cases h
  obtain ⟨x, y, z, q⟩ := P.b
  have b0 : Box (offA H g) p := ⟨x, y, z, by rw [offA_of (nl q)]; exact q⟩
  exact ⟨(P.k.trans (Keep.offA e)).trans (Keep.but s), b, tf_but (tf_off P.t hg) b0 s, s _ _ (by rw [offA_of (nl P.w)]; exact P.w) nW, s _ _ (by rw [offA_of (nl P.d)]; exact P.d) nD⟩
theorem Stored.step {p g : Addr} {φ : Heap → Prop} (S : Stored q H w f c t told params body scope clo) (b : Box H p) (e : H g = some (.ext φ)) (n1 : f ≠ g) (n2 : c ≠ g) (s : But p (offA H g) H') : Stored q H' w f c t told params body scope clo := by
  obtain ⟨x, y, z, h⟩ := b
  have b0 : Box (offA H g) p := ⟨x, y, z, by rw [offA_of fun z => by rw [z, e] at h; cases h]; exact h⟩
  exact (S.off e n1 n2).nl (NL.but b0 s)
theorem shaped_si {a : Str} (i : Int) (ha : PyData.strOk a = true) : SeqAt.shaped (.tuple [.str a, .int i]) = true := by
  unfold SeqAt.shaped
  simp [PyData.canLay0, PyData.canLayAll0, PyData.depth, PyData.depthAll, ha]
theorem shaped_ss {a b : Str} (ha : PyData.strOk a = true) (hb : PyData.strOk b = true) : SeqAt.shaped (.tuple [.str a, .str b]) = true := by
  unfold SeqAt.shaped
  simp [PyData.canLay0, PyData.canLayAll0, PyData.depth, PyData.depthAll, ha, hb]
theorem told_eq {a : Str} (i : Int) (ha : PyData.strOk a = true) : PyData.eqv (.tuple [.str a, .int i]) (.tuple [.str a, .int i]) = true := SeqAt.eqv_refl _ (SeqAt.canLay_of_shaped (shaped_si i ha))
theorem told_eqs {a b : Str} (ha : PyData.strOk a = true) (hb : PyData.strOk b = true) : PyData.eqv (.tuple [.str a, .str b]) (.tuple [.str a, .str b]) = true := SeqAt.eqv_refl _ (SeqAt.canLay_of_shaped (shaped_ss ha hb))
theorem okS1 : PyData.strOk "values" = true := by decide +kernel
theorem okS2 : PyData.strOk "size" = true := by decide +kernel
theorem okS3 : PyData.strOk "operation" = true := by decide +kernel
theorem okS4 : PyData.strOk "book" = true := by decide +kernel
end K46
/-! A written tuple: it has no dict. -/
namespace SQ
open PySem PySem.Spec PyProof.Rows L2
def tTupZ (t : TA) : TE := fun σ H Q => t σ H fun xs H1 => xs.length ≤ sizeLine ∧ ∀ q o, H1 q = none → o.dict = none → Q (.ref q) (upd H1 q (.frz o (.tup xs)))
theorem pe_tupZ {X : Cx} {es : List Expr} {t : TA} {k : Nat} {pos : Pos} (ha : PA X es t) : PE X (.Tuple es k pos) (tTupZ t) := by
  refine ⟨fun pins s σ H Q I h => Tuple_ (thn (ha.run _ pins s σ H _ I h) ?_)⟩
  rintro us s1 ⟨vs, H1, I1, r, hz, q⟩
  have hl : us.toArray.size ≤ sizeLine := by rw [List.size_toArray, ← r.length]; exact hz
  refine wpAny_newObj_type ?_ hl
  have I2 : Inv X pins σ (upd H1 s1.heap.objs.size (.frz { cls := .type "tuple", data := .seq us.toArray } (.tup vs))) { s1 with heap := s1.heap.push { cls := .type "tuple", data := .seq us.toArray } } :=
    I1.laid (t' := s1.toks) (fun _ _ e => Heap.get?_push_of_some _ e) (Nat.le_refl _) (show ObjOk X.prog X.w _ _ _ (.frz _ (.tup vs)) from ⟨Heap.get?_push_size _ rfl, hz, us, r, IsTup.new _ _⟩)
  exact ⟨.ref s1.heap.objs.size, _, I2, rfl, q _ _ (I1.hok.fresh (Nat.le_refl _)) rfl⟩
end SQ
/-! the law. -/
namespace K46
open PySem L2 FX SQ LamX
/-! data without lists don't hang on a list -/
mutual
def noL : PyData → Bool
  | .list _ => false
  | .dict _ => false
  | .tuple xs => noLs xs
  | _ => true
def noLs : List PyData → Bool
  | [] => true
  | x :: r => noL x && noLs r
end
mutual
theorem dp_noL {K : PySem.W.Frag} {H : Hp} {D : Addr} {acc : List V} (e : H D = some (.lst acc)) : ∀ {v : V} {d : PyData}, noL d = true → Dp K H v d → Dp K (off H D) v d
  | _, _, _, .non => .non
  | _, _, _, .bl b => .bl b
  | _, _, _, .int i => .int i
  | _, _, _, .str x => .str x
  | _, _, h, .lst _ _ => by cases h
  | _, _, h, .tup q r => .tup (seqT_offL e q) (dpAll_noL e h r)
theorem dpAll_noL {K : PySem.W.Frag} {H : Hp} {D : Addr} {acc : List V} (e : H D = some (.lst acc)) : ∀ {vs : List V} {ds : List PyData}, noLs ds = true → DpAll K H vs ds → DpAll K (off H D) vs ds
  | _, _, _, .nil => .nil
  | _, _, h, .cons a r => by
    have h : (noL _ && noLs _) = true := h
    rw [Bool.and_eq_true] at h
    exact .cons (dp_noL e h.1 a) (dpAll_noL e h.2 r)
end
theorem noL_n : ∀ ns : List Nat, noLs (ns.map nD) = true
  | [] => rfl
  | n :: r => noL_n r
theorem noL_o : ∀ ns : List (Option Nat), noLs (ns.map oD) = true
  | [] => rfl
  | none :: r => noL_o r
  | some n :: r => noL_o r
theorem noL_look (s n : Nat) (as : List Nat) : noL (lookD s n as) = true := by
  unfold lookD
  split
  · rfl
  · show (true && (true && (noLs _ && true))) = true
    rw [noL_n]
    rfl
  · split
    · show (true && (true && (true && (noLs _ && true)))) = true
      rw [noL_o]
      rfl
    · rfl
theorem good_op {s : Nat} {o : Nat × List Nat} (h : GoodN s o) : Op s o.1 o.2 := by
  obtain ⟨hs, la, hlt⟩ := h
  obtain ⟨s2, s3, n1, n3⟩ := hs.s
  exact ⟨s2, by omega, n1, n3, la, hlt, two_some hs la hlt⟩
theorem seqT_core {K : PySem.W.Frag} {p a : Addr} {H : Hp} {xs : List V} (e : H a = some (.tup xs)) (n : a ≠ p) : SqT K (core p H) a xs := SqT.of (by
  unfold core
  rw [if_neg n, e])
theorem seqL_core {K : PySem.W.Frag} {p a : Addr} {H : Hp} {xs : List V} (e : H a = some (.lst xs)) (n : a ≠ p) : SqL K (core p H) a xs := SqL.of (by
  unfold core
  rw [if_neg n, e])
theorem seqT_oc {K : PySem.W.Frag} {H : Hp} {p a : Addr} {xs : List V} (q : SqT K (off H p) a xs) : SqT K (core p H) a xs := by
  rcases q with (q | ⟨o, q⟩) | q
  · have n : a ≠ p := fun z => by rw [z, off_same] at q; cases q
    rw [off_ne n] at q
    exact .inl (.inl (by unfold core; rw [if_neg n, q]))
  · have n : a ≠ p := fun z => by rw [z, off_same] at q; cases q
    rw [off_ne n] at q
    exact .inl (.inr ⟨o, by unfold core; rw [if_neg n, q]⟩)
  · exact .inr q
theorem sqL_keep {K : PySem.W.Frag} {p a : Addr} {H0 H : Hp} {xs : List V} (q : SqL K H0 a xs) (n : H0 p = none) (k : Keep p H0 H) : SqL K H a xs := by
  rcases q with (q | ⟨o, q⟩) | q
  · exact .inl (.inl (k _ _ q (ne_of_none q n) (fun _ z => nomatch z) (fun _ z => nomatch z)))
  · exact .inl (.inr ⟨o, k _ _ q (ne_of_none q n) (fun _ z => nomatch z) (fun _ z => nomatch z)⟩)
  · exact .inr q
theorem nd_oc {K : PySem.W.Frag} {H : Hp} {p : Addr} {v : V} (h : Nd K (off H p) v) : Nd K (core p H) v := by
  obtain ⟨a, rfl, h⟩ := h
  rcases h with ⟨o, u, h, d⟩ | h
  · have n : a ≠ p := fun z => by rw [z, off_same] at h; cases h
    rw [off_ne n] at h
    exact ⟨a, rfl, .inl ⟨o, u, by unfold core; rw [if_neg n, h], d⟩⟩
  · exact ⟨a, rfl, .inr h⟩
theorem OpsV.core {K : PySem.W.Frag} {H : Hp} {p : Addr} {vs : List V} {os : List (Nat × List Nat)} (h : OpsV K (off H p) vs os) : OpsV K (core p H) vs os := by
  refine ⟨h.1, fun i v o a b => ?_⟩
  obtain ⟨x, y, rfl, q, q2, q3⟩ := h.2 i v o a b
  exact ⟨x, y, rfl, seqT_oc q, seqT_oc q2, nd_oc q3⟩
theorem OpsV.dp {K : PySem.W.Frag} {H : Hp} : ∀ {vs : List V} {os : List (Nat × List Nat)}, OpsV K H vs os → DpAll K H vs (os.map opT)
  | [], [], _ => .nil
  | [], _ :: _, h => absurd h.1 (by simp)
  | _ :: _, [], h => absurd h.1 (by simp)
  | v :: vs, o :: os, h => .cons (h.2 0 v o rfl rfl).dp (OpsV.dp ⟨by have := h.1; simpa using this, fun i v' o' a b => h.2 (i + 1) v' o' a b⟩)
/-- the drawn book, whatever becomes of the box -/
structure BkC (K : PySem.W.Frag) (p : Addr) (H : Hp) (ab ab2 : Addr) (vs : List V) (s : Nat) (os : List (Nat × List Nat)) : Prop where
  q : SqT K (core p H) ab [.int (s : Nat), .ref ab2]
  q2 : SqT K (core p H) ab2 vs
  o : OpsV K (core p H) vs os
theorem BkC.keep {K : PySem.W.Frag} {p : Addr} {H H' : Hp} {ab ab2 : Addr} {vs : List V} {s : Nat} {os : List (Nat × List Nat)} (b : BkC K p H ab ab2 vs s os) (k : Keep p H H') : BkC K p H' ab ab2 vs s os := ⟨seqT k.core b.q, seqT k.core b.q2, b.o.same k.core⟩
theorem BkC.dp {K : PySem.W.Frag} {p : Addr} {H : Hp} {ab ab2 : Addr} {vs : List V} {s : Nat} {os : List (Nat × List Nat)} (b : BkC K p H ab ab2 vs s os) : Dp K H (.ref ab) (bookD s os) := dp_same core_le (.tup b.q (.cons (.int _) (.cons (.tup b.q2 b.o.dp) .nil)))
theorem shaped_t (ns : List Nat) : SeqAt.shaped (.tuple (ns.map nD)) = true := by
  unfold SeqAt.shaped
  refine (Bool.and_eq_true _ _).mpr ⟨lay_n ns, decide_eq_true ?_⟩
  have := depth_n ns
  show PyData.depth (.tuple (ns.map nD)) ≤ 64
  simp only [PyData.depth]
  omega
theorem letN_eq {s : Nat} {os : List (Nat × List Nat)} (go : ∀ o ∈ os, GoodN s o) (ex : Bool) : letN s os ex = (List.range os.length).filter fun i => letL s ((os.getD i (0, [])).1) ((os.getD i (0, [])).2) ex := by
  unfold letN
  refine List.filter_congr fun i hi => ?_
  have hi := List.mem_range.mp hi
  have e : os.getD i (0, []) = os[i] := by rw [List.getD_eq_getElem?_getD, List.getElem?_eq_getElem hi]; rfl
  obtain ⟨h1, h2, h3⟩ := go _ (List.getElem_mem hi)
  rw [e]
  exact let_same h1 h2 h3 ex
def bk0 : List (Nat × List Nat) := [(2, [0, 0, 0, 1]), (1, [1, 0]), (2, [1, 0, 1, 0]), (3, [1, 1, 1, 1, 1, 1, 1, 1])]
theorem bk0_good : ∀ o ∈ bk0, GoodN 2 o := by
  intro o ho
  simp only [bk0, List.mem_cons, List.not_mem_nil, or_false] at ho
  rcases ho with rfl | rfl | rfl | rfl
  · exact ⟨⟨by decide, .inl ⟨rfl, by decide⟩⟩, rfl, by decide⟩
  · exact ⟨⟨by decide, .inl ⟨rfl, by decide⟩⟩, rfl, by decide⟩
  · exact ⟨⟨by decide, .inl ⟨rfl, by decide⟩⟩, rfl, by decide⟩
  · exact ⟨⟨by decide, .inl ⟨rfl, by decide⟩⟩, rfl, by decide⟩
def look0 : List D := [.tuple [.str "two", .int 0, .int 1, .tuple [.none, .none]], .tuple [.str "one", .int 0, .tuple [.int 1, .int 0]], .tuple [.str "one", .int 1, .tuple [.int 1, .int 0]], .tuple [.str "constant", .int 1]]
theorem look0_is : (bk0.map fun o => lookD 2 o.1 o.2) = look0 := by
  have h1 : lookD 2 2 [0, 0, 0, 1] = .tuple [.str "two", .int 0, .int 1, .tuple [.none, .none]] := by
    unfold lookD
    rw [show hungN 2 2 [0, 0, 0, 1] = [0, 1] from by decide +kernel, show twoN 2 2 [0, 0, 0, 1] = some (0, 1, [none, none]) from by decide +kernel]
    rfl
  have h2 : lookD 2 1 [1, 0] = .tuple [.str "one", .int 0, .tuple [.int 1, .int 0]] := by
    unfold lookD
    rw [show hungN 2 1 [1, 0] = [0] from by decide +kernel]
    show PyData.tuple [.str "one", nD 0, .tuple ((heldAns 2 [1, 0] (oneO 1 0)).map nD)] = _
    rw [show heldAns 2 [1, 0] (oneO 1 0) = [1, 0] from by decide +kernel]
    rfl
  have h3 : lookD 2 2 [1, 0, 1, 0] = .tuple [.str "one", .int 1, .tuple [.int 1, .int 0]] := by
    unfold lookD
    rw [show hungN 2 2 [1, 0, 1, 0] = [1] from by decide +kernel]
    show PyData.tuple [.str "one", nD 1, .tuple ((heldAns 2 [1, 0, 1, 0] (oneO 2 1)).map nD)] = _
    rw [show heldAns 2 [1, 0, 1, 0] (oneO 2 1) = [1, 0] from by decide +kernel]
    rfl
  have h4 : lookD 2 3 [1, 1, 1, 1, 1, 1, 1, 1] = .tuple [.str "constant", .int 1] := by
    unfold lookD
    rw [show hungN 2 3 [1, 1, 1, 1, 1, 1, 1, 1] = [] from by decide +kernel]
    rfl
  show [lookD 2 2 [0, 0, 0, 1], lookD 2 1 [1, 0], lookD 2 2 [1, 0, 1, 0], lookD 2 3 [1, 1, 1, 1, 1, 1, 1, 1]] = _
  rw [h1, h2, h3, h4]
  rfl
theorem look0_shaped : SeqAt.shaped (.list look0) = true := by decide +kernel
abbrev sLaw : Stmt := top 43
abbrev NLaw : List Str := ["script", "number", "k", "operation", "word", "due", "works", "book", "box", "work", "told"]
theorem scLaw : FnScope NLaw ["script"] (defScope sLaw) := ⟨rfl, rfl, rfl, by decide +kernel, rfl, by decide +kernel, by decide +kernel⟩
def qLaw : Str := (PyProof.Rows.envOfC "law" (defScope sLaw) 0 0 .none).qual ++ "<lambda>"
section
variable {K : PySem.W.Frag}
def perm2 {α : Type} : List α → List α → List α := fun us ws => match us, ws with
  | [], [a, b] => [a, b]
  | _, _ => []
theorem kb_At {f : Addr} {fd : FuncData} (F : Fun K "looks_at" "looks_at" sLooksAt f fd) : KBinds K fd ["book", "operation"] ["book", "operation"] perm2 perm2 := by
  obtain ⟨oc, od, kV, doc, pm, an, cdv, ct, osl, rfl, _, _⟩ := F.ex
  refine ⟨fun s us ws _ hl => ?_, fun r rz => ?_⟩
  · match us, ws, hl with
    | [], [v, z], _ => exact BindsTo.of_eq (by rfl)
  · cases r with
    | cons a b => exact .nil
    | nil => cases rz with
      | nil => exact .nil
      | cons a rz => cases rz with
        | nil => exact .nil
        | cons b rz => cases rz with
          | nil => exact .cons a (.cons b .nil)
          | cons c rz => exact .nil
theorem kb_Part {f : Addr} {fd : FuncData} (F : Fun K "let_part" "let_part" sLetPart f fd) : KBinds K fd ["book", "word"] ["book", "word"] perm2 perm2 := by
  obtain ⟨oc, od, kV, doc, pm, an, cdv, ct, osl, rfl, _, _⟩ := F.ex
  refine ⟨fun s us ws _ hl => ?_, fun r rz => ?_⟩
  · match us, ws, hl with
    | [], [v, z], _ => exact BindsTo.of_eq (by rfl)
  · cases r with
    | cons a b => exact .nil
    | nil => cases rz with
      | nil => exact .nil
      | cons a rz => cases rz with
        | nil => exact .nil
        | cons b rz => cases rz with
          | nil => exact .cons a (.cons b .nil)
          | cons c rz => exact .nil
end
section
variable {P : Program} {w : World} {K : PySem.W.Frag} {mg : Str → Option Value} {base : Heap} {B cB iB cO iO cV iV cS iS : Addr}
def spLaw (K : PySem.W.Frag) (T : List (Addr × Str)) : Sp := fun vs H Q _ => ∃ (a : Addr) (ns : List Int), vs = [.ref a] ∧ SqL K H a (ns.map V.int) ∧ Tabs T H ∧ ∀ H', Q (.bl true) H'
structure Gs (K : PySem.W.Frag) (mg : Str → Option Value) (P : Program) (w : World) (base : Heap) (cB cV cS : Addr) (fX fP fN fA fR fI fL fE : Addr) (dX dP dN dA dR dI dL dE : FuncData) : Prop where
  box : At K mg "_law_box" sBox fX dX ["script", "k"]
  gBox : FnOk P w K mg base CX0 1 fX dX ["script", "k"] (spBox K)
  pick : At K mg "_law_pick" sPick fP dP ["box", "some"]
  gPick : FnOk P w K mg base CX0 2 fP dP ["box", "some"] (spPick K)
  book : At K mg "_law_book" sBk fN dN ["box"]
  gBook : FnOk P w K mg base CX0 2 fN dN ["box"] (spBk K)
  looks : At K mg "looks_at" sLooksAt fA dA ["book", "operation"]
  gLooks : FnOk P w K mg base (L2.CX P w) 9 fA dA ["book", "operation"] (spAt K cB cV)
  part : At K mg "let_part" sLetPart fR dR ["book", "word"]
  gPart : FnOk P w K mg base (L2.CX P w) 10 fR dR ["book", "word"] (spPart K cS)
  isL : At K mg "_law_is_look" sIsLook fI dI ["size", "operation", "value"]
  gIsL : FnOk P w K mg base CX0 3 fI dI ["size", "operation", "value"] (spIsLook K)
  lets : At K mg "_law_lets" sLets fL dL ["size", "operation", "word"]
  gLets : FnOk P w K mg base CX0 3 fL dL ["size", "operation", "word"] (spLets K)
  err : At K mg "_law_heard" sErr fE dE ["work"]
abbrev tN2 (a b : TE) : TE := tTup (tCons a (tCons b tNil))
theorem ok_law {f c Pt : Addr} {fd : FuncData} {T : List (Addr × Str)} {fX fP fN fA fR fI fL fE : Addr} {dX dP dN dA dR dI dL dE : FuncData} (F : FunC K "law" sLaw f c fd) (Z : Bi mg) (R : Ers K mg B cB iB cO iO cV iV cS iS) (G : Gs K mg P w base cB cV cS fX fP fN fA fR fI fL fE dX dP dN dA dR dI dL dE)
    (TB : TabB base mg c Pt) (hmT : (Pt, qLaw) ∈ T) (hu : ∀ p ∈ T, p.1 = Pt → p.2 = qLaw) : FnOk P w K mg base CX0 14 f fd ["script"] (spLaw K T) := by
  refine F.ok scLaw (fun vs H Q E h => ?_) (fun A outer sh H vs Q E hr h => ?_)
  · obtain ⟨a, ns, rfl, _⟩ := h
    rfl
  · obtain ⟨a, ns, rfl, hS, hT, k⟩ := h
    have hr8 := hr.units
    obtain ⟨oc, od, kV, doc, pm, an, cdv, ct, osl, rfl, lkE, hcE⟩ := G.err.F.ex
    refine ⟨_, pss_cons (ps_set (i := 7) scLaw.nd rfl (Or.inr rfl) (pe_tup (by exact (pa_cons pe_int (pa_cons (pe_tup (by exact
          (pa_cons (pe_tup (by exact (pa_cons pe_int (pa_cons (pe_tup (by exact (pa_cons pe_int (pa_cons pe_int (pa_cons pe_int (pa_cons pe_int pa_nil)))))) pa_nil))))
          (pa_cons (pe_tup (by exact (pa_cons pe_int (pa_cons (pe_tup (by exact (pa_cons pe_int (pa_cons pe_int pa_nil)))) pa_nil))))
          (pa_cons (pe_tup (by exact (pa_cons pe_int (pa_cons (pe_tup (by exact (pa_cons pe_int (pa_cons pe_int (pa_cons pe_int (pa_cons pe_int pa_nil)))))) pa_nil))))
          (pa_cons (pe_tup (by exact (pa_cons pe_int (pa_cons (pe_op op_repA (pe_tup (by exact (pa_cons pe_int pa_nil))) pe_int) pa_nil)))) pa_nil)))))) pa_nil)))))
      (pss_cons (ps_if (pt_cmpR (op_neD hr8) (pe_lc (own := [("number", 1)]) (g := gName 1) (tt := tYes) (te := tCall (spAt K cB cV) [] (fun _ _ _ => False) (tCons (tVar 7) (tCons (tVar 1) tNil))) rfl scLaw.nd (pi_range1 (by rfl) Z.range (pa_cons pe_int pa_nil)) (blkOk_by (N := NLaw) (sc := defScope sLaw) (by decide +kernel))
            (fun _ _ _ _ _ => pg_name (i := 1) scLaw.nd rfl (Or.inl rfl)) (fun _ _ _ _ _ => pts_nil) (fun _ _ _ _ _ => pe_call G.gLooks (hr.mono (by decide)) (by rfl) G.looks.g G.looks.F.kp G.looks.b .nil (pass_never rfl rfl) (by exact (pa_cons (pv 7) (pa_cons (pv 1) pa_nil)))))
          (pe_lst (by exact (pa_cons (pe_tup (by exact (pa_cons pe_str (pa_cons pe_int (pa_cons pe_int (pa_cons (pe_tup (by exact (pa_cons pe_non (pa_cons pe_non pa_nil)))) pa_nil))))))
            (pa_cons (pe_tup (by exact (pa_cons pe_str (pa_cons pe_int (pa_cons (pe_tup (by exact (pa_cons pe_int (pa_cons pe_int pa_nil)))) pa_nil)))))
            (pa_cons (pe_tup (by exact (pa_cons pe_str (pa_cons pe_int (pa_cons (pe_tup (by exact (pa_cons pe_int (pa_cons pe_int pa_nil)))) pa_nil)))))
            (pa_cons (pe_tup (by exact (pa_cons pe_str (pa_cons pe_int pa_nil)))) pa_nil)))))) (nomark _)) (pss_one (ps_ret pe_bl)) pss_nil)
      (pss_cons (ps_for PassesOwn.never rfl (pi_range1 rfl Z.range (pa_cons pe_int pa_nil)) (pg_name (i := 2) scLaw.nd rfl (Or.inl rfl))
        (pss_cons (ps_set (i := 8) scLaw.nd rfl (Or.inr rfl) (pe_call G.gBox (hr.mono (by decide)) rfl G.box.g G.box.F.kp G.box.b .nil pass0 (by exact (pa_cons (pv 0) (pa_cons (pv 2) pa_nil)))))
        (pss_cons (ps_set (i := 7) scLaw.nd rfl (Or.inr rfl) (pe_call G.gBook (hr.mono (by decide)) rfl G.book.g G.book.F.kp G.book.b .nil pass0 (by exact (pa_cons (pv 8) pa_nil))))
        (pss_cons (ps_for PassesOwn.never rfl (pi_enum2 (by rfl) Z.enumerate (pa_cons (pe_ix ix_tup (pv 7) pe_int (fun _ _ => rfl)) pa_nil)) (pg_tup rfl (pgs_cons (pg_name (i := 1) scLaw.nd rfl (Or.inl rfl)) (pgs_cons (pg_name (i := 3) scLaw.nd rfl (Or.inl rfl)) pgs_nil)))
          (pss_one (ps_if (pt_not (pt_val (pe_call G.gIsL (hr.mono (by decide)) rfl G.isL.g G.isL.F.kp G.isL.b .nil pass0 (by exact (pa_cons (pe_ix ix_tup (pv 7) pe_int (fun _ _ => rfl)) (pa_cons (pv 3)
              (pa_cons (pe_callK0 G.gLooks (hr.mono (by decide)) rfl G.looks.g G.looks.F.kp (kb_At G.looks.F) (pass_never rfl rfl) (pk_cons (pv 7) (pk_cons (pv 1) pk_nil))) pa_nil))))))) (pss_one (ps_ret pe_bl)) pss_nil)))
        (pss_cons (ps_for PassesOwn.never rfl (pi_tup (pe_tup (by exact (pa_cons pe_str (pa_cons pe_str pa_nil))))) (pg_name (i := 4) scLaw.nd rfl (Or.inr rfl))
          (pss_cons (ps_setLc (i := 5) (own := [("number", 1), ("operation", 3)]) (g := gTup K 2 (gCons (gName 1) (gCons (gName 3) gNil))) (tt := tB (tCall (spLets K) [] E0 (tCons (tOp (rIxT K) (tVar 7) (tC (.int 0))) (tCons (tVar 3) (tCons (tVar 4) tNil))))) (te := tVar 1) rfl scLaw.nd rfl rfl (sw_true rfl rfl rfl (by decide +kernel))
              (pi_enum2 (by rfl) Z.enumerate (pa_cons (pe_ix ix_tup (pv 7) pe_int (fun _ _ => rfl)) pa_nil)) (blkOk_by (N := NLaw) (sc := defScope sLaw) (by decide +kernel))
              (fun _ _ _ _ _ => pg_tup rfl (pgs_cons (pg_name (i := 1) scLaw.nd rfl (Or.inl rfl)) (pgs_cons (pg_name (i := 3) scLaw.nd rfl (Or.inl rfl)) pgs_nil)))
              (fun _ _ _ _ _ => pts_one (pt_val (pe_call G.gLets (hr.mono (by decide)) (by rfl) G.lets.g G.lets.F.kp G.lets.b .nil pass0 (by exact (pa_cons (pe_ix ix_tup (pv 7) pe_int (fun _ _ => rfl)) (pa_cons (pv 3) (pa_cons (pv 4) pa_nil))))))) (fun _ _ _ _ _ => pv 1))
          (pss_one (ps_if (pt_cmpR (op_neD hr8) (pe_callK0 G.gPart (hr.mono (by decide)) rfl G.part.g G.part.F.kp (kb_Part G.part.F) (pass_never rfl rfl) (pk_cons (pv 7) (pk_cons (pv 4) pk_nil))) (pe_tupleOf (by rfl) Z.tuple (pv 5)) (nomark _)) (pss_one (ps_ret pe_bl)) pss_nil))))
        (pss_cons (ps_set (i := 6) scLaw.nd rfl (Or.inl rfl) (pe_lst (by exact (pa_cons (pe_tup (by exact (pa_cons (pe_lamV TB rfl hmT hu rfl (lamS_by (sc := defScope sLaw) (by decide +kernel))) (pa_cons (pe_tup (by exact (pa_cons pe_str (pa_cons (pe_un un_neg pe_int) pa_nil)))) pa_nil)))) pa_nil))))
        (pss_cons (ps_expr (pe_bm PySem.F.plainAttrs_list PySem.F.slot_list_append PySem.F.type_list_append mt_append (pv 6) (pa_cons (pe_tup (by exact (pa_cons (pe_lamV TB rfl hmT hu rfl (lamS_by (sc := defScope sLaw) (by decide +kernel))) (pa_cons (pe_tup (by exact (pa_cons pe_str (pa_cons pe_str pa_nil)))) pa_nil)))) pa_nil)))
        (pss_cons (ps_expr (pe_bm PySem.F.plainAttrs_list PySem.F.slot_list_append PySem.F.type_list_append mt_append (pv 6) (pa_cons (pe_tup (by exact (pa_cons (pe_lamV TB rfl hmT hu rfl (lamS_by (sc := defScope sLaw) (by decide +kernel))) (pa_cons (pe_tup (by exact (pa_cons pe_str (pa_cons (pe_un un_neg pe_int) pa_nil)))) pa_nil)))) pa_nil)))
        (pss_one (ps_if (pt_cmpR (op_neD hr8) (pe_lcAt (own := [("work", 9), ("told", 10)]) (g := gTup K 2 (gCons (gName 9) (gCons (gName 10) gNil))) (tt := fun sb Hb => tTest (tOp (rNeD K) (tKept (cxOf CX0 P w K mg base NLaw "law" (defScope sLaw) f (.ref c) A outer sh H E).nox 11 (TTerr cB cV cS) 9 sb Hb) (tVar 10))) (te := fun _ _ => tVar 9) rfl scLaw.nd (pi_list (pv 6)) (blkOk_by (N := NLaw) (sc := defScope sLaw) (by decide +kernel))
          (fun s H pins σ C cl fp I hfp => ⟨pg_tup rfl (pgs_cons (pg_name (i := 9) scLaw.nd rfl (Or.inl rfl)) (pgs_cons (pg_name (i := 10) scLaw.nd rfl (Or.inl rfl)) pgs_nil)),
            pts_one (pt_cmpR (op_neD hr8) (pe_kept (k := 11) (i := 9) hfp (by rfl) G.err.g G.err.F.kp lkE hcE G.err.b scErr rfl (Or.inl rfl) (err_gives R) (hr.mono (by decide)) (pv 9)) (pv 10) (nomark _)), pv 9⟩)) (pe_lst pa_nil) (nomark _)) (pss_one (ps_ret pe_bl)) pss_nil))))))))))
      (pss_one (ps_ret pe_bl)))), ?_⟩
    refine ⟨(by show 4 ≤ sizeLine; decide), fun t1 ht1 => ⟨(by show 2 ≤ sizeLine; decide), fun t2 ht2 => ⟨(by show 2 ≤ sizeLine; decide), fun t3 ht3 => ⟨(by show 2 ≤ sizeLine; decide), fun t4 ht4 => ⟨(by show 4 ≤ sizeLine; decide), fun t5 ht5 => ⟨(by show 2 ≤ sizeLine; decide), fun t6 ht6 => ⟨(by show 1 ≤ sizeLine; decide), fun t7 ht7 => ?_⟩⟩⟩⟩⟩⟩⟩
    refine ⟨t7, 8, _, rfl, rfl, SqT.of upd_same, (fun z => nomatch z), by decide, by decide, (by show 1 ≤ 1000; decide), fun H8 t8 s8 q8 => ⟨(by show 2 ≤ sizeLine; decide), fun t9 ht9 => ⟨(by show 4 ≤ sizeLine; decide), fun t10 ht10 => ⟨(by show 2 ≤ sizeLine; decide), fun t11 ht11 => ?_⟩⟩⟩⟩
    have m1 := same_new (o := .tup [V.int 0, V.int 0, V.int 0, V.int 1]) ht1
    have m2 := same_new (o := .tup [V.int 2, V.ref t1]) ht2
    have m3 := same_new (o := .tup [V.int 1, V.int 0]) ht3
    have m4 := same_new (o := .tup [V.int 1, V.ref t3]) ht4
    have m5 := same_new (o := .tup [V.int 1, V.int 0, V.int 1, V.int 0]) ht5
    have m6 := same_new (o := .tup [V.int 2, V.ref t5]) ht6
    have m7 := same_new (o := .tup [V.int 1]) ht7
    have m9 := same_new (o := .tup [V.int 3, V.ref t8]) ht9
    have m10 := same_new (o := .tup [V.ref t2, V.ref t4, V.ref t6, V.ref t9]) ht10
    have m11 := same_new (o := .tup [V.int 2, V.ref t10]) ht11
    have f10 := m10.trans m11
    have f9 := m9.trans f10
    have f8 := s8.trans f9
    have f7 := m7.trans f8
    have f6 := m6.trans f7
    have f5 := m5.trans f6
    have f4 := m4.trans f5
    have f3 := m3.trans f4
    have f2 := m2.trans f3
    have f1 := m1.trans f2
    have dB : Dp K (upd (upd (upd H8 t9 (.tup [V.int 3, V.ref t8])) t10 (.tup [V.ref t2, V.ref t4, V.ref t6, V.ref t9])) t11 (.tup [V.int 2, V.ref t10])) (.ref t11) (bookD 2 bk0) := by
      refine .tup (SqT.of upd_same) (.cons (.int 2) (.cons (.tup (SqT.of (m11 _ _ upd_same)) ?_) .nil))
      refine .cons (.tup (SqT.of (f3 _ _ upd_same)) (.cons (.int 2) (.cons (.tup (SqT.of (f2 _ _ upd_same)) (dpAll_mkn [0, 0, 0, 1])) .nil))) ?_
      refine .cons (.tup (SqT.of (f5 _ _ upd_same)) (.cons (.int 1) (.cons (.tup (SqT.of (f4 _ _ upd_same)) (dpAll_mkn [1, 0])) .nil))) ?_
      refine .cons (.tup (SqT.of (f7 _ _ upd_same)) (.cons (.int 2) (.cons (.tup (SqT.of (f6 _ _ upd_same)) (dpAll_mkn [1, 0, 1, 0])) .nil))) ?_
      exact .cons (.tup (SqT.of (f10 _ _ upd_same)) (.cons (.int 3) (.cons (.tup (seqT f9 q8) (dpAll_mkn [1, 1, 1, 1, 1, 1, 1, 1])) .nil))) .nil
    generalize upd (upd (upd H8 t9 (.tup [V.int 3, V.ref t8])) t10 (.tup [V.ref t2, V.ref t4, V.ref t6, V.ref t9])) t11 (.tup [V.int 2, V.ref t10]) = H1 at f1 dB
    clear m1 m2 m3 m4 m5 m6 m7 m9 m10 m11 f2 f3 f4 f5 f6 f7 f8 f9 f10 q8 s8 ht1 ht2 ht3 ht4 ht5 ht6 ht7 ht9 ht10 ht11
    refine ⟨4, rfl, by decide, by decide, fun D hD => walk_it walk_range (fun i H' => Same H1 H' ∧ Grow K H' D ((bk0.take i).map fun o => lookD 2 o.1 o.2)) ⟨same_new hD, Grow.nil⟩ (fun _ _ _ _ => trivial) ?_ ?_⟩
    · rintro i x _ H2 hi ⟨s2, g2⟩ ⟨rfl, ex⟩
      obtain rfl := int_nat0 ex
      have hi : i < bk0.length := hi
      have ho : bk0[i]? = some bk0[i] := List.getElem?_eq_getElem hi
      refine ⟨rfl, _, rfl, _, rfl, .ref t11, .int (i : Nat), bookD 2 bk0, nD i, rfl, dp_same s2 dB, .int _, .inr ⟨2, bk0, rfl, by decide, by decide, by decide, fun o ho => good_op (bk0_good o ho), .inr ⟨i, bk0[i], rfl, ho, fun H3 v s3 d3 => ?_⟩⟩⟩
      have g3 := g2.keep s3
      obtain ⟨acc, eD, _⟩ := id g3
      have lacc := g3.len eD
      rw [List.length_map, List.length_take] at lacc
      refine ⟨acc, eD, by rw [lacc, sizeLine_eq]; have : bk0.length = 4 := rfl; omega, same_of (s2.trans s3) hD, ?_⟩
      rw [take_more ho, List.map_append]
      exact g3.put eD (dp_noL eD (noL_look _ _ _) d3)
    rintro H2 ⟨s2, g2⟩
    rw [show (bk0.take (4 : Int).toNat).map (fun o => lookD 2 o.1 o.2) = look0 from look0_is] at g2
    have dL := g2.dp
    refine ⟨(by show 2 ≤ sizeLine; decide), fun u1 hu1 => ⟨(by show 4 ≤ sizeLine; decide), fun u2 hu2 => ⟨(by show 2 ≤ sizeLine; decide), fun u3 hu3 => ⟨(by show 3 ≤ sizeLine; decide), fun u4 hu4 => ⟨(by show 2 ≤ sizeLine; decide), fun u5 hu5 => ⟨(by show 3 ≤ sizeLine; decide), fun u6 hu6 => ⟨(by show 2 ≤ sizeLine; decide), fun u7 hu7 => ⟨(by show 4 ≤ sizeLine; decide), fun ul hul => ?_⟩⟩⟩⟩⟩⟩⟩⟩
    have n1 := same_new (o := .tup [V.non, V.non]) hu1
    have n2 := same_new (o := .tup [V.str "two", V.int 0, V.int 1, V.ref u1]) hu2
    have n3 := same_new (o := .tup [V.int 1, V.int 0]) hu3
    have n4 := same_new (o := .tup [V.str "one", V.int 0, V.ref u3]) hu4
    have n5 := same_new (o := .tup [V.int 1, V.int 0]) hu5
    have n6 := same_new (o := .tup [V.str "one", V.int 1, V.ref u5]) hu6
    have n7 := same_new (o := .tup [V.str "constant", V.int 1]) hu7
    have n8 := same_new (o := .lst [V.ref u2, V.ref u4, V.ref u6, V.ref u7]) hul
    have e7 := n7.trans n8
    have e6 := n6.trans e7
    have e5 := n5.trans e6
    have e4 := n4.trans e5
    have e3 := n3.trans e4
    have e2 := n2.trans e3
    have e1 := n1.trans e2
    refine ⟨.list look0, .list look0, dp_same e1 dL, .lst (SqL.of upd_same) ?_, look0_shaped, look0_shaped, _, rfl, ?_⟩
    · refine .cons (.tup (SqT.of (e3 _ _ upd_same)) (.cons (.str _) (.cons (.int _) (.cons (.int _) (.cons (.tup (SqT.of (e2 _ _ upd_same)) (.cons .non (.cons .non .nil))) .nil))))) ?_
      refine .cons (.tup (SqT.of (e5 _ _ upd_same)) (.cons (.str _) (.cons (.int _) (.cons (.tup (SqT.of (e4 _ _ upd_same)) (.cons (.int _) (.cons (.int _) .nil))) .nil)))) ?_
      refine .cons (.tup (SqT.of (e7 _ _ upd_same)) (.cons (.str _) (.cons (.int _) (.cons (.tup (SqT.of (e6 _ _ upd_same)) (.cons (.int _) (.cons (.int _) .nil))) .nil)))) ?_
      exact .cons (.tup (SqT.of (n8 _ _ upd_same)) (.cons (.str _) (.cons (.int _) .nil))) .nil
    refine go_f (by rw [eqv_self look0_shaped]; rfl) ?_
    have s0 := f1.trans (s2.trans e1)
    have hS5 : SqL K _ a (ns.map V.int) := s0.seq hS
    have hT5 : Tabs T _ := hT.ext s0
    generalize upd _ ul _ = H5 at s0 hS5 hT5
    clear e1 e2 e3 e4 e5 e6 e7 n1 n2 n3 n4 n5 n6 n7 n8 hu1 hu2 hu3 hu4 hu5 hu6 hu7 hul dL g2 s2 dB f1 s0
    refine ⟨3, rfl, by decide, by decide, ?_⟩
    refine for_range (n := 3) (fun i σ H' => ∃ u1 u2 u3 u4 u5 u6 u7 u8 : Option V, σ = [some (.ref a), u1, u2, u3, u4, u5, u6, u7, u8, none, none] ∧ SqL K H' a (ns.map V.int) ∧ Tabs T H')
      ⟨none, none, none, none, none, none, _, none, rfl, hS5, hT5⟩ ?_ ?_
    · rintro i σ H6 hi ⟨u1, u2, u3, u4, u5, u6, u7, u8, rfl, hS6, hT6⟩
      refine ⟨_, rfl, _, rfl, a, _, ns, rfl, (by omega), hS6, fun H7 p s7 np b7 => ?_⟩
      refine ⟨_, rfl, p, rfl, b7, fun H8 v s os bt8 b8 hs l1 l3 go bv => ?_⟩
      obtain ⟨ab, ab2, vs, rfl, qb, qb2, ov⟩ := bv
      have bk : BkC K p H8 ab ab2 vs s os := ⟨seqT_oc qb, seqT_oc qb2, ov.core⟩
      have lvs : vs.length = os.length := ov.1
      have hT8 := K46.Tabs.but (hT6.ext s7) b7 bt8
      have k68 : Keep p H6 H8 := (Keep.of s7).trans (Keep.but bt8)
      have ops := fun o ho => good_op (go o ho)
      have s25 : 2 ≤ s ∧ s < 5 := by omega
      clear qb qb2 ov
      refine ⟨_, rfl, ab, _, _, .ref ab2, rfl, rfl, seqT core_le bk.q, atI_nat (j := 1) rfl, ab2, vs, .T, rfl, seqT core_le bk.q2, for_it (walk_enum2 (k := .T) (a := ab2) (xs := vs) (n := vs.length) rfl)
        (fun j σ H' => ∃ u1 u3 : Option V, σ = [some (.ref a), u1, some (.int (0 + (i : Int))), u3, u4, u5, u6, some (.ref ab), some (.ref p), none, none] ∧ Same H8 H')
        ⟨u1, u3, rfl, Same.refl H8⟩ (fun j σ H' _ ⟨_, _, _, s9⟩ => seqT (core_le.trans s9) bk.q2) ?_ ?_⟩
      · rintro j x σ H9 H10 hj ⟨u1, u3, rfl, s9⟩ ⟨t, x1, x2, rfl, ht, rfl, hx1, hx2⟩
        obtain rfl : x1 = .int (j : Nat) := (Option.some.inj hx1).symm
        have hx2 : vs[j]? = some x2 := hx2
        have ho : os[j]? = some os[j] := List.getElem?_eq_getElem (by omega)
        have hov := bk.o.2 j x2 _ hx2 ho
        obtain ⟨g1, g2, g3⟩ := go _ (List.getElem_mem (by omega : j < os.length))
        have s10 := s9.trans (same_new (o := .tup [.int (j : Nat), x2]) ht)
        have bk10 := bk.keep (Keep.of s10)
        refine ⟨t, _, rfl, SqT.of upd_same, rfl, _, _, rfl, _, _, rfl, rfl, ?_⟩
        refine ⟨_, rfl, ab, _, _, .int (s : Nat), rfl, rfl, seqT core_le bk10.q, atI_nat (j := 0) rfl, _, rfl, _, rfl, _, rfl, .ref ab, .int (j : Nat), bookD s os, nD j, rfl, bk10.dp, .int _, .inr ⟨s, os, rfl, s25.1, s25.2, by omega, ops, .inr ⟨j, os[j], rfl, ho, fun H11 v s11 d11 => ?_⟩⟩⟩
        refine ⟨x2, v, s, (os[j]).1, (os[j]).2, rfl, (hov.same (core_le.trans (s10.trans s11))).dp, g1, g2, g3, d11, fun H12 s12 => ⟨true, rfl, ?_⟩⟩
        refine go_f rfl ?_
        exact ⟨_, _, rfl, s10.trans (s11.trans s12)⟩
      rintro σ H9 ⟨u1, u3, rfl, s9⟩
      have bk9 := bk.keep (Keep.of s9)
      have k69 := k68.trans (Keep.of s9)
      have b9 := b8.same s9
      have hT9 := hT8.ext s9
      clear bk b8 hT8 k68 bt8 b7 hT6
      refine ⟨(by show 2 ≤ sizeLine; decide), fun tw htw => ⟨tw, rfl, ⟨_, SqT.of upd_same⟩, ?_⟩⟩
      have sw := same_new (o := .tup [V.str "exact", V.str "finds"]) htw
      have ew : upd H9 tw (.tup [V.str "exact", V.str "finds"]) tw = some (.tup [V.str "exact", V.str "finds"]) := upd_same
      have bkw := bk9.keep (Keep.of sw)
      have kw := k69.trans (Keep.of sw)
      have bw := b9.same sw
      have hTw := hT9.ext sw
      generalize upd H9 tw (.tup [V.str "exact", V.str "finds"]) = Hw at ew bkw kw bw hTw
      clear bk9 k69 b9 hT9 sw htw
      refine for_tup (K := K) (a := tw) (xs := [V.str "exact", V.str "finds"]) (fun j σ H' => ∃ u1 u3 u4 u5 : Option V, σ = [some (.ref a), u1, some (.int (0 + (i : Int))), u3, u4, u5, u6, some (.ref ab), some (.ref p), none, none] ∧ Same Hw H')
        ?_ (fun j σ H' _ h => by obtain ⟨_, _, _, _, _, s'⟩ := h; exact SqT.of (s' _ _ ew)) ?_ ?_
      · exact ⟨u1, u3, u4, u5, rfl, Same.refl Hw⟩
      · rintro j x σ H10 hx ⟨u1, u3, u4, u5, rfl, s10⟩
        obtain ⟨wd, rfl, hwd⟩ : ∃ wd : Str, x = .str wd ∧ (wd = "exact" ∨ wd = "finds") := by
          match j, hx with
          | 0, hx =>
            cases hx
            exact ⟨_, rfl, .inl rfl⟩
          | 1, hx =>
            cases hx
            exact ⟨_, rfl, .inr rfl⟩
          | j + 2, hx => cases hx
        have bk10 := bkw.keep (Keep.of s10)
        refine ⟨_, rfl, ab, _, _, .ref ab2, rfl, rfl, seqT core_le bk10.q, atI_nat (j := 1) rfl, ab2, vs, .T, rfl, seqT core_le bk10.q2, fun D hD => walk_it (walk_enum2 (k := .T) (a := ab2) (xs := vs) (n := vs.length) rfl) (fun i H' => Same H10 H' ∧ H' D = some (.lst (((List.range i).filter fun i => letL s ((os.getD i (0, [])).1) ((os.getD i (0, [])).2) (decide (V.str wd = V.str "exact"))).map fun n : Nat => V.int n))) ⟨same_new hD, upd_same⟩ (fun i H' _ q => seqT (core_le.trans q.1) bk10.q2) ?_ ?_⟩
        · rintro m y H11 H12 hm ⟨s11, eD⟩ ⟨T1, y1, y2, rfl, hT1, rfl, hx1, hx2⟩
          obtain rfl : y1 = .int (m : Nat) := (Option.some.inj hx1).symm
          have hx2 : vs[m]? = some y2 := hx2
          have ho : os[m]? = some os[m] := List.getElem?_eq_getElem (by omega)
          have hov := bk10.o.2 m y2 _ hx2 ho
          obtain ⟨g1, g2, g3⟩ := go _ (List.getElem_mem (by omega : m < os.length))
          have s12 := same_new (o := .tup [.int (m : Nat), y2]) hT1
          have s112 := s11.trans s12
          have eg : os.getD m (0, []) = os[m] := by rw [List.getD_eq_getElem?_getD, ho]; rfl
          refine ⟨T1, _, rfl, SqT.of upd_same, rfl, _, _, rfl, _, _, rfl, rfl, rfl, ?_⟩
          refine ⟨_, rfl, ab, _, _, .int (s : Nat), rfl, rfl, seqT (core_le.trans s112) bk10.q, atI_nat (j := 0) rfl, _, rfl, _, rfl, y2, wd, s, (os[m]).1, (os[m]).2, rfl, hov.same (core_le.trans s112), g1, g2, fun H13 s13 => ⟨_, rfl, ?_⟩⟩
          have eD13 := (s12.trans s13) _ _ eD
          have lf := List.length_filter_le (fun i => letL s ((os.getD i (0, [])).1) ((os.getD i (0, [])).2) (decide (V.str wd = V.str "exact"))) (List.range m)
          rw [List.length_range] at lf
          by_cases hb' : letL s (os[m]).1 (os[m]).2 (decide (V.str wd = V.str "exact")) = true
          · refine go_t hb' ?_
            refine ⟨_, rfl, _, eD13, by rw [List.length_map, sizeLine_eq]; omega, same_of (s112.trans s13) hD, ?_⟩
            rw [upd_same, range_fil, if_pos (by rw [eg]; exact hb'), List.map_append]
            rfl
          · refine go_f (by simpa using hb') ?_
            refine ⟨s112.trans s13, ?_⟩
            rw [range_fil, if_neg (by rw [eg]; exact hb'), List.append_nil]
            exact eD13
        · rintro H11 ⟨s11, eD⟩
          have bk11 := bk10.keep (Keep.of s11)
          rw [lvs, ← letN_eq go] at eD
          refine ⟨_, rfl, _, rfl, .ref ab, .str wd, s, os, .str wd, rfl, bk11.dp, .str _, s25.1, s25.2, by omega, ops, .inr ⟨wd, rfl, hwd, fun H12 v s12 d12 => ?_⟩⟩
          refine ⟨_, rfl, .inl ⟨D, _, rfl, SqL.of (s12 _ _ eD), fun q hq => ?_⟩⟩
          have s13 := same_new (o := .tup ((letN s os (decide (V.str wd = V.str "exact"))).map fun n : Nat => V.int n)) hq
          refine ⟨.tuple ((letN s os (decide (V.str wd = V.str "exact"))).map nD), .tuple ((letN s os (decide (V.str wd = V.str "exact"))).map nD), dp_same s13 d12, .tup (SqT.of upd_same) (dpAll_mkn _), shaped_t _, shaped_t _, _, rfl, ?_⟩
          refine go_f (by rw [eqv_self (shaped_t _)]; rfl) ?_
          exact ⟨_, _, _, _, rfl, s10.trans (s11.trans (s12.trans s13))⟩
      rintro σ H11 ⟨u1, u3, u4, u5, rfl, s11⟩
      have bk11 := bkw.keep (Keep.of s11)
      have k611 := kw.trans (Keep.of s11)
      have b11 := bw.same s11
      have hT11 := hTw.ext s11
      clear bkw kw bw hTw s11 ew
      have okI : PyData.strOk "index" = true := by decide +kernel
      have okW : PyData.strOk "word" = true := by decide +kernel
      refine ⟨[], tf_nil hT11, (fun x h => nomatch h), fun f1 c1 H12 x12 T12 nf1 nc1 ef1 ec1 => ?_⟩
      have b12 := b11.ext x12
      have k12 : Keep p H11 H12 := Keep.ext x12
      refine ⟨_, rfl, (by show 2 ≤ sizeLine; decide), fun t1 ht1 => ⟨(by show 2 ≤ sizeLine; decide), fun w1 hw1 => ⟨(by show 1 ≤ sizeLine; decide), fun Wl hWl => ?_⟩⟩⟩
      have s12 : Same H12 (upd (upd (upd H12 t1 (.tup [.str "index", .int (-1)])) w1 (.tup [.ref f1, .ref t1])) Wl (.lst [.ref w1])) := (same_new ht1).trans ((same_new hw1).trans (same_new hWl))
      have S1 : Stored qLaw (upd (upd (upd H12 t1 (.tup [.str "index", .int (-1)])) w1 (.tup [.ref f1, .ref t1])) Wl (.lst [.ref w1])) w1 f1 c1 t1 [.str "index", .int (-1)] _ _ _ _ := ⟨same_new hWl _ _ upd_same, same_new hWl _ _ (same_new hw1 _ _ upd_same), s12 _ _ ef1, s12 _ _ ec1⟩
      have nW : ∀ u, H11 Wl = some u → (∀ ps, u ≠ .tbl ps) → False := none_ext x12 (none_same ((same_new ht1).trans (same_new hw1)) hWl)
      have nWp : Wl ≠ p := (b12.same ((same_new ht1).trans (same_new hw1))).fresh hWl
      have bE1 := b12.same s12
      have kE1 := k12.trans (Keep.of (p := p) s12)
      have tf1 := tf_same T12 s12
      have eW1 : (upd (upd (upd H12 t1 (.tup [.str "index", .int (-1)])) w1 (.tup [.ref f1, .ref t1])) Wl (.lst [.ref w1])) Wl = some (.lst [.ref w1]) := upd_same
      generalize (upd (upd (upd H12 t1 (.tup [.str "index", .int (-1)])) w1 (.tup [.ref f1, .ref t1])) Wl (.lst [.ref w1])) = E1 at S1 bE1 kE1 tf1 eW1
      have nn1 : ∀ x ∈ [f1], E1 x ≠ none := by
        intro x hx
        rw [List.mem_singleton.mp hx, S1.f]
        exact fun z => nomatch z
      refine ⟨_, rfl, .inl ⟨rfl, _, SqL.of eW1⟩, [f1], tf1, nn1, fun f2 c2 G2 x2 tg2 nf2 nc2 ef2 ec2 => ?_⟩
      refine ⟨(by show 2 ≤ sizeLine; decide), fun t2 ht2 => ⟨(by show 2 ≤ sizeLine; decide), fun w2 hw2 => ?_⟩⟩
      have sg2 := (same_new (o := .tup [.str "size", .str "word"]) ht2).trans (same_new (o := .tup [.ref f2, .ref t2]) hw2)
      have eg2 := sg2 _ _ (x2 _ _ eW1 fun _ z => nomatch z)
      have nl2 : NL E1 (upd (upd (upd G2 t2 (.tup [.str "size", .str "word"])) w2 (.tup [.ref f2, .ref t2])) Wl (.lst ([.ref w1] ++ [.ref w2]))) := (NL.ext x2).trans ((NL.of sg2).trans (NL.put eg2))
      have nn : (upd (upd (upd G2 t2 (.tup [.str "size", .str "word"])) w2 (.tup [.ref f2, .ref t2])) Wl (.lst ([.ref w1] ++ [.ref w2]))) Wl = some (.lst [.ref w1, .ref w2]) := upd_same
      have ng2 : NL G2 (upd (upd (upd G2 t2 (.tup [.str "size", .str "word"])) w2 (.tup [.ref f2, .ref t2])) Wl (.lst ([.ref w1] ++ [.ref w2]))) := (NL.of sg2).trans (NL.put eg2)
      have S2 : Stored qLaw (upd (upd (upd G2 t2 (.tup [.str "size", .str "word"])) w2 (.tup [.ref f2, .ref t2])) Wl (.lst ([.ref w1] ++ [.ref w2]))) w2 f2 c2 t2 [.str "size", .str "word"] _ _ _ _ :=
        ⟨NL.put eg2 _ _ upd_same (fun _ z => nomatch z) (fun _ z => nomatch z), NL.put eg2 _ _ (same_new hw2 _ _ upd_same) (fun _ z => nomatch z) (fun _ z => nomatch z), ng2 _ _ ef2 lamO_lst lamO_tbl, ng2 _ _ ec2 codeO_lst codeO_ne⟩
      have bE2 : Box (upd (upd (upd G2 t2 (.tup [.str "size", .str "word"])) w2 (.tup [.ref f2, .ref t2])) Wl (.lst ([.ref w1] ++ [.ref w2]))) p := ((bE1.ext x2).same sg2).ne nWp
      have kE2 : Keep p H11 (upd (upd (upd G2 t2 (.tup [.str "size", .str "word"])) w2 (.tup [.ref f2, .ref t2])) Wl (.lst ([.ref w1] ++ [.ref w2]))) := ((kE1.trans (Keep.ext x2)).trans (Keep.of sg2)).put nW
      have tf2 : Tabs T (forg [f2, f1] (upd (upd (upd G2 t2 (.tup [.str "size", .str "word"])) w2 (.tup [.ref f2, .ref t2])) Wl (.lst ([.ref w1] ++ [.ref w2])))) := tf_put (tf_same tg2 sg2) eg2
      have df2_1 : f1 ≠ f2 := ne_of_none S1.f nf2
      have dc2_1 : c1 ≠ f2 := ne_of_none S1.c nf2
      have S1 := S1.nl nl2
      refine ⟨Wl, _, _, rfl, rfl, eg2, (by show 1 < sizeLine; rw [sizeLine_eq]; decide), ?_⟩
      generalize (upd (upd (upd G2 t2 (.tup [.str "size", .str "word"])) w2 (.tup [.ref f2, .ref t2])) Wl (.lst ([.ref w1] ++ [.ref w2]))) = E2 at nn S1 S2 bE2 kE2 tf2
      have eW2 := nn
      clear nn
      have nn2 : ∀ x ∈ [f2, f1], E2 x ≠ none := by
        intro x hx
        simp only [List.mem_cons, List.not_mem_nil, or_false] at hx
        rcases hx with rfl | rfl
        · rw [S2.f]; exact fun z => nomatch z
        · rw [S1.f]; exact fun z => nomatch z
      refine ⟨_, rfl, .inl ⟨rfl, _, SqL.of eW2⟩, [f2, f1], tf2, nn2, fun f3 c3 G3 x3 tg3 nf3 nc3 ef3 ec3 => ?_⟩
      refine ⟨_, rfl, (by show 2 ≤ sizeLine; decide), fun t3 ht3 => ⟨(by show 2 ≤ sizeLine; decide), fun w3 hw3 => ?_⟩⟩
      have sg3 := (same_new (o := .tup [.str "book", .int (-1)]) ht3).trans (same_new (o := .tup [.ref f3, .ref t3]) hw3)
      have eg3 := sg3 _ _ (x3 _ _ eW2 fun _ z => nomatch z)
      have nl3 : NL E2 (upd (upd (upd G3 t3 (.tup [.str "book", .int (-1)])) w3 (.tup [.ref f3, .ref t3])) Wl (.lst ([.ref w1, .ref w2] ++ [.ref w3]))) := (NL.ext x3).trans ((NL.of sg3).trans (NL.put eg3))
      have nn : (upd (upd (upd G3 t3 (.tup [.str "book", .int (-1)])) w3 (.tup [.ref f3, .ref t3])) Wl (.lst ([.ref w1, .ref w2] ++ [.ref w3]))) Wl = some (.lst [.ref w1, .ref w2, .ref w3]) := upd_same
      have ng3 : NL G3 (upd (upd (upd G3 t3 (.tup [.str "book", .int (-1)])) w3 (.tup [.ref f3, .ref t3])) Wl (.lst ([.ref w1, .ref w2] ++ [.ref w3]))) := (NL.of sg3).trans (NL.put eg3)
      have S3 : Stored qLaw (upd (upd (upd G3 t3 (.tup [.str "book", .int (-1)])) w3 (.tup [.ref f3, .ref t3])) Wl (.lst ([.ref w1, .ref w2] ++ [.ref w3]))) w3 f3 c3 t3 [.str "book", .int (-1)] _ _ _ _ :=
        ⟨NL.put eg3 _ _ upd_same (fun _ z => nomatch z) (fun _ z => nomatch z), NL.put eg3 _ _ (same_new hw3 _ _ upd_same) (fun _ z => nomatch z) (fun _ z => nomatch z), ng3 _ _ ef3 lamO_lst lamO_tbl, ng3 _ _ ec3 codeO_lst codeO_ne⟩
      have bE3 : Box (upd (upd (upd G3 t3 (.tup [.str "book", .int (-1)])) w3 (.tup [.ref f3, .ref t3])) Wl (.lst ([.ref w1, .ref w2] ++ [.ref w3]))) p := ((bE2.ext x3).same sg3).ne nWp
      have kE3 : Keep p H11 (upd (upd (upd G3 t3 (.tup [.str "book", .int (-1)])) w3 (.tup [.ref f3, .ref t3])) Wl (.lst ([.ref w1, .ref w2] ++ [.ref w3]))) := ((kE2.trans (Keep.ext x3)).trans (Keep.of sg3)).put nW
      have tf3 : Tabs T (forg [f3, f2, f1] (upd (upd (upd G3 t3 (.tup [.str "book", .int (-1)])) w3 (.tup [.ref f3, .ref t3])) Wl (.lst ([.ref w1, .ref w2] ++ [.ref w3])))) := tf_put (tf_same tg3 sg3) eg3
      have df3_1 : f1 ≠ f3 := ne_of_none S1.f nf3
      have dc3_1 : c1 ≠ f3 := ne_of_none S1.c nf3
      have df3_2 : f2 ≠ f3 := ne_of_none S2.f nf3
      have dc3_2 : c2 ≠ f3 := ne_of_none S2.c nf3
      have S1 := S1.nl nl3
      have S2 := S2.nl nl3
      refine ⟨Wl, _, _, rfl, rfl, eg3, (by show 2 < sizeLine; rw [sizeLine_eq]; decide), ?_⟩
      generalize (upd (upd (upd G3 t3 (.tup [.str "book", .int (-1)])) w3 (.tup [.ref f3, .ref t3])) Wl (.lst ([.ref w1, .ref w2] ++ [.ref w3]))) = E3 at nn S1 S2 S3 bE3 kE3 tf3
      have eW3 := nn
      clear nn nn1 nn2 eW1 eW2 tf1 tf2 bE1 bE2 kE1 kE2
      refine ⟨_, rfl, Wl, rfl, ⟨_, SqL.of eW3⟩, fun D hD sb pb Ib => walk_it walk_list (fun i H' => PvB T [f3, f2, f1] p Wl D [.ref w1, .ref w2, .ref w3] H11 H' ∧ (i ≤ 0 → Stored qLaw H' w1 f1 c1 t1 [.str "index", .int (-1)] _ _ _ _) ∧ (i ≤ 1 → Stored qLaw H' w2 f2 c2 t2 [.str "size", .str "word"] _ _ _ _) ∧ (i ≤ 2 → Stored qLaw H' w3 f3 c3 t3 [.str "book", .int (-1)] _ _ _ _))
        ⟨⟨kE3.trans (Keep.of (same_new hD)), bE3.same (same_new hD), tf_same tf3 (same_new hD), same_new hD _ _ eW3, upd_same⟩, fun _ => S1.nl (NL.of (same_new hD)), fun _ => S2.nl (NL.of (same_new hD)), fun _ => S3.nl (NL.of (same_new hD))⟩ (fun i H' _ q => SqL.of q.1.w) ?_ ?_⟩
      · rintro i x _ Hc hi ⟨pB, p1, p2, p3⟩ ⟨rfl, hx⟩
        have nDp : D ≠ p := bE3.fresh hD
        have hi3 : i < 3 := hi
        have told : ∀ {g t' : Addr} {φ : Heap → Prop} {ts : List V} {H7 H8 : Hp}, Hc g = some (.ext φ) → Hc t' = some (.tup ts) → Box (offA Hc g) p → But p (offA Hc g) H7 → Same H7 H8 → H8 t' = some (.tup ts) := fun {g t' φ ts H7 H8} e et b s1 s2 => by
          obtain ⟨a1, a2, a3, ep⟩ := b
          have e1 : offA Hc g t' = some (.tup ts) := by
            rw [offA_of fun z => by rw [z, e] at et; cases et]
            exact et
          exact s2 _ _ (s1 _ _ e1 fun z => by rw [z, ep] at e1; cases e1)
        have boxo : ∀ {g : Addr} {φ : Heap → Prop}, Hc g = some (.ext φ) → Box (offA Hc g) p := fun {g φ} e => by
          obtain ⟨a1, a2, a3, ep⟩ := pB.b
          exact ⟨a1, a2, a3, by rw [offA_of fun z => by rw [z, e] at ep; cases ep]; exact ep⟩
        obtain rfl | rfl | rfl : i = 0 ∨ i = 1 ∨ i = 2 := by omega
        · obtain rfl : V.ref w1 = x := Option.some.inj hx
          have S := p1 (by omega)
          refine ⟨w1, _, rfl, SqT.of S.w, rfl, _, _, rfl, _, _, rfl, rfl, rfl, ?_⟩
          refine ⟨_, f1, c1, _, _, _, (fun E => tCallS (spAt K cB cV) (WE fun cls d _ H' => E cls d H') (tCons (tVar 7) (tCons (tCB (fun xs H Q => ∃ p ys, xs = [V.ref p] ∧ (SqL K H p ys ∨ SqT K H p ys) ∧ Q (V.int ys.length) H) (tCons (tOp (rIxT K) (tVar 7) (tC (.int 1))) tNil)) tNil))), noPins Ib, ⟨lamS_by (sc := defScope sLaw) (by decide +kernel), fun _ _ _ _ _ => rfl,
            fun A outer s H E f c' hr2 => by exact pe_callS G.gLooks (hr2.mono (by decide)) (by rfl) G.looks.g G.looks.F.kp G.looks.b (fun σ => passAt (takes_of rfl rfl rfl rfl) σ) (by exact (pa_cons (pv 7) (pa_cons (pe_callB call_len_seq (by rfl) Z.len PySem.boot_len (pa_cons (pe_ix ix_tup (pv 7) pe_int (fun _ _ => rfl)) pa_nil)) pa_nil)))⟩, rfl, S.f, S.c, (fun z => nc1 (by rw [z]; exact List.mem_cons_self ..)), ?_⟩
          have kc : Keep p H11 (offA Hc f1) := pB.k.trans (Keep.offA S.f)
          have bo := boxo S.f
          have bkc := bk11.keep kc
          refine ⟨_, rfl, _, rfl, ab, _, _, .ref ab2, rfl, rfl, seqT core_le bkc.q, atI_nat (j := 1) rfl, ab2, vs, rfl, .inr (seqT core_le bkc.q2), .ref ab, .int (vs.length : Nat), bookD s os, nD vs.length, rfl, bkc.dp, .int _, .inr ⟨s, os, rfl, s25.1, s25.2, by omega, ops, .inl ⟨by rw [isB_nat, lvs]; exact decide_eq_false (Nat.lt_irrefl _), ?_⟩⟩⟩
          intro H7 dd HS hdd
          refine .inr (.inl ⟨rfl, dd, _, rfl, upd_same, fun t ht => ?_⟩)
          have HB : But p (offA Hc f1) (offA Hc f1) := But.refl p _
          refine ⟨_, rfl, _, _, .tup (SqT.of upd_same) (.cons (.str _) (.cons (.int _) .nil)), .tup (SqT.of (told S.f S.t (boxo S.f) HB ((HS.trans (same_new (o := .xd [("at", .int (-1))]) hdd)).trans (same_new (o := .tup [.str "index", .int (-1)]) ht)))) (.cons (.str _) (.cons (.int _) .nil)), shaped_si _ okI, shaped_si _ okI, _, rfl, ?_⟩
          rw [told_eq _ okI]
          refine go_f rfl ?_
          have HB2 := HB.trans (But.of (p := p) ((HS.trans (same_new (o := .xd [("at", .int (-1))]) hdd)).trans (same_new (o := .tup [.str "index", .int (-1)]) ht)))
          have bF := (bo.same HS).same ((same_new (o := .xd [("at", .int (-1))]) hdd).trans (same_new (o := .tup [.str "index", .int (-1)]) ht))
          exact ⟨pB.step S.f (by simp) HB2 bF nWp nDp, (fun h => by omega), (fun _ => (p2 (by omega)).step pB.b S.f (Ne.symm df2_1) (fun z => nc2 (by rw [z]; simp)) HB2), (fun _ => (p3 (by omega)).step pB.b S.f (Ne.symm df3_1) (fun z => nc3 (by rw [z]; simp)) HB2)⟩
        · obtain rfl : V.ref w2 = x := Option.some.inj hx
          have S := p2 (by omega)
          refine ⟨w2, _, rfl, SqT.of S.w, rfl, _, _, rfl, _, _, rfl, rfl, rfl, ?_⟩
          refine ⟨_, f2, c2, _, _, _, (fun E => tCallS (spPart K cS) (WE fun cls d _ H' => E cls d H') (tCons (tVar 7) (tCons (tCall (spPick K) [] E0 (tCons (tVar 8) (tCons (tLst (tCons (tC .non) (tCons (tC (.str "both")) (tCons (tC (.int 1)) tNil)))) tNil))) tNil))), noPins Ib, ⟨lamS_by (sc := defScope sLaw) (by decide +kernel), fun _ _ _ _ _ => rfl,
            fun A outer s H E f c' hr2 => by exact pe_callS G.gPart (hr2.mono (by decide)) (by rfl) G.part.g G.part.F.kp G.part.b (fun σ => passAt (takes_of rfl rfl rfl rfl) σ) (by exact (pa_cons (pv 7) (pa_cons (pe_call G.gPick (hr2.mono (by decide)) (by rfl) G.pick.g G.pick.F.kp G.pick.b .nil pass0 (by exact (pa_cons (pv 8) (pa_cons (pe_lst (by exact (pa_cons pe_non (pa_cons pe_str (pa_cons pe_int pa_nil))))) pa_nil)))) pa_nil)))⟩, rfl, S.f, S.c, (fun z => nc2 (by rw [z]; exact List.mem_cons_self ..)), ?_⟩
          have kc : Keep p H11 (offA Hc f2) := pB.k.trans (Keep.offA S.f)
          have bo := boxo S.f
          refine ⟨_, rfl, _, rfl, (by show 3 ≤ sizeLine; decide), fun lc hlc => ?_⟩
          refine ⟨p, lc, _, rfl, bo.fresh hlc, bo.same (same_new hlc), upd_same, by show 0 < 3; decide, by show 3 < 1000; decide, fun H6' v bt8 bX hv => ?_⟩
          have HB : But p (offA Hc f2) H6' := (But.of (same_new hlc)).trans bt8
          have bkx := (bk11.keep kc).keep (Keep.but HB)
          have dvx : ∃ dh, Dp K H6' v dh ∧ dh ≠ .str "exact" ∧ dh ≠ .str "finds" := by
            simp only [List.mem_cons, List.not_mem_nil, or_false] at hv
            rcases hv with rfl | rfl | rfl
            · exact ⟨.none, .non, (fun z => nomatch z), fun z => nomatch z⟩
            · refine ⟨.str "both", .str "both", (fun z => ?_), fun z => ?_⟩
              · injection z with z
                exact absurd z (by decide)
              · injection z with z
                exact absurd z (by decide)
            · exact ⟨.int 1, .int 1, (fun z => nomatch z), fun z => nomatch z⟩
          obtain ⟨dh, dv, ne1, ne2⟩ := dvx
          refine ⟨.ref ab, v, s, os, dh, rfl, bkx.dp, dv, s25.1, s25.2, by omega, ops, .inl ⟨ne1, ne2, ?_⟩⟩
          intro H7 dd HS hdd
          refine .inr (.inr ⟨rfl, dd, _, rfl, upd_same, fun t ht => ?_⟩)
          refine ⟨_, rfl, _, _, .tup (SqT.of upd_same) (.cons (.str _) (.cons (.str _) .nil)), .tup (SqT.of (told S.f S.t (boxo S.f) HB ((HS.trans (same_new (o := .xd [("word", .str "word")]) hdd)).trans (same_new (o := .tup [.str "size", .str "word"]) ht)))) (.cons (.str _) (.cons (.str _) .nil)), shaped_ss okS2 okW, shaped_ss okS2 okW, _, rfl, ?_⟩
          rw [told_eqs okS2 okW]
          refine go_f rfl ?_
          have HB2 := HB.trans (But.of (p := p) ((HS.trans (same_new (o := .xd [("word", .str "word")]) hdd)).trans (same_new (o := .tup [.str "size", .str "word"]) ht)))
          have bF := (bX.same HS).same ((same_new (o := .xd [("word", .str "word")]) hdd).trans (same_new (o := .tup [.str "size", .str "word"]) ht))
          exact ⟨pB.step S.f (by simp) HB2 bF nWp nDp, (fun h => by omega), (fun h => by omega), (fun _ => (p3 (by omega)).step pB.b S.f (Ne.symm df3_2) (fun z => nc3 (by rw [z]; simp)) HB2)⟩
        · obtain rfl : V.ref w3 = x := Option.some.inj hx
          have S := p3 (by omega)
          refine ⟨w3, _, rfl, SqT.of S.w, rfl, _, _, rfl, _, _, rfl, rfl, rfl, ?_⟩
          refine ⟨_, f3, c3, _, _, _, (fun E => tCallS (spAt K cB cV) (WE fun cls d _ H' => E cls d H') (tCons (tTup (tCons (tC (.int 1)) (tCons (tTup tNil) tNil))) (tCons (tC .non) tNil))), noPins Ib, ⟨lamS_by (sc := defScope sLaw) (by decide +kernel), fun _ _ _ _ _ => rfl,
            fun A outer s H E f c' hr2 => by exact pe_callS G.gLooks (hr2.mono (by decide)) (by rfl) G.looks.g G.looks.F.kp G.looks.b (fun σ => passAt (takes_of rfl rfl rfl rfl) σ) (by exact (pa_cons (pe_tup (by exact (pa_cons pe_int (pa_cons (pe_tup pa_nil) pa_nil)))) (pa_cons pe_non pa_nil)))⟩, rfl, S.f, S.c, (fun z => nc3 (by rw [z]; exact List.mem_cons_self ..)), ?_⟩
          have kc : Keep p H11 (offA Hc f3) := pB.k.trans (Keep.offA S.f)
          have bo := boxo S.f
          refine ⟨(by show 0 ≤ sizeLine; decide), fun e1 he1 => ⟨(by show 2 ≤ sizeLine; decide), fun e2 he2 => ?_⟩⟩
          have sA := (same_new (o := .tup []) he1).trans (same_new (o := .tup [V.int 1, V.ref e1]) he2)
          have HB : But p (offA Hc f3) _ := But.of sA
          have bX := bo.same sA
          refine ⟨.ref e2, .non, .tuple [.int 1, .tuple []], .none, rfl, .tup (SqT.of upd_same) (.cons (.int _) (.cons (.tup (SqT.of (same_new he2 _ _ upd_same)) .nil) .nil)), .non, .inl ⟨rfl, ?_⟩⟩
          intro H7 dd HS hdd
          refine .inl ⟨rfl, dd, _, rfl, upd_same, fun t ht => ?_⟩
          refine ⟨_, rfl, _, _, .tup (SqT.of upd_same) (.cons (.str _) (.cons (.int _) .nil)), .tup (SqT.of (told S.f S.t (boxo S.f) HB ((HS.trans (same_new (o := .xd [("at", .int (-1))]) hdd)).trans (same_new (o := .tup [.str "book", .int (-1)]) ht)))) (.cons (.str _) (.cons (.int _) .nil)), shaped_si _ okS4, shaped_si _ okS4, _, rfl, ?_⟩
          rw [told_eq _ okS4]
          refine go_f rfl ?_
          have HB2 := HB.trans (But.of (p := p) ((HS.trans (same_new (o := .xd [("at", .int (-1))]) hdd)).trans (same_new (o := .tup [.str "book", .int (-1)]) ht)))
          have bF := (bX.same HS).same ((same_new (o := .xd [("at", .int (-1))]) hdd).trans (same_new (o := .tup [.str "book", .int (-1)]) ht))
          exact ⟨pB.step S.f (by simp) HB2 bF nWp nDp, (fun h => by omega), (fun h => by omega), (fun h => by omega)⟩
      · rintro Hc ⟨pB, _⟩
        refine ⟨(by show 0 ≤ sizeLine; decide), fun L2 hL2 => ⟨.list [], .list [], .lst (SqL.of (same_new hL2 _ _ pB.d)) .nil, .lst (SqL.of upd_same) .nil, rfl, rfl, _, rfl, ?_⟩⟩
        refine go_f rfl ?_
        have kz := (k611.trans pB.k).trans (Keep.of (p := p) (same_new (o := .lst []) hL2))
        exact ⟨_, _, _, _, _, _, _, _, rfl, sqL_keep hS6 np kz, (tf_out pB.t).ext (same_new (o := .lst []) hL2)⟩
    · rintro σ H6 ⟨u1, u2, u3, u4, u5, u6, u7, u8, rfl, _, _⟩
      exact k H6
end
end K46
namespace K46
open PySem PySem.W L2 FX
section
variable {K : Frag} {h : Heap} {mg : Str → Option Value}
theorem base_mk {b : Str} {B N : Addr} {q : Str} {bs : List Value} {sn : List Str} {sub : List Value} {ab : Bool} {col : Option Bool} {dd : Option Addr} {k0 k1 k2 k3 k5 : Option Value} (X : K.In h) (G : h.Ns mainGlobals mg)
    (a : nsIn K mainGlobals b = some (some (.ref B))) (l : K.lookup B = some (excClassObj b q B N bs tl true sn sub ab col dd k0 k1 k2 k3 k5 "Exception.__new__")) : BaseTxt K mg b B := ⟨mg_of X G a, _, _, _, _, _, _, _, _, _, _, _, _, _, l⟩
theorem err_mk {x : Str} {B C N : Addr} {q : Str} {bs : List Value} {sn : List Str} {sub : List Value} {ab : Bool} {col : Option Bool} {dd : Option Addr} {k0 k1 k2 k3 k5 : Option Value} (X : K.In h) (G : h.Ns mainGlobals mg)
    (a : nsIn K mainGlobals x = some (some (.ref C))) (l : K.lookup C = some (excClassObj x q C N bs (.ref B :: tl) true sn sub ab col dd k0 k1 k2 k3 k5 "Exception.__new__")) (c : keepIn K (.ref C) = true) : ErrTxt K mg B x C :=
  ⟨mg_of X G a, ⟨_, _, _, _, _, _, _, _, _, _, _, _, _, l⟩, c⟩
theorem init_mk {qn f : Str} {C i : Addr} {oc : Value} {od : Option Addr} {doc pm : Value} {an : Option Addr} {cdv ct : Value} {osl : Array (Option Value)} {p1 p2 q1 q2 q3 q4 : Pos} (ff : f = "at" ∨ f = "word")
    (iC : findIn K (.ref C) "__init__" = some (some (.ref i))) (sa : findIn K (.ref C) "__setattr__" = some (some (.builtin "object.__setattr__"))) (ga : findIn K (.ref C) "__getattribute__" = some (some (.builtin "BaseException.__getattribute__")))
    (gg : findIn K (.ref C) "__getattr__" = some none) (nf : findIn K (.ref C) f = some none) (tI : typeIn K (.ref i) = some (.type "function"))
    (fn : K.lookup i = some ⟨oc, od, .func (fnOf "__init__" qn (inA f p1 p2) (inB f q1 q2 q3 q4) (inS f) .none .none doc pm an cdv ct), osl⟩) (cd : codeIn K cdv qn = true) : InitTxt K qn f C i :=
  ⟨sa, ga, gg, nf, iC, tI, ⟨_, _, _, _, _, _, _, _, _, _, _, _, _, _, fn, cd⟩, ff⟩
theorem at_mk {x : Str} {st : Stmt} {f : Addr} {ps : List Str} {oc : Value} {od : Option Addr} {kV doc pm : Value} {an : Option Addr} {cdv ct : Value} {osl : Array (Option Value)} (X : K.In h) (G : h.Ns mainGlobals mg)
    (hb : ∀ (kV doc pm : Value) (an : Option Addr) (cdv ct : Value) (us : List Value), us.length = ps.length → bindArgs (fnOf x x (defArgs st) (defBody st) (defScope st) .none kV doc pm an cdv ct) ⟨us, []⟩ = pure (ps.zip us))
    (a : nsIn K mainGlobals x = some (some (.ref f))) (l : K.lookup f = some ⟨oc, od, .func (fnOf x x (defArgs st) (defBody st) (defScope st) .none kV doc pm an cdv ct), osl⟩) (c : codeIn K cdv x = true) (k : keepIn K (.ref f) = true) :
    At K mg x st f (fnOf x x (defArgs st) (defBody st) (defScope st) .none kV doc pm an cdv ct) ps := ⟨fun_mk l c k, mg_of X G a, (fun_mk (st := st) l c k).binds hb⟩
/-- a def that makes lambdas: its code object and the table of these -/
structure AtC (K : Frag) (h : Heap) (mg : Str → Option Value) (x : Str) (st : Stmt) (f c P : Addr) (fd : FuncData) (ps : List Str) : Prop where
  F : FunC K x st f c fd
  g : mg x = some (.ref f)
  b : Binds K fd ps []
  C : CodeHd h c P
  n : K.lookup P = none
  z : h.get? P = some { cls := .none, data := .fields #[] }
theorem atC_mk {x : Str} {st : Stmt} {f c P : Addr} {ps : List Str} {oc : Value} {od : Option Addr} {kV doc pm : Value} {an : Option Addr} {ct cl : Value} {osl sl : Array (Option Value)} {dd : Option Addr} {vs : Array Value} (X : K.In h) (G : h.Ns mainGlobals mg)
    (hb : ∀ (kV doc pm : Value) (an : Option Addr) (cdv ct : Value) (us : List Value), us.length = ps.length → bindArgs (fnOf x x (defArgs st) (defBody st) (defScope st) .none kV doc pm an cdv ct) ⟨us, []⟩ = pure (ps.zip us))
    (a : nsIn K mainGlobals x = some (some (.ref f))) (l : K.lookup f = some ⟨oc, od, .func (fnOf x x (defArgs st) (defBody st) (defScope st) .none kV doc pm an (.ref c) ct), osl⟩) (cd : codeIn K (.ref c) x = true) (k : keepIn K (.ref f) = true)
    (lc : K.lookup c = some ⟨cl, dd, .fields vs, sl⟩) (v : vs[11]? = some (.ref P)) (e : codeHdIn K c P = true) (n : K.lookup P = none) (z : h.get? P = some { cls := .none, data := .fields #[] }) :
    AtC K h mg x st f c P (fnOf x x (defArgs st) (defBody st) (defScope st) .none kV doc pm an (.ref c) ct) ps := ⟨⟨⟨_, _, _, _, _, _, _, _, rfl, l, cd⟩, k⟩, mg_of X G a, (fun_mk (st := st) l cd k).binds hb, codeHd_of_K X e, n, z⟩
theorem tabS_0 {H : Hp} {P : Addr} {q : Str} (e : H P = some (.tbl #[])) : LamX.TabS H P q := ⟨#[], e, trivial, fun pos cv h => nomatch h⟩
end
set_option maxHeartbeats 4000000 in
theorem all_mk {l : OpenLaw} {w : World} {K : Frag} {h : Heap} {mg : Str → Option Value} {fa B cB cO cV cS iB iO iV iS f0 f1 f2 f3 f4 f5 f6 f7 f8 f9 f10 f11 f12 f13 f14 f15 f16 f17 f18 f19 f20 f21 f22 f23 f24 f25 f26 f27 f28 f29 f30 f31 f32 g0 k0 t0 : Addr} {d0 d1 d2 d3 d4 d5 d6 d7 d8 d9 d10 d11 d12 d13 d14 d15 d16 d17 d18 d19 d20 d21 d22 d23 d24 d25 d26 d27 d28 d29 d30 d31 d32 : FuncData} {kV doc pm ct : Value} {an : Option Addr} (X : K.In h) (G : h.Ns mainGlobals mg) (hfa : mg "law" = some (.ref fa))
    (S : BaseTxt K mg "FoldError" B)
    (EB : ErrTxt K mg B "InvalidBook" cB)
    (UB : InitTxt K "InvalidBook.__init__" "at" cB iB)
    (EO : ErrTxt K mg B "InvalidOperation" cO)
    (UO : InitTxt K "InvalidOperation.__init__" "at" cO iO)
    (EV : ErrTxt K mg B "InvalidIndex" cV)
    (UV : InitTxt K "InvalidIndex.__init__" "at" cV iV)
    (ES : ErrTxt K mg B "InvalidSize" cS)
    (US : InitTxt K "InvalidSize.__init__" "word" cS iS)
    (D0 : At K mg "is_integer" sInteger f0 d0 ["value"])
    (D1 : At K mg "is_number" sNumber f1 d1 ["value"])
    (D2 : At K mg "is_below" sBelow f2 d2 ["many", "value"])
    (D3 : At K mg "is_between" sBetween f3 d3 ["least", "most", "value"])
    (D4 : At K mg "is_sequence" sSequence f4 d4 ["value"])
    (D5 : At K mg "is_row_of" sRowOf f5 d5 ["many", "value"])
    (D6 : At K mg "power" sPower f6 d6 ["base", "times"])
    (D7 : At K mg "product_of" sProd f7 d7 ["numbers"])
    (D8 : At K mg "all_rows" sRows f8 d8 ["choices"])
    (D9 : At K mg "spot_in" sSpot f9 d9 ["sizes", "row"])
    (D10 : At K mg "held_answers" sHeldA f10 d10 ["answers", "sizes", "held"])
    (D11 : At K mg "hangs_at" sHangsA f11 d11 ["sizes", "answers", "place"])
    (D12 : At K mg "is_size" sSize f12 d12 ["value"])
    (D13 : At K mg "need_size" sNeedSize f13 d13 ["value"])
    (D14 : At K mg "is_table" sTable f14 d14 ["size", "least", "most", "value"])
    (D15 : At K mg "is_operation" sOper f15 d15 ["size", "value"])
    (D16 : At K mg "need_operation" sNeedOp f16 d16 ["size", "value"])
    (D17 : At K mg "need_book" sNeedBook f17 d17 ["value"])
    (D18 : At K mg "hung_in" sHung f18 d18 ["size", "places", "answers"])
    (D19 : At K mg "two_places" sTwo f19 d19 ["size", "operation"])
    (D20 : At K mg "look_of" sLook f20 d20 ["size", "operation"])
    (D21 : At K mg "looks_at" sLooksAt f21 d21 ["book", "operation"])
    (D22 : At K mg "is_let" sIsLet f22 d22 ["size", "word", "operation"])
    (D23 : At K mg "let_part" sLetPart f23 d23 ["book", "word"])
    (D24 : At K mg "_law_box" sBox f24 d24 ["script", "k"])
    (D25 : At K mg "_law_take" sTake f25 d25 ["box", "many"])
    (D26 : At K mg "_law_pick" sPick f26 d26 ["box", "some"])
    (D27 : At K mg "_law_book" sBk f27 d27 ["box"])
    (D28 : At K mg "_law_hangs" sHL f28 d28 ["size", "operation", "held", "place"])
    (D29 : At K mg "_law_places" sPl f29 d29 ["size", "operation"])
    (D30 : At K mg "_law_is_look" sIsLook f30 d30 ["size", "operation", "value"])
    (D31 : At K mg "_law_lets" sLets f31 d31 ["size", "operation", "word"])
    (D32 : At K mg "_law_heard" sErr f32 d32 ["work"])
    (M0 : AtC K h mg "law" sLaw g0 k0 t0 (fnOf "law" "law" (defArgs sLaw) (defBody sLaw) (defScope sLaw) .none kV doc pm an (.ref k0) ct) ["script"])
    (n_int : nsIn K mainGlobals "int" = some none)
    (n_bool : nsIn K mainGlobals "bool" = some none)
    (n_list : nsIn K mainGlobals "list" = some none)
    (n_tuple : nsIn K mainGlobals "tuple" = some none)
    (n_isinstance : nsIn K mainGlobals "isinstance" = some none)
    (n_len : nsIn K mainGlobals "len" = some none)
    (n_range : nsIn K mainGlobals "range" = some none)
    (n_zip : nsIn K mainGlobals "zip" = some none)
    (n_all : nsIn K mainGlobals "all" = some none)
    (n_enumerate : nsIn K mainGlobals "enumerate" = some none)
    (n_abs : nsIn K mainGlobals "abs" = some none)
    (n_max : nsIn K mainGlobals "max" = some none)
    (n_min : nsIn K mainGlobals "min" = some none)
    (n_set : nsIn K mainGlobals "set" = some none)
    (n_repr : nsIn K mainGlobals "repr" = some none)
    (n_str : nsIn K mainGlobals "str" = some none) :
    LamX.LawAtS l w K CX0 14 63 "script" mg fa h := by
  have e := hfa.symm.trans M0.g
  cases e
  have Z : Bi mg := ⟨mg_none_of X G n_int, mg_none_of X G n_bool, mg_none_of X G n_list, mg_none_of X G n_tuple, mg_none_of X G n_isinstance, mg_none_of X G n_len, mg_none_of X G n_range, mg_none_of X G n_zip, mg_none_of X G n_all, mg_none_of X G n_enumerate, mg_none_of X G n_abs, mg_none_of X G n_max, mg_none_of X G n_min, mg_none_of X G n_set, mg_none_of X G n_repr, mg_none_of X G n_str⟩
  have R : Ers K mg B cB iB cO iO cV iV cS iS := ⟨S, ⟨EB, UB⟩, ⟨EO, UO⟩, ⟨EV, UV⟩, ⟨ES, US⟩⟩
  refine ⟨fnOf "law" "law" (defArgs sLaw) (defBody sLaw) (defScope sLaw) .none kV doc pm an (.ref k0) ct, [(k0, t0)], spLaw K [(t0, qLaw)], (List.forall_mem_cons.mpr ⟨M0.z, (fun _ h => nomatch h)⟩), (List.forall_mem_cons.mpr ⟨M0.n, (fun _ h => nomatch h)⟩), (List.forall_mem_cons.mpr ⟨M0.C, (fun _ h => nomatch h)⟩), fun s v => .of_eq rfl, fun H a ns _ _ hH hS => ⟨a, ns, rfl, hS, (List.forall_mem_cons.mpr ⟨tabS_0 (hH _ (List.mem_cons_self ..)), (fun _ h => nomatch h)⟩), fun _ => rfl⟩, fun base _ _ TB => ?_⟩
  · have gInt : FnOk l.prog w K mg base CX0 1 _ _ ["value"] (spB K isI) := ok_integer D0.F Z
    have gNum : FnOk l.prog w K mg base CX0 2 _ _ ["value"] (spB K isN) := ok_number D1.F Z D0
    have gBel : FnOk l.prog w K mg base CX0 3 _ _ ["many", "value"] (spB1 K isB) := ok_below D2.F D1 gNum
    have gBet : FnOk l.prog w K mg base CX0 2 _ _ ["least", "most", "value"] (spB2 K isBt) := ok_between D3.F D0 gInt
    have gSeq : FnOk l.prog w K mg base CX0 1 _ _ ["value"] (spB K isSq) := ok_sequence D4.F Z
    have gRow : FnOk l.prog w K mg base CX0 2 _ _ ["many", "value"] (spB1 K isRow) := ok_rowOf D5.F Z D4 gSeq
    have gSize : FnOk l.prog w K mg base CX0 3 _ _ ["value"] (spB K (isBt 2 8)) := ok_size D12.F D3 gBet
    have gNS : FnOk l.prog w K mg base (L2.CX l.prog w) 4 _ _ ["value"] (spNeedSize K cS) := ok_needSize D13.F R D12 gSize
    have gTab : FnOk l.prog w K mg base CX0 4 _ _ ["size", "least", "most", "value"] (spTable K) := ok_table D14.F Z D5 gRow D6 D3 gBet D2 gBel
    have gOp : FnOk l.prog w K mg base CX0 5 _ _ ["size", "value"] (spOper K) := ok_oper D15.F D14 gTab
    have gNO : FnOk l.prog w K mg base (L2.CX l.prog w) 6 _ _ ["size", "value"] (spNeedOp K cO cS) := ok_needOp D16.F Z R D13 gNS D15 gOp
    have gNB : FnOk l.prog w K mg base (L2.CX l.prog w) 6 _ _ ["value"] (spNeedBook K cB) := ok_book D17.F Z R D5 gRow D12 gSize D4 gSeq D15 gOp
    have gHA : FnOk l.prog w K mg base CX0 2 _ _ ["answers", "sizes", "held"] (spHeldA K) := ok_heldA D10.F Z D9 D8
    have gHg : FnOk l.prog w K mg base CX0 2 _ _ ["sizes", "answers", "place"] (spHangs K) := ok_hangs D11.F Z D7
    have gHu : FnOk l.prog w K mg base CX0 3 _ _ ["size", "places", "answers"] (spHung K) := ok_hung D18.F Z D11 gHg
    have gTw : FnOk l.prog w K mg base CX0 7 _ _ ["size", "operation"] (spTwo K) := ok_two D19.F Z D16 gNO D18 gHu D10 gHA D8
    have gLk : FnOk l.prog w K mg base CX0 8 _ _ ["size", "operation"] (spLook K) := ok_look D20.F Z D18 gHu D10 gHA D19 gTw
    have gAt : FnOk l.prog w K mg base (L2.CX l.prog w) 9 _ _ ["book", "operation"] (spAt K cB cV) := ok_at D21.F Z R D17 gNB D2 gBel D20 gLk
    have gIL : FnOk l.prog w K mg base CX0 9 _ _ ["size", "word", "operation"] (spIsLet K) := ok_isLet D22.F Z D20 gLk
    have gPt : FnOk l.prog w K mg base (L2.CX l.prog w) 10 _ _ ["book", "word"] (spPart K cS) := ok_part D23.F Z R D17 gNB D22 gIL
    have gBox : FnOk l.prog w K mg base CX0 1 _ _ ["script", "k"] (spBox K) := ok_box D24.F Z
    have gTake : FnOk l.prog w K mg base CX0 1 _ _ ["box", "many"] spTake := ok_take D25.F Z
    have gPick : FnOk l.prog w K mg base CX0 2 _ _ ["box", "some"] (spPick K) := ok_pick D26.F Z D25
    have gBk : FnOk l.prog w K mg base CX0 2 _ _ ["box"] (spBk K) := ok_bk D27.F Z D25 gTake
    have gHL : FnOk l.prog w K mg base CX0 1 _ _ ["size", "operation", "held", "place"] (spHL K) := ok_HL D28.F Z
    have gPl : FnOk l.prog w K mg base CX0 2 _ _ ["size", "operation"] (spPl K) := ok_pl D29.F Z D28 gHL
    have gLs : FnOk l.prog w K mg base CX0 3 _ _ ["size", "operation", "word"] (spLets K) := ok_lets D31.F Z D29 gPl
    have gIk : FnOk l.prog w K mg base CX0 3 _ _ ["size", "operation", "value"] (spIsLook K) := ok_isLook D30.F Z D29 gPl D28 gHL
    exact ok_law (T := [(t0, qLaw)]) M0.F Z R (Gs.mk D24 gBox D26 gPick D27 gBk D21 gAt D23 gPt D30 gIk D31 gLs D32) (TB _ (List.mem_cons_self ..)) (List.mem_cons_self ..) (List.forall_mem_cons.mpr ⟨fun _ => rfl, (fun _ h => nomatch h)⟩)
end K46
open PySem PySem.W PyProof.Rows
set_option maxRecDepth 100000 in
set_option maxHeartbeats 0 in
theorem PySem.Challenge.cw_foldsall_k46_whole_one_place_or_two_at_w_holds : PySem.Challenge.rw_foldsall_k46_whole_one_place_or_two_at_w.Holds := by
  w_on; o_law; k_head; (case hw => w_witness2)
  k_fill
  refine LamX.walk_ofTs (l := PySem.Challenge.rw_foldsall_k46_whole_one_place_or_two_at_w) (n := 63) (k := 14) (x := "script") (CX := fun _ => L2.CX0) rfl (by decide) rfl ⟨rfl, by decide, by decide⟩ (fun w h Y => PySem.W.km_in_of Y) ?F fun _ _ _ _ _ z => z
  case F =>
    intro w mg fa h Y KX G hmg
    refine' K46.all_mk KX G hmg ?S ?EB ?UB ?EO ?UO ?EV ?UV ?ES ?US ?D0 ?D1 ?D2 ?D3 ?D4 ?D5 ?D6 ?D7 ?D8 ?D9 ?D10 ?D11 ?D12 ?D13 ?D14 ?D15 ?D16 ?D17 ?D18 ?D19 ?D20 ?D21 ?D22 ?D23 ?D24 ?D25 ?D26 ?D27 ?D28 ?D29 ?D30 ?D31 ?D32 ?M0 ?n_int ?n_bool ?n_list ?n_tuple ?n_isinstance ?n_len ?n_range ?n_zip ?n_all ?n_enumerate ?n_abs ?n_max ?n_min ?n_set ?n_repr ?n_str
    (case S => (refine' K46.base_mk KX G ?a ?l; (case a => k_is); (case l => k_is)))
    (case EB => (refine' K46.err_mk KX G ?a ?l ?c; (case a => k_is); (case l => k_is); (case c => k_is)))
    (case UB => (refine' K46.init_mk (Or.inl rfl) ?a ?b ?c ?d ?e ?f ?g ?h; (case a => k_is); (case b => k_is); (case c => k_is); (case d => k_is); (case e => k_is); (case f => k_is); (case g => k_is); (case h => k_is)))
    (case EO => (refine' K46.err_mk KX G ?a ?l ?c; (case a => k_is); (case l => k_is); (case c => k_is)))
    (case UO => (refine' K46.init_mk (Or.inl rfl) ?a ?b ?c ?d ?e ?f ?g ?h; (case a => k_is); (case b => k_is); (case c => k_is); (case d => k_is); (case e => k_is); (case f => k_is); (case g => k_is); (case h => k_is)))
    (case EV => (refine' K46.err_mk KX G ?a ?l ?c; (case a => k_is); (case l => k_is); (case c => k_is)))
    (case UV => (refine' K46.init_mk (Or.inl rfl) ?a ?b ?c ?d ?e ?f ?g ?h; (case a => k_is); (case b => k_is); (case c => k_is); (case d => k_is); (case e => k_is); (case f => k_is); (case g => k_is); (case h => k_is)))
    (case ES => (refine' K46.err_mk KX G ?a ?l ?c; (case a => k_is); (case l => k_is); (case c => k_is)))
    (case US => (refine' K46.init_mk (Or.inr rfl) ?a ?b ?c ?d ?e ?f ?g ?h; (case a => k_is); (case b => k_is); (case c => k_is); (case d => k_is); (case e => k_is); (case f => k_is); (case g => k_is); (case h => k_is)))
    (case D0 => (refine' K46.at_mk KX G (fun _ _ _ _ _ _ us hl => match us, hl with | [_], _ => rfl) ?a ?l ?c ?k; (case a => k_is); (case l => k_is); (case c => k_is); (case k => k_is)))
    (case D1 => (refine' K46.at_mk KX G (fun _ _ _ _ _ _ us hl => match us, hl with | [_], _ => rfl) ?a ?l ?c ?k; (case a => k_is); (case l => k_is); (case c => k_is); (case k => k_is)))
    (case D2 => (refine' K46.at_mk KX G (fun _ _ _ _ _ _ us hl => match us, hl with | [_, _], _ => rfl) ?a ?l ?c ?k; (case a => k_is); (case l => k_is); (case c => k_is); (case k => k_is)))
    (case D3 => (refine' K46.at_mk KX G (fun _ _ _ _ _ _ us hl => match us, hl with | [_, _, _], _ => rfl) ?a ?l ?c ?k; (case a => k_is); (case l => k_is); (case c => k_is); (case k => k_is)))
    (case D4 => (refine' K46.at_mk KX G (fun _ _ _ _ _ _ us hl => match us, hl with | [_], _ => rfl) ?a ?l ?c ?k; (case a => k_is); (case l => k_is); (case c => k_is); (case k => k_is)))
    (case D5 => (refine' K46.at_mk KX G (fun _ _ _ _ _ _ us hl => match us, hl with | [_, _], _ => rfl) ?a ?l ?c ?k; (case a => k_is); (case l => k_is); (case c => k_is); (case k => k_is)))
    (case D6 => (refine' K46.at_mk KX G (fun _ _ _ _ _ _ us hl => match us, hl with | [_, _], _ => rfl) ?a ?l ?c ?k; (case a => k_is); (case l => k_is); (case c => k_is); (case k => k_is)))
    (case D7 => (refine' K46.at_mk KX G (fun _ _ _ _ _ _ us hl => match us, hl with | [_], _ => rfl) ?a ?l ?c ?k; (case a => k_is); (case l => k_is); (case c => k_is); (case k => k_is)))
    (case D8 => (refine' K46.at_mk KX G (fun _ _ _ _ _ _ us hl => match us, hl with | [_], _ => rfl) ?a ?l ?c ?k; (case a => k_is); (case l => k_is); (case c => k_is); (case k => k_is)))
    (case D9 => (refine' K46.at_mk KX G (fun _ _ _ _ _ _ us hl => match us, hl with | [_, _], _ => rfl) ?a ?l ?c ?k; (case a => k_is); (case l => k_is); (case c => k_is); (case k => k_is)))
    (case D10 => (refine' K46.at_mk KX G (fun _ _ _ _ _ _ us hl => match us, hl with | [_, _, _], _ => rfl) ?a ?l ?c ?k; (case a => k_is); (case l => k_is); (case c => k_is); (case k => k_is)))
    (case D11 => (refine' K46.at_mk KX G (fun _ _ _ _ _ _ us hl => match us, hl with | [_, _, _], _ => rfl) ?a ?l ?c ?k; (case a => k_is); (case l => k_is); (case c => k_is); (case k => k_is)))
    (case D12 => (refine' K46.at_mk KX G (fun _ _ _ _ _ _ us hl => match us, hl with | [_], _ => rfl) ?a ?l ?c ?k; (case a => k_is); (case l => k_is); (case c => k_is); (case k => k_is)))
    (case D13 => (refine' K46.at_mk KX G (fun _ _ _ _ _ _ us hl => match us, hl with | [_], _ => rfl) ?a ?l ?c ?k; (case a => k_is); (case l => k_is); (case c => k_is); (case k => k_is)))
    (case D14 => (refine' K46.at_mk KX G (fun _ _ _ _ _ _ us hl => match us, hl with | [_, _, _, _], _ => rfl) ?a ?l ?c ?k; (case a => k_is); (case l => k_is); (case c => k_is); (case k => k_is)))
    (case D15 => (refine' K46.at_mk KX G (fun _ _ _ _ _ _ us hl => match us, hl with | [_, _], _ => rfl) ?a ?l ?c ?k; (case a => k_is); (case l => k_is); (case c => k_is); (case k => k_is)))
    (case D16 => (refine' K46.at_mk KX G (fun _ _ _ _ _ _ us hl => match us, hl with | [_, _], _ => rfl) ?a ?l ?c ?k; (case a => k_is); (case l => k_is); (case c => k_is); (case k => k_is)))
    (case D17 => (refine' K46.at_mk KX G (fun _ _ _ _ _ _ us hl => match us, hl with | [_], _ => rfl) ?a ?l ?c ?k; (case a => k_is); (case l => k_is); (case c => k_is); (case k => k_is)))
    (case D18 => (refine' K46.at_mk KX G (fun _ _ _ _ _ _ us hl => match us, hl with | [_, _, _], _ => rfl) ?a ?l ?c ?k; (case a => k_is); (case l => k_is); (case c => k_is); (case k => k_is)))
    (case D19 => (refine' K46.at_mk KX G (fun _ _ _ _ _ _ us hl => match us, hl with | [_, _], _ => rfl) ?a ?l ?c ?k; (case a => k_is); (case l => k_is); (case c => k_is); (case k => k_is)))
    (case D20 => (refine' K46.at_mk KX G (fun _ _ _ _ _ _ us hl => match us, hl with | [_, _], _ => rfl) ?a ?l ?c ?k; (case a => k_is); (case l => k_is); (case c => k_is); (case k => k_is)))
    (case D21 => (refine' K46.at_mk KX G (fun _ _ _ _ _ _ us hl => match us, hl with | [_, _], _ => rfl) ?a ?l ?c ?k; (case a => k_is); (case l => k_is); (case c => k_is); (case k => k_is)))
    (case D22 => (refine' K46.at_mk KX G (fun _ _ _ _ _ _ us hl => match us, hl with | [_, _, _], _ => rfl) ?a ?l ?c ?k; (case a => k_is); (case l => k_is); (case c => k_is); (case k => k_is)))
    (case D23 => (refine' K46.at_mk KX G (fun _ _ _ _ _ _ us hl => match us, hl with | [_, _], _ => rfl) ?a ?l ?c ?k; (case a => k_is); (case l => k_is); (case c => k_is); (case k => k_is)))
    (case D24 => (refine' K46.at_mk KX G (fun _ _ _ _ _ _ us hl => match us, hl with | [_, _], _ => rfl) ?a ?l ?c ?k; (case a => k_is); (case l => k_is); (case c => k_is); (case k => k_is)))
    (case D25 => (refine' K46.at_mk KX G (fun _ _ _ _ _ _ us hl => match us, hl with | [_, _], _ => rfl) ?a ?l ?c ?k; (case a => k_is); (case l => k_is); (case c => k_is); (case k => k_is)))
    (case D26 => (refine' K46.at_mk KX G (fun _ _ _ _ _ _ us hl => match us, hl with | [_, _], _ => rfl) ?a ?l ?c ?k; (case a => k_is); (case l => k_is); (case c => k_is); (case k => k_is)))
    (case D27 => (refine' K46.at_mk KX G (fun _ _ _ _ _ _ us hl => match us, hl with | [_], _ => rfl) ?a ?l ?c ?k; (case a => k_is); (case l => k_is); (case c => k_is); (case k => k_is)))
    (case D28 => (refine' K46.at_mk KX G (fun _ _ _ _ _ _ us hl => match us, hl with | [_, _, _, _], _ => rfl) ?a ?l ?c ?k; (case a => k_is); (case l => k_is); (case c => k_is); (case k => k_is)))
    (case D29 => (refine' K46.at_mk KX G (fun _ _ _ _ _ _ us hl => match us, hl with | [_, _], _ => rfl) ?a ?l ?c ?k; (case a => k_is); (case l => k_is); (case c => k_is); (case k => k_is)))
    (case D30 => (refine' K46.at_mk KX G (fun _ _ _ _ _ _ us hl => match us, hl with | [_, _, _], _ => rfl) ?a ?l ?c ?k; (case a => k_is); (case l => k_is); (case c => k_is); (case k => k_is)))
    (case D31 => (refine' K46.at_mk KX G (fun _ _ _ _ _ _ us hl => match us, hl with | [_, _, _], _ => rfl) ?a ?l ?c ?k; (case a => k_is); (case l => k_is); (case c => k_is); (case k => k_is)))
    (case D32 => (refine' K46.at_mk KX G (fun _ _ _ _ _ _ us hl => match us, hl with | [_], _ => rfl) ?a ?l ?c ?k; (case a => k_is); (case l => k_is); (case c => k_is); (case k => k_is)))
    (case M0 => (refine' K46.atC_mk KX G (fun _ _ _ _ _ _ us hl => match us, hl with | [_], _ => rfl) ?a ?l ?c ?k ?lc ?v ?e ?n ?z; (case a => k_is); (case l => k_is); (case c => k_is); (case k => k_is); (case lc => k_is); (case v => rfl); (case e => kernel_rfl); (case n => kernel_rfl); (case z => exact PySem.W.km_tabs_of Y _ (by simp))))
    (case n_int => k_is)
    (case n_bool => k_is)
    (case n_list => k_is)
    (case n_tuple => k_is)
    (case n_isinstance => k_is)
    (case n_len => k_is)
    (case n_range => k_is)
    (case n_zip => k_is)
    (case n_all => k_is)
    (case n_enumerate => k_is)
    (case n_abs => k_is)
    (case n_max => k_is)
    (case n_min => k_is)
    (case n_set => k_is)
    (case n_repr => k_is)
    (case n_str => k_is)
#print axioms PySem.Challenge.cw_foldsall_k46_whole_one_place_or_two_at_w_holds
