import PyProof.Rows.All
import Wide.All
import OpenK.AllK
import Wide.FinOn
import PyProof.EqAt
import PyProof.EqKinds
import PyProof.TupleCall
import KE.KExcInit
import HandS.ExcOwn
import HandS.Words
import HandS.WordsList
import HandS.TryMany
import HandS.WordsExc
import HandS.ForMost
import HandS.ForExc
import HandS.IsInst
import HandS.Zip
import HandS.Walk
import HandS.Conv
import HandS.Star
import HandS.TupAny
import KE.GoesNew
import KE.GoesMore
import KE.GoesEnum
import HandS.Deep
import HandS.SetFor
import HandS.TryOnly
import KE.DataMinMax
import HandS.Style
import HandS.Comp
import HandS.Lambda
import HandS.Set
import HandS.RaiseMore
import HandS.TupMul
import KE.KLam
import HandS.HeadEnd
import HandS.EndTab
import PySem.Challenge.RW_foldsall_k01_whole_operations_held_and_s
set_option Elab.async false
set_option linter.all false
set_option maxRecDepth 100000
set_option maxHeartbeats 8000000
/-! Error classes over a base class of the program over Exception, one field or none: made, raised, named by a clause. -/
namespace FX
open PySem PySem.W PySem.Calls PyProof.Rows PySem.HandSPX
/-! ### what the written part says of the classes -/
abbrev tl : List Value := [.type "Exception", .type "BaseException", .type "object"]
/-- the base class, at B -/
structure BaseTxt (K : Frag) (mg : Str → Option Value) (b : Str) (B : Addr) : Prop where
  gB : mg b = some (.ref B)
  at_ : ∃ q N bs sn sub ab col dd k0 k1 k2 k3 k5, K.lookup B = some (excClassObj b q B N bs tl true sn sub ab col dd k0 k1 k2 k3 k5 "Exception.__new__")
/-- a class called x at C, over the one at B -/
structure ErrTxt (K : Frag) (mg : Str → Option Value) (B : Addr) (x : Str) (C : Addr) : Prop where
  gC : mg x = some (.ref C)
  at_ : ∃ q N bs sn sub ab col dd k0 k1 k2 k3 k5, K.lookup C = some (excClassObj x q C N bs (.ref B :: tl) true sn sub ab col dd k0 k1 k2 k3 k5 "Exception.__new__")
  kC : keepIn K (.ref C) = true
theorem cls_of {K : Frag} {x q : Str} {C N : Addr} {bs bm : List Value} {hd : Bool} {sn : List Str} {sub : List Value} {ab : Bool} {col : Option Bool} {dd : Option Addr} {k0 k1 k2 k3 k5 : Option Value} {ni : String}
    (h : K.lookup C = some (excClassObj x q C N bs bm hd sn sub ab col dd k0 k1 k2 k3 k5 ni)) :
    clsIn K C = some { name := x, bases := bs, mro := .ref C :: bm, ns := N, qualname := q, hasDict := hd, slotNames := sn, subclasses := sub, abstract := ab, collection := col, hasDel := false } := by
  unfold clsIn
  rw [h]
theorem mro_of {K : Frag} {x q : Str} {C N : Addr} {bs bm : List Value} {hd : Bool} {sn : List Str} {sub : List Value} {ab : Bool} {col : Option Bool} {dd : Option Addr} {k0 k1 k2 k3 k5 : Option Value} {ni : String}
    (h : K.lookup C = some (excClassObj x q C N bs bm hd sn sub ab col dd k0 k1 k2 k3 k5 ni)) (v : Value) : subIn K (.ref C) v = some ((Value.ref C :: bm).contains v) := by
  show mroIn K C v = _
  unfold mroIn
  rw [cls_of h]
  rfl
theorem ty_of {K : Frag} {x q : Str} {C N : Addr} {bs bm : List Value} {hd : Bool} {sn : List Str} {sub : List Value} {ab : Bool} {col : Option Bool} {dd : Option Addr} {k0 k1 k2 k3 k5 : Option Value} {ni : String}
    (h : K.lookup C = some (excClassObj x q C N bs bm hd sn sub ab col dd k0 k1 k2 k3 k5 ni)) : typeIn K (.ref C) = some (.type "type") := by
  show (K.lookup C).map (·.cls) = _
  rw [h]
  rfl
/-- whether «except D» names an error of the class C -/
theorem exm_of {K : Frag} {cls : Value} {y q : Str} {D N : Addr} {bs bm : List Value} {hd : Bool} {sn : List Str} {sub : List Value} {ab : Bool} {col : Option Bool} {dd : Option Addr} {k0 k1 k2 k3 k5 : Option Value} {ni : String} {r : Bool}
    (h : K.lookup D = some (excClassObj y q D N bs bm hd sn sub ab col dd k0 k1 k2 k3 k5 ni)) (hb : bm.contains (.type "BaseException") = true) (hs : subIn K cls (.ref D) = some r) : exmOne K cls (.ref D) = some r := by
  have e1 : subIn K (.ref D) (.type "BaseException") = some true := by
    rw [mro_of h, List.contains_cons, hb, Bool.or_true]
  unfold exmOne
  rw [e1, if_pos (by decide)]
  have e2 : ((clsIn K D).isSome && typeIn K (.ref D) == some (.type "type")) = true := by
    rw [cls_of h, ty_of h]
    rfl
  show (if ((clsIn K D).isSome && typeIn K (.ref D) == some (.type "type")) = true then subIn K cls (.ref D) else none) = _
  rw [if_pos e2]
  exact hs
variable {K : Frag} {mg : Str → Option Value} {b x y : Str} {B C D : Addr}
theorem ErrTxt.sub (T : ErrTxt K mg B x C) : subIn K (.ref C) (.type "BaseException") = some true := by
  obtain ⟨q, N, bs, sn, sub, ab, col, dd, k0, k1, k2, k3, k5, h⟩ := T.at_
  rw [mro_of h]
  rfl
theorem ErrTxt.ty (T : ErrTxt K mg B x C) : typeIn K (.ref C) = some (.type "type") := by
  obtain ⟨q, N, bs, sn, sub, ab, col, dd, k0, k1, k2, k3, k5, h⟩ := T.at_
  exact ty_of h
theorem ErrTxt.dict (T : ErrTxt K mg B x C) : hasDictIn K C = true := by
  obtain ⟨q, N, bs, sn, sub, ab, col, dd, k0, k1, k2, k3, k5, h⟩ := T.at_
  unfold hasDictIn
  rw [cls_of h]
  rfl
theorem ErrTxt.over (T : ErrTxt K mg B x C) : excOver K C tl = true := by
  obtain ⟨q, N, bs, sn, sub, ab, col, dd, k0, k1, k2, k3, k5, h⟩ := T.at_
  unfold excOver
  rw [cls_of h]
  show (C == C && excTail tl (.ref B :: tl)) = true
  rw [beq_self_eq_true]
  show excTail tl tl = true
  decide +kernel
theorem ErrTxt.ne (T : ErrTxt K mg B x C) (U : ErrTxt K mg B y D) (h : x ≠ y) : C ≠ D := by
  obtain ⟨q, N, bs, sn, sub, ab, col, dd, k0, k1, k2, k3, k5, h1⟩ := T.at_
  obtain ⟨q', N', bs', sn', sub', ab', col', dd', k0', k1', k2', k3', k5', h2⟩ := U.at_
  intro e
  subst e
  rw [h1] at h2
  injection h2 with h2
  injection h2 with _ _ h2 _
  injection h2 with h2
  injection h2 with h2
  exact h h2
theorem ErrTxt.neB (T : ErrTxt K mg B x C) (U : BaseTxt K mg b D) (h : x ≠ b) : C ≠ D := by
  obtain ⟨q, N, bs, sn, sub, ab, col, dd, k0, k1, k2, k3, k5, h1⟩ := T.at_
  obtain ⟨q', N', bs', sn', sub', ab', col', dd', k0', k1', k2', k3', k5', h2⟩ := U.at_
  intro e
  subst e
  rw [h1] at h2
  injection h2 with h2
  injection h2 with _ _ h2 _
  injection h2 with h2
  injection h2 with h2
  exact h h2
/-- its own clause names it -/
theorem ErrTxt.own (T : ErrTxt K mg B x C) : exmOne K (.ref C) (.ref C) = some true := by
  obtain ⟨q, N, bs, sn, sub, ab, col, dd, k0, k1, k2, k3, k5, h⟩ := T.at_
  refine exm_of h rfl ?_
  rw [mro_of h, List.contains_cons, beq_self_eq_true, Bool.true_or]
/-- another's doesn't -/
theorem ErrTxt.other (T : ErrTxt K mg B x C) (S : BaseTxt K mg b B) (U : ErrTxt K mg B y D) (h : x ≠ y) (hb : y ≠ b) : exmOne K (.ref C) (.ref D) = some false := by
  have n1 : C ≠ D := T.ne U h
  have n2 : D ≠ B := U.neB S hb
  obtain ⟨q, N, bs, sn, sub, ab, col, dd, k0, k1, k2, k3, k5, h1⟩ := T.at_
  obtain ⟨q', N', bs', sn', sub', ab', col', dd', k0', k1', k2', k3', k5', h2⟩ := U.at_
  refine exm_of h2 rfl ?_
  rw [mro_of h1]
  have e1 : (Value.ref D == Value.ref C) = false := by simpa using fun z : D = C => n1 z.symm
  have e2 : (Value.ref D == Value.ref B) = false := by simpa using n2
  rw [List.contains_cons, List.contains_cons, e1, e2]
  rfl
/-- the base's does -/
theorem ErrTxt.base (T : ErrTxt K mg B x C) (S : BaseTxt K mg b B) : exmOne K (.ref C) (.ref B) = some true := by
  obtain ⟨q, N, bs, sn, sub, ab, col, dd, k0, k1, k2, k3, k5, h1⟩ := T.at_
  obtain ⟨q', N', bs', sn', sub', ab', col', dd', k0', k1', k2', k3', k5', h2⟩ := S.at_
  refine exm_of h2 rfl ?_
  rw [mro_of h1, List.contains_cons, List.contains_cons, beq_self_eq_true, Bool.true_or, Bool.or_true]
end FX
/-! The one-field __init__ of an error, and the making of the error. -/
namespace FX
open PySem PySem.W PySem.Calls PyProof.Rows PySem.HandSPX
def inA (f : Str) (p1 p2 : Pos) : Arguments := { posonlyargs := [], args := [{ arg := "self", annotation := none, pos := p1 }, { arg := f, annotation := none, pos := p2 }], vararg := none, kwonlyargs := [], kw_defaults := [], kwarg := none, defaults := [] }
def inB (f : Str) (q1 q2 q3 q4 : Pos) : List Stmt := [.Assign [.Attribute (.Name "self" q1) f q2] (.Name f q3) q4]
def inS (f : Str) : Scope := { kind := .function, names := [(PySem.Str.ofString "self", .local), (f, .local)], isGenerator := false, isCoroutine := false, more := [] }
/-- what the written part says of the __init__ (at i) of the class at C: it stores its one argument under f -/
structure InitTxt (K : Frag) (qn f : Str) (C i : Addr) : Prop where
  sa : findIn K (.ref C) "__setattr__" = some (some (.builtin "object.__setattr__"))
  ga : findIn K (.ref C) "__getattribute__" = some (some (.builtin "BaseException.__getattribute__"))
  gg : findIn K (.ref C) "__getattr__" = some none
  noF : findIn K (.ref C) f = some none
  iC : findIn K (.ref C) "__init__" = some (some (.ref i))
  tI : typeIn K (.ref i) = some (.type "function")
  fn : ∃ (oc : Value) (od : Option Addr) (doc pm : Value) (an : Option Addr) (cdv ct : Value) (osl : Array (Option Value)) (p1 p2 q1 q2 q3 q4 : Pos),
    K.lookup i = some ⟨oc, od, .func (fnOf "__init__" qn (inA f p1 p2) (inB f q1 q2 q3 q4) (inS f) .none .none doc pm an cdv ct), osl⟩ ∧ codeIn K cdv qn = true
  ff : f = "at" ∨ f = "word"
theorem InitTxt.taker {K : Frag} {qn f : Str} {C i : Addr} (T : InitTxt K qn f C i) : takerIn K C f = some none := by
  unfold takerIn
  rw [T.noF]
  rfl
/-- an attribute stored into an exception that has none yet -/
theorem store_first {prog : Program} {w : World} {A : Around} {R : Result → Shared → Prop} {hp : Heap} {g : Array GenState} {d : Drawn} {t : Nat} {os : OsState} {K : Frag} {f : Str} {tk : Tok} {v : Value} {x C : Addr} {fv : Array Value}
    (X : K.In hp) (hx : hp.get? x = some { cls := .ref C, data := .fields fv }) (ho : excOver K C tl = true) (hh : hasDictIn K C = true) (ht : takerIn K C f = some none)
    (hq : ∀ h' tk' dx, (∀ b o, b ≠ x → hp.get? b = some o → h'.get? b = some o) → hp.objs.size ≤ dx → dx ≠ x → h'.get? x = some { cls := .ref C, dict := some dx, data := .fields fv } →
      h'.Ns1 dx (fun y => if y = f then some v else none) → R (.ok (.ret .none)) ⟨h', g, d, tk', os⟩) :
    codeAny (model prog w) A (.call (.builtin "object.__setattr__") ⟨[.ref x, .str f tk, v], []⟩) R ⟨hp, g, d, t, os⟩ := by
  have ne : x ≠ hp.objs.size := Nat.ne_of_lt (Heap.lt_size hx)
  refine osa_openX (od := none) (ox := { cls := .ref C, data := .fields fv }) F.store_Exception X ⟨hx, rfl, rfl, trivial⟩ ho ht fun b => ?_
  obtain ⟨cd, hc, hd⟩ := any_some hh
  have Lc : Looks (model prog w) hp (classData C) cd := looks_clsIn X hc
  obtain ⟨nm, bs, mro, ns, qn, hd', sn, sb, ab, col, del⟩ := cd
  dsimp only at hd
  subst hd
  show wpAny _ _ (Builtin.ObjectAttr.storeInOwnDict (.ref x) (.ref C) (.str f tk) f v b) _ _ _
  unfold Builtin.ObjectAttr.storeInOwnDict Builtin.ObjectAttr.ownDictForStores
  repeat (first | (with_reducible refine store_in_new ?_ ?_) | (with_reducible refine wpAny_loadPart_at hx ?_) | (with_reducible refine Lc.at ?_) | wp_step)
  · refine ⟨_, #[], _, (Heap.get?_update_ne _ _ _ _ (Ne.symm ne)).trans (Heap.get?_push_at rfl rfl), rfl, fun e he => ?_, fun _ => rfl⟩
    simp at he
  · intro h' tk' n1 sb'
    have hx1 : (hp.push { cls := .type "dict", data := .dict #[] }).get? x = some { cls := .ref C, data := .fields fv } := Heap.get?_push_of_some _ hx
    refine hq h' tk' hp.objs.size (fun c o hc ho' => ?_) (Nat.le_refl _) (Ne.symm ne) ?_ n1
    · rw [sb'.2 c (Nat.ne_of_lt (Heap.lt_size ho')), Heap.get?_update_ne _ _ _ _ hc]
      exact Heap.get?_push_of_some _ ho'
    · rw [sb'.2 x ne]
      exact Heap.get?_update_self _ hx1 rfl
end FX
namespace FX
open PySem PySem.W PySem.Calls PyProof.Rows PySem.HandSPX
/-- a local name is read -/
theorem local_read {M : Model} {s : Shared} {nm : Str} {sc : Scope} {L a : Addr} {cd : Value} {m : Str → Option Value} {y : Str} {pos : Pos} {v : Value} {Q : Value → Shared → Prop} {A : Around} {E : Value → Shared → Prop}
    (hn : s.heap.Ns L m) (hv : m y = some v) (h : Q v s) (hk : sc.kind = .function := by rfl) (hl : (envOfC nm sc L a cd).kindOf y = some .local := by rfl) (hd : (y == ("__debug__" : Str)) = false := by decide) :
    wpAny M A (eval (.Name y pos) (envOfC nm sc L a cd)) Q E s :=
  wpAny_Name (wpAny_loadName_local hk hl hn hv h) hd
/-- the error at a behind its __init__: its dict at dx holds f -/
structure Inited (h h' : Heap) (a C dx t1 : Addr) (f : Str) (v : Value) : Prop where
  stay : ∀ c o, c ≠ a → h.get? c = some o → h'.get? c = some o
  it : h'.get? a = some { cls := .ref C, dict := some dx, data := .fields #[.ref t1, .none, .none, .none, .bool false, .none] }
  up : h.objs.size ≤ dx
  ne : dx ≠ a
  has : h'.Ns1 dx (fun y => if y = f then some v else none)
section
variable {prog : Program} {w : World} {A : Around} {E : Value → Shared → Prop} {R : Result → Shared → Prop} {s : Shared} {K : Frag} {mg : Str → Option Value} {b x qn f : Str} {B C i : Addr}
theorem init_run (T : ErrTxt K mg B x C) (U : InitTxt K qn f C i) {a t0 : Addr} {v : Value} (X : K.In s.heap) (hlim : s.heap.NoLimit) (ha : s.heap.get? a = some (excO C t0)) (hroom : A.depth < recursionLimit)
    (hq : ∀ h' tk dx, Inited s.heap h' a C dx t0 f v → R (.ok (.ret .none)) { s with heap := h', toks := tk }) : codeAny (model prog w) A (.call (.ref i) ⟨[.ref a, v], []⟩) R s := by
  have hdict := T.dict
  have hover := T.over
  have htk := U.taker
  obtain ⟨oc, od, doc, pm, an, cdv, ct, osl, p1, p2, q1, q2, q3, q4, hfn, hcd⟩ := U.fn
  have hsa := U.sa
  rcases U.ff with e | e
  all_goals
    subst e
    refine Att.call_fn (binds := [("self", .ref a), (_, v)]) X hlim hfn hcd hroom (BindsTo.of_eq (by first | rfl | with_unfolding_all rfl)) (by first | rfl | decide | with_unfolding_all rfl) (fun s1 IC => ?_) rfl rfl rfl
    obtain ⟨h1, tk1, rfl⟩ := IC.toInCall.same
    have kp : ∀ c o, s.heap.get? c = some o → h1.get? c = some o := IC.toInCall.keep
    have ns := IC.toInCall.ns
    have X1 : K.In h1 := X.keeps kp
    have a1 := kp _ _ ha
    show wpAny _ _ (execs _ _) _ _ _
    refine wpAny_execs_cons (plainObj_wpAny_Assign_Attribute ?_)
    refine local_read (v := v) ns (by first | rfl | with_unfolding_all rfl | kernel_rfl) ?_
    refine local_read (v := .ref a) ns (by first | rfl | with_unfolding_all rfl | kernel_rfl) ?_
    refine set_plain X1 (ox := excO C t0) (od := none) ⟨a1, rfl, rfl, trivial⟩ hsa ?_
    refine store_first X1 a1 hover hdict htk (fun h3 tk3 dx k3 dn dne a3 n3 => ?_)
    show wpAny _ _ (execs _ _) _ _ _
    have lt : s.heap.objs.size < h1.objs.size := ns.lt
    exact wpAny_execs_nil (hq h3 tk3 dx ⟨fun c o hc e => k3 c o hc (kp c o e), a3, Nat.le_of_lt (Nat.lt_of_lt_of_le lt dn), dne, n3⟩)
/-- the error made -/
structure MadeErr (h h' : Heap) (e C d : Addr) (f : Str) (v : Value) : Prop where
  stay : ∀ c o, h.get? c = some o → h'.get? c = some o
  new : h.objs.size ≤ e
  it : ∃ oe vs, h'.get? e = some oe ∧ oe.cls = .ref C ∧ oe.dict = some d ∧ oe.data = .fields vs ∧ vs[1]? = some .none
  up : h.objs.size ≤ d
  ne : d ≠ e
  has : h'.Ns1 d (fun y => if y = f then some v else none)
theorem made_run (T : ErrTxt K mg B x C) (U : InitTxt K qn f C i) {v : Value} (X : K.In s.heap) (hlim : s.heap.NoLimit) (hroom : A.depth + 1 < recursionLimit)
    (hq : ∀ h' tk e d, MadeErr s.heap h' e C d f v → R (.ok (.ret (.ref e))) { s with heap := h', toks := tk }) : codeAny (model prog w) A (.call (.ref C) ⟨[v], []⟩) R s := by
  obtain ⟨q, N, bs, sn, sub, ab, col, dd, k0, k1, k2, k3, k5, hC⟩ := T.at_
  obtain ⟨hp, g, dr, tk, os⟩ := s
  have kp : ∀ c o, hp.get? c = some o → ((hp.push (kdv_tup [v])).push (excO C hp.objs.size)).get? c = some o := fun c o e => Heap.get?_push_of_some _ (Heap.get?_push_of_some _ e)
  have it : ((hp.push (kdv_tup [v])).push (excO C hp.objs.size)).get? (hp.objs.size + 1) = some (excO C hp.objs.size) := by heap_get
  refine call_own F.excBase_Exception (bm := .ref B :: tl) (fun Y => excTail_contains (bmB := tl) Y _ (by show excTail tl tl = true; decide +kernel)) (X _ _ hC) (looks_findIn X U.iC) (fun self => bind_fn X self U.tI)
    (by show 1 ≤ sizeLine; rw [sizeLine_eq]; omega) ?_
  refine init_run (s := ⟨(hp.push (kdv_tup [v])).push (excO C hp.objs.size), g, dr, tk, os⟩) T U (X.keeps kp) (hlim.keeps kp) it ?_ fun h' tk' dx ⟨st, hx, dn, dne, hns⟩ => ?_
  · show A.depth + 1 < recursionLimit
    exact hroom
  · have old : ∀ c o, hp.get? c = some o → h'.get? c = some o := fun c o e => st c o (Nat.ne_of_lt (Nat.lt_succ_of_lt (Heap.lt_size e))) (kp c o e)
    have z : hp.objs.size + 1 + 1 ≤ dx := by
      have q := dn
      rw [Heap.size_push, Heap.size_push] at q
      exact q
    refine ⟨rfl, hq h' tk' (hp.objs.size + 1) dx ⟨old, Nat.le_succ _, ⟨_, _, hx, rfl, rfl, rfl, rfl⟩, ?_, dne, hns⟩⟩
    show hp.objs.size ≤ dx
    omega
end
end FX
/-! The error made by a call with the field's name: x(f=v). -/
namespace FX
open PySem PySem.W PySem.Calls PyProof.Rows PySem.HandSPX
section
variable {prog : Program} {w : World} {A : Around} {E : Value → Shared → Prop} {R : Result → Shared → Prop} {s : Shared} {K : Frag} {mg : Str → Option Value} {b x qn f : Str} {B C i : Addr}
theorem init_kw (T : ErrTxt K mg B x C) (U : InitTxt K qn f C i) {a t0 : Addr} {v : Value} (X : K.In s.heap) (hlim : s.heap.NoLimit) (ha : s.heap.get? a = some (excO C t0)) (hroom : A.depth < recursionLimit)
    (hq : ∀ h' tk dx, Inited s.heap h' a C dx t0 f v → R (.ok (.ret .none)) { s with heap := h', toks := tk }) : codeAny (model prog w) A (.call (.ref i) ⟨[.ref a], [(f, v)]⟩) R s := by
  have hdict := T.dict
  have hover := T.over
  have htk := U.taker
  obtain ⟨oc, od, doc, pm, an, cdv, ct, osl, p1, p2, q1, q2, q3, q4, hfn, hcd⟩ := U.fn
  have hsa := U.sa
  rcases U.ff with e | e
  all_goals
    subst e
    refine Att.call_fn (binds := [("self", .ref a), (_, v)]) X hlim hfn hcd hroom (BindsTo.of_eq (by first | rfl | with_unfolding_all rfl)) (by first | rfl | decide | with_unfolding_all rfl) (fun s1 IC => ?_) rfl rfl rfl
    obtain ⟨h1, tk1, rfl⟩ := IC.toInCall.same
    have kp : ∀ c o, s.heap.get? c = some o → h1.get? c = some o := IC.toInCall.keep
    have ns := IC.toInCall.ns
    have X1 : K.In h1 := X.keeps kp
    have a1 := kp _ _ ha
    show wpAny _ _ (execs _ _) _ _ _
    refine wpAny_execs_cons (plainObj_wpAny_Assign_Attribute ?_)
    refine local_read (v := v) ns (by first | rfl | with_unfolding_all rfl | kernel_rfl) ?_
    refine local_read (v := .ref a) ns (by first | rfl | with_unfolding_all rfl | kernel_rfl) ?_
    refine set_plain X1 (ox := excO C t0) (od := none) ⟨a1, rfl, rfl, trivial⟩ hsa ?_
    refine store_first X1 a1 hover hdict htk (fun h3 tk3 dx k3 dn dne a3 n3 => ?_)
    show wpAny _ _ (execs _ _) _ _ _
    have lt : s.heap.objs.size < h1.objs.size := ns.lt
    exact wpAny_execs_nil (hq h3 tk3 dx ⟨fun c o hc e => k3 c o hc (kp c o e), a3, Nat.le_of_lt (Nat.lt_of_lt_of_le lt dn), dne, n3⟩)
end
section
variable {M : Model} {prog : Program} {w : World} {A : Around} {E : Value → Shared → Prop} {R : Result → Shared → Prop} {h : Heap} {g : Array GenState} {d : Drawn} {t : Nat} {os : OsState}
variable {nm q : Str} {C N : Addr} {bs bm : List Value} {hdct : Bool} {sn : List Str} {sub : List Value} {ab : Bool} {col : Option Bool} {dd : Option Addr} {k0 k1 k2 k3 k5 : Option Value}
/-- the base's own tail, told -/
structure TailIs (bm : List Value) : Prop where
  ex : bm.contains (.type "Exception") = true
  atr : bm.contains (.type "AttributeError") = false
  nme : bm.contains (.type "NameError") = false
theorem check_call_kw {kw : List (Str × Value)} {Q : Unit → Shared → Prop} (hC : h.get? C = some (excClassObj nm q C N bs bm hdct sn sub ab col dd k0 k1 k2 k3 k5 "Exception.__new__")) (hq : Q () ⟨h, g, d, t, os⟩) :
    wpAny M A (checkBuiltinCall "type.__call__" ⟨[.ref C], kw⟩) Q E ⟨h, g, d, t, os⟩ := by
  have f3 := tc_sub
  have hT : (⟨h, g, d, t, os⟩ : Shared).TypeIs (.ref C) "type" := ⟨_, hC, rfl⟩
  simp only [checkBuiltinCall, tc_kind, tc_split]
  repeat (any_goals (first | assumption | (with_reducible refine wpAny_loadPart_at hC ?_) | (with_reducible refine wpAny_onRaise ?_) | (with_reducible refine wpAny_map ?_) | wp_step))
theorem check_new_kw (T : TailIs bm) {kw : List (Str × Value)} {Q : Unit → Shared → Prop} (hC : h.get? C = some (excClassObj nm q C N bs bm hdct sn sub ab col dd k0 k1 k2 k3 k5 "Exception.__new__")) (hq : Q () ⟨h, g, d, t, os⟩) :
    wpAny M A (checkBuiltinCall "Exception.__new__" ⟨[.ref C], kw⟩) Q E ⟨h, g, d, t, os⟩ := by
  have FB := F.excBase_Exception
  have hc : (Value.ref C :: bm).contains (.type "Exception") = true := by rw [List.contains_cons, T.ex, Bool.or_true]
  have hstar := FB.noStar
  simp only [checkBuiltinCall, FB.newKind, FB.newSplit, FB.newRow]
  repeat (first | (refine wpAny_loadPart_at hC ?_) | (refine wpAny_isSubtype_exc hC ?_; rw [hc]) | (refine wpAny_staticBase_exc hC ?_) | (refine wpAny_madeBy_exc hC ?_) | (simp only [bne_self_eq_false, Bool.false_eq_true, if_false]) | wp_step)
  exact hq
theorem new_kw (T : TailIs bm) {kw : List (Str × Value)} (hC : h.get? C = some (excClassObj nm q C N bs bm hdct sn sub ab col dd k0 k1 k2 k3 k5 "Exception.__new__"))
    (hq : R (.ok (.ret (.ref (h.objs.size + 1)))) ⟨(h.push { cls := .type "tuple", data := .seq #[] }).push (excO C h.objs.size), g, d, t, os⟩) :
    codeAny (model prog w) A (.builtin "Exception.__new__" ⟨[.ref C], kw⟩) R ⟨h, g, d, t, os⟩ := by
  have FB := F.excBase_Exception
  have hends := FB.ends
  have c1 : (Value.ref C :: bm).contains (.type "Exception") = true := by rw [List.contains_cons, T.ex, Bool.or_true]
  have c2 : (Value.ref C :: bm).contains (.type "AttributeError") = false := by
    rw [List.contains_cons, T.atr]
    rfl
  have c3 : (Value.ref C :: bm).contains (.type "NameError") = false := by
    rw [List.contains_cons, T.nme]
    rfl
  refine codeAny_builtinAt FB.entry ?_
  unfold Builtin.«BaseException.__new__»
  refine PySem.wpAt_bind ?_
  show PySem.wpAt _ _ _ (stack >>= _) _ _ _
  refine PySem.wpAt_bind (PySem.wpAt_stack fun p below => PySem.wpAt_of_wpAny ?_)
  wp_walk
  refine PySem.wpAt_of_wpAny ?_
  rw [FB.owner]
  repeat (first | (with_reducible refine wpAny_madeHere_exc FB.canon hC ?_) | (with_reducible refine wpAny_loadPart_at hC ?_) | (with_reducible refine wpAny_isSubtype_exc hC ?_; first | rw [c1] | rw [c2] | rw [c3]) | wp_step)
  show R _ _
  rw [Heap.size_push]
  exact hq
theorem type_call_kw (T : TailIs bm) {kw : List (Str × Value)} {i : Addr} {Q : Fin → Shared → Prop} (hC : h.get? C = some (excClassObj nm q C N bs bm hdct sn sub ab col dd k0 k1 k2 k3 k5 "Exception.__new__"))
    (hi : Looks (model prog w) h (typeLookup (.ref C) "__init__") (some (.ref i))) (hb : ∀ self, Looks (model prog w) h (bindSpecial (.ref i) self) (.ref i, [self]))
    (hq : codeAny (model prog w) A (.call (.ref i) ⟨[.ref (h.objs.size + 1)], kw⟩)
      (fun r s' => match r with | .ok (.ret v) => v = .none ∧ Q (.done (.ret (.ref (h.objs.size + 1)))) s' | .ok _ => False | .error e => E e s')
      ⟨(h.push (kdv_tup [])).push (excO C h.objs.size), g, d, t, os⟩) :
    wpAny (model prog w) A (Builtin.«type.__call__» ⟨[.ref C], kw⟩) Q E ⟨h, g, d, t, os⟩ := by
  have FB := F.excBase_Exception
  repeat (first | (with_reducible refine wpAny_loadPart_at hC ?_) | (with_reducible refine wpAny_madeBy_exc hC ?_) | wp_step)
  refine codeAny_call_builtin_code (Code.quiet_builtin _ FB.quiet) (check_new_kw T hC ?_)
  refine new_kw T hC ?_
  show wpAny _ _ _ _ _ _
  have kp : ∀ c o, h.get? c = some o → ((h.push (kdv_tup [])).push (excO C h.objs.size)).get? c = some o := fun c o e => Heap.get?_push_of_some _ (Heap.get?_push_of_some _ e)
  have hC1 := kp _ _ hC
  have it : ((h.push (kdv_tup [])).push (excO C h.objs.size)).get? (h.objs.size + 1) = some (excO C h.objs.size) := by heap_get
  have cc : (Value.ref C :: bm).contains (.ref C) = true := by simp
  have i1 := hi.keeps kp
  have b1 := (hb (.ref (h.objs.size + 1))).keeps kp
  unfold isInstance
  repeat (first | (with_reducible refine wpAny_loadPart_at it ?_) | (with_reducible refine wpAny_isSubtype_exc hC1 ?_; rw [cc]) | wp_step)
  show wpAny _ _ (typeLookup (.ref C) _) _ _ _
  refine i1.at (wpAny_holding (wpAny_bind (b1.at (wpAny_bind (wpAny_call (codeAny_mono hq fun r s' z => ?_))))))
  rcases r with e | (v | _ | _ | _) <;> first | exact z | exact z.elim | skip
  obtain ⟨rfl, z⟩ := z
  first
    | exact wpAny_pure (wpAny_pure z)
    | (wp_walk; exact z)
theorem call_kw (T : TailIs bm) {kw : List (Str × Value)} {i : Addr} (hC : h.get? C = some (excClassObj nm q C N bs bm hdct sn sub ab col dd k0 k1 k2 k3 k5 "Exception.__new__"))
    (hi : Looks (model prog w) h (typeLookup (.ref C) "__init__") (some (.ref i))) (hb : ∀ self, Looks (model prog w) h (bindSpecial (.ref i) self) (.ref i, [self]))
    (hq : codeAny (model prog w) (A.under (.builtin "type.__call__" ⟨[.ref C], kw⟩)) (.call (.ref i) ⟨[.ref (h.objs.size + 1)], kw⟩) (InitBack (h.objs.size + 1) R)
      ⟨(h.push (kdv_tup [])).push (excO C h.objs.size), g, d, t, os⟩) :
    codeAny (model prog w) A (.call (.ref C) ⟨[], kw⟩) R ⟨h, g, d, t, os⟩ := by
  have f1 := tc_lookup
  have f2 := tc_bind (.ref C)
  have hT : (⟨h, g, d, t, os⟩ : Shared).TypeIs (.ref C) "type" := ⟨_, hC, rfl⟩
  refine codeAny_of_tree ?_
  show wpAny _ _ (callAny (.ref C) _) _ _ _
  repeat (any_goals (first | assumption | (with_reducible refine wpAny_loadPart_at hC ?_) | wp_step))
  refine ⟨rfl, ?_⟩
  refine codeAny_call_builtin_at (Code.quiet_builtin _ (by decide +kernel)) entry_typeCall (check_call_kw hC (type_call_kw T hC hi hb ?_))
  refine codeAny_mono hq fun r s' z => ?_
  rcases r with e | (v | _ | _ | _) <;> exact z
end
section
variable {prog : Program} {w : World} {A : Around} {E : Value → Shared → Prop} {R : Result → Shared → Prop} {s : Shared} {K : Frag} {mg : Str → Option Value} {b x qn f : Str} {B C i : Addr}
theorem made_kw (T : ErrTxt K mg B x C) (U : InitTxt K qn f C i) {v : Value} (X : K.In s.heap) (hlim : s.heap.NoLimit) (hroom : A.depth + 1 < recursionLimit)
    (hq : ∀ h' tk e d, MadeErr s.heap h' e C d f v → R (.ok (.ret (.ref e))) { s with heap := h', toks := tk }) : codeAny (model prog w) A (.call (.ref C) ⟨[], [(f, v)]⟩) R s := by
  obtain ⟨q, N, bs, sn, sub, ab, col, dd, k0, k1, k2, k3, k5, hC⟩ := T.at_
  obtain ⟨hp, g, dr, tk, os⟩ := s
  have kp : ∀ c o, hp.get? c = some o → ((hp.push (kdv_tup [])).push (excO C hp.objs.size)).get? c = some o := fun c o e => Heap.get?_push_of_some _ (Heap.get?_push_of_some _ e)
  have it : ((hp.push (kdv_tup [])).push (excO C hp.objs.size)).get? (hp.objs.size + 1) = some (excO C hp.objs.size) := by heap_get
  refine call_kw ⟨rfl, rfl, rfl⟩ (X _ _ hC) (looks_findIn X U.iC) (fun self => bind_fn X self U.tI) ?_
  refine init_kw (s := ⟨(hp.push (kdv_tup [])).push (excO C hp.objs.size), g, dr, tk, os⟩) T U (X.keeps kp) (hlim.keeps kp) it ?_ fun h' tk' dx ⟨st, hx, dn, dne, hns⟩ => ?_
  · show A.depth + 1 < recursionLimit
    exact hroom
  · have old : ∀ c o, hp.get? c = some o → h'.get? c = some o := fun c o e => st c o (Nat.ne_of_lt (Nat.lt_succ_of_lt (Heap.lt_size e))) (kp c o e)
    have z : hp.objs.size + 1 + 1 ≤ dx := by
      have q := dn
      rw [Heap.size_push, Heap.size_push] at q
      exact q
    refine ⟨rfl, hq h' tk' (hp.objs.size + 1) dx ⟨old, Nat.le_succ _, ⟨_, _, hx, rfl, rfl, rfl, rfl⟩, ?_, dne, hns⟩⟩
    show hp.objs.size ≤ dx
    omega
end
end FX
/-! The layer's rules for such errors. -/
namespace FX
open PySem PySem.Spec PyProof.Rows L2
/-- what a field's dict answers -/
theorem one_field {v : V} {u : Value} (r : RelV v u) (f g : Str) : RelO (List.lookup g [(f, v)]) (if g = f then some u else none) := by
  by_cases e : g = f
  · subst e
    have q : List.lookup g [(g, v)] = some v := by simp [List.lookup]
    rw [q, if_pos rfl]
    exact r
  · have q : List.lookup g [(f, v)] = none := by
      have z : (g == f) = false := by simpa using e
      simp [List.lookup, z]
    rw [q, if_neg e]
    exact True.intro
section
variable {X : Cx} {x b qn f : Str} {B C i : Addr}
/-- behind the making: the error is no object of ours, its dict is -/
theorem make_end {pins : List (Addr × Obj)} {σ : L2.St} {H1 : Hp} {s1 : Shared} {h' : Heap} {tk' : Nat} {e d : Addr} {v : V} {u : Value} (I1 : Inv X pins σ H1 s1) (rv : RelV v u) (M : MadeErr s1.heap h' e C d f u) :
    ∃ G : Heap, Inv X pins σ (upd H1 d (.xd [(f, v)])) { s1 with heap := G, toks := tk' } ∧ (∀ c o, G.get? c = some o → h'.get? c = some o) ∧ G.get? e = none ∧ (upd H1 d (.xd [(f, v)])) e = none ∧ H1 d = none := by
  obtain ⟨G, g1, g2⟩ := restrict h' fun c => decide (c ≠ e)
  have gk : ∀ c, c ≠ e → G.get? c = h'.get? c := fun c hc => g1 c (decide_eq_true hc)
  have ge : G.get? e = none := g2 e (by simp)
  have ob : ObjOk X.prog X.w (upd H1 d (.xd [(f, v)])) G d (.xd [(f, v)]) := ⟨_, M.has.at (fun o q => (gk d M.ne).trans q), fun g => one_field rv f g⟩
  refine ⟨G, I1.laid (fun c o q => ?_) M.up ob, fun c o q => ?_, ge, ?_, I1.hok.fresh M.up⟩
  · have hce : c ≠ e := Nat.ne_of_lt (Nat.lt_of_lt_of_le (Heap.lt_size q) M.new)
    rw [gk c hce]
    exact M.stay c o q
  · by_cases hce : c = e
    · subst hce
      rw [ge] at q
      cases q
    · rw [← gk c hce]
      exact q
  · rw [upd_ne (Ne.symm M.ne)]
    exact I1.hok.fresh M.new
/-- x(e), e's value kept under f -/
def tMk (C : Addr) (f : Str) (ta : TA) : L2.St → Hp → XK → Prop := fun σ H Q => ta σ H fun vs H1 => ∃ v, vs = [v] ∧ ∀ d, H1 d = none → Q (.ref C) (some d) (upd H1 d (.xd [(f, v)]))
theorem pmk_err {a : Expr} {ta : TA} {p pos : Pos} {k : Nat} (T : ErrTxt X.K X.mg B x C) (U : InitTxt X.K qn f C i) (hr : Room k X.A) (ha : PA X [a] ta) (hg : Gl X x := by rfl) (hdb : (x == ("__debug__" : Str)) = false := by decide)
    (he : starEach (a :: []) X.env = (false, eval a X.env) :: starEach [] X.env := by rfl) (hpl : (backTo pos (starEach [] X.env)).any (·.1) = false := by rfl) :
    PMk X (.Call (.Name x p) [a] [] pos) (tMk C f ta) := fun pins s σ H Q I h => by
  refine wpAny_Call_Name_kw (ld_glob I hg T.gC ?_ hdb)
  refine PySem.W.callWith_K (h₀ := X.base) I.ok.mod.kin T.kC (thn (ha.run pos pins s σ H _ I h) fun us s1 hh => ?_) he hpl
  obtain ⟨vs, H1, I1, r1, v, ev, q1⟩ := hh
  subst ev
  cases r1 with
  | @cons _ u _ us' rv rn =>
    cases rn
    refine ⟨I1.kIn, ?_⟩
    show wpAny _ _ (call (.ref C) [u]) _ _ _
    refine wpAny_call (made_run T U I1.kIn I1.nolimit (by have := hr.dp; omega) fun h' tk' e d M => ?_)
    obtain ⟨G, J, kG, ge, ne, nd⟩ := make_end (tk' := tk') I1 rv M
    obtain ⟨oe, fv, hoe, hc, hd, hdat, h1⟩ := M.it
    exact ⟨e, oe, fv, _, _, .ref C, some d, rfl, J, kG, ge, hoe, ⟨hc, hd⟩, hdat, h1, ne, rfl, I1.bare, raises_own T.sub T.ty, q1 d nd⟩
def tRaise (C : Addr) (f : Str) (W : WX) (ta : TA) : TS := fun _ σ H => tMk C f ta σ H fun cls d H' => W cls d σ H'
/-- raise x(e) -/
theorem ps_err {a : Expr} {ta : TA} {W : WX} {p pos pos2 : Pos} {k : Nat} (hc : X.calm = true) (T : ErrTxt X.K X.mg B x C) (U : InitTxt X.K qn f C i) (hr : Room k X.A) (tk : Takes X W) (ha : PA X [a] ta) (hg : Gl X x := by rfl) (hdb : (x == ("__debug__" : Str)) = false := by decide)
    (he : starEach (a :: []) X.env = (false, eval a X.env) :: starEach [] X.env := by rfl) (hpl : (backTo pos (starEach [] X.env)).any (·.1) = false := by rfl) :
    PS X (.Raise (some (.Call (.Name x p) [a] [] pos)) none pos2) (tRaise C f W ta) := ps_raise hc tk (pmk_err T U hr ha hg hdb he hpl)
/-- x() where no class over it has an __init__ of the program -/
theorem pmk_bare {bmB : List Value} {Bn newId initId : String} {p pos : Pos} (F : ExcBaseFacts Bn newId initId bmB) (q : PySem.W.excIn X.K C bmB newId = true) (gC : X.mg x = some (.ref C)) (kC : PySem.W.keepIn X.K (.ref C) = true) (r : Raises X (.ref C)) (hg : Gl X x := by rfl)
    (hdb : (x == ("__debug__" : Str)) = false := by decide) : PMk X (.Call (.Name x p) [] [] pos) (fun _ H Q => Q (.ref C) none H) := fun pins s σ H Q I h => by
  refine wpAny_Call_Name_kw (ld_glob I hg gC ?_ hdb)
  refine PySem.W.callWith_K0 (K := X.K) (Inv.kIn (I.tok _)) kC ?_
  show wpAny _ _ (call (.ref C) []) _ _ _
  obtain ⟨bm, N, nm, qn, bs, hdct, sn, sub, ab, col, dd, k0, k1, k2, k3, k5, mN, hC, hN, hni, T⟩ := exc_obj I.kIn q
  refine wpAny_call_exc_subT F T hC hN hni (fun h' e hm => ?_) (by show 0 ≤ sizeLine; exact Nat.zero_le _)
  exact mk_of (I.tok _) hm r h (I.hok.gone hm.new)
/-- x(f=e).f: the error is dropped -/
theorem pe_kwfield {e : Expr} {kp p2 p3 pos : Pos} {te : TE} {k : Nat} (T : ErrTxt X.K X.mg B x C) (U : InitTxt X.K qn f C i) (hr : Room k X.A) (he : PE X e te) (hg : Gl X x := by rfl) (hdb : (x == ("__debug__" : Str)) = false := by decide)
    (hb : attributeBase (.Call (.Name x p2) [] [{ arg := some f, value := e, pos := kp }] p3) f X.env (eval (.Call (.Name x p2) [] [{ arg := some f, value := e, pos := kp }] p3) X.env) = eval (.Call (.Name x p2) [] [{ arg := some f, value := e, pos := kp }] p3) X.env := by rfl) :
    PE X (.Attribute (.Call (.Name x p2) [] [{ arg := some f, value := e, pos := kp }] p3) f pos) te := by
  refine ⟨fun pins s σ H Q I h => attr_of hb ?_⟩
  refine wpAny_Call_Name_kw (ld_glob I hg T.gC ?_ hdb)
  refine PySem.W.callWith_KW0 (K := X.K) (h₀ := X.base) I.ok.mod.kin T.kC rfl ?_ rfl
  let Q1 : List V → Hp → Prop := fun vs H1 => match vs with
    | v :: _ => Q v H1
    | [] => False
  refine thn ((pk_cons (nm := some f) (kpos := kp) he pk_nil).run p3 pins _ σ H Q1 (I.tok _) h) fun us s1 hh => ?_
  obtain ⟨vs, H1, I1, r1, q1⟩ := hh
  cases r1 with
  | nil => exact q1.elim
  | @cons v u _ us' rv rn =>
    refine ⟨I1.kIn, ?_⟩
    show wpAny _ _ (call (.ref C) [] [(f, u)]) _ _ _
    refine wpAny_call (made_kw T U I1.kIn I1.nolimit (by have := hr.dp; omega) fun h' tk' e d M => ?_)
    obtain ⟨oe, fv, hoe, hc, hd, hdat, h1⟩ := M.it
    obtain ⟨od, ho, hl⟩ := lookIn_ns M.has
    have J : PySem.W.InstAt h' e oe C (some od) := ⟨hoe, hc, by unfold PySem.W.notCls; rw [hdat] <;> rfl, by rw [hd]; exact ho⟩
    refine HandSPX.exc_get (s := { s1 with heap := h', toks := tk' }) (I1.kIn.keeps M.stay) J U.ga U.gg T.sub (v := u) (PySem.W.findObj_own T.dict U.noF rfl (by rw [hl, if_pos rfl])) (handed_of rv) ?_
    exact ⟨v, H1, (I1.kept M.stay), rv, q1⟩
/-- what e.f reads off an error at a that a suite holds -/
def tFld (C : Addr) (f : Str) (a : Addr) (cls : Value) (d : Option Addr) (te : TE) : TE := fun σ H Q => te σ H fun z H1 => z = .ref a ∧ cls = .ref C ∧ ∃ (dd : Addr) (v : V), d = some dd ∧ H1 dd = some (.xd [(f, v)]) ∧ Q v H1
theorem pe_errfield {a : Addr} {oe : Obj} {cls : Value} {d : Option Addr} {pn : List (Addr × Obj)} {e : Expr} {te : TE} {pos : Pos} (T : ErrTxt X.K X.mg B x C) (U : InitTxt X.K qn f C i) (hz : Zc cls d oe) (hf : ∃ vs, oe.data = .fields vs) (he : PE (X.suite a ((a, oe) :: pn)) e te)
    (hb : attributeBase e f X.env (eval e X.env) = eval e X.env := by rfl) : PE (X.suite a ((a, oe) :: pn)) (.Attribute e f pos) (tFld C f a cls d te) := by
  refine ⟨fun pins s σ H Q I h => attr_of hb (thn (he.run pins s σ H _ I h) fun u s1 hh => ?_)⟩
  obtain ⟨z, H1, I1, rz, ez, ec, dd, v, ed, ea, q⟩ := hh
  subst ez ec ed
  obtain rfl : u = Value.ref a := rz
  obtain ⟨at_a, _⟩ := I1.pin (a, oe) (List.mem_append_left _ List.mem_cons_self)
  obtain ⟨vs, hd⟩ := hf
  obtain ⟨mA, hns, hrel⟩ : ObjOk X.prog X.w H1 s1.heap dd (.xd [(f, v)]) := I1.hok dd _ ea
  obtain ⟨od, ho, hl⟩ := lookIn_ns hns
  obtain ⟨w', hw, rw'⟩ := RelO.some_of (v := v) (o := mA f) (by
    have q := hrel f
    simpa [List.lookup] using q)
  have J : PySem.W.InstAt s1.heap a oe C (some od) := ⟨at_a, hz.1, by unfold PySem.W.notCls; rw [hd] <;> rfl, by rw [hz.2]; exact ho⟩
  exact HandSPX.exc_get I1.kIn J U.ga U.gg T.sub (PySem.W.findObj_own T.dict U.noF rfl (by rw [hl, hw])) (handed_of rw') ⟨v, H1, I1.tok _, rw', q⟩
end
end FX
/-! try: .. with several clauses, each with a name for the error or without one. -/
namespace FX
open PySem PySem.Spec PyProof.Rows L2
/-- a suite: the error's address, class, dict; then as a statement -/
abbrev Su := Addr → Value → Option Addr → TS
/-- behind a suite the slot i of the error's name is empty -/
def gone (i : Nat) (D : Ends) : Ends := { nx := fun σ H => D.nx (σ.set i none) H, rt := D.rt, bk := fun σ H => D.bk (σ.set i none) H, ct := fun σ H => D.ct (σ.set i none) H }
/-- what the clauses wish of the body's error; a clause: the class, the name's slot, the suite -/
def wCl (K : PySem.W.Frag) (Wout : WX) (D : Ends) : List (Value × Option Nat × Su) → WX
  | [] => Wout
  | (c, none, t) :: r => fun cls d σ H => ∃ y, PySem.W.exmOne K cls c = some y ∧ (y = true → ∀ a, H a = none → t a cls d D σ H) ∧ (y = false → wCl K Wout D r cls d σ H)
  | (c, some i, t) :: r => fun cls d σ H => ∃ y, PySem.W.exmOne K cls c = some y ∧ (y = true → ∀ a, H a = none → t a cls d (gone i D) (σ.set i (some (.ref a))) H) ∧ (y = false → wCl K Wout D r cls d σ H)
/-- the clauses' suites as terms of rules -/
inductive Cl (X : Cx) : List ExceptHandler → List (Value × Option Nat × Su) → Prop
  | nil : Cl X [] []
  | bare {x : Str} {c : Value} {t : Su} {b₀ : Stmt} {more : List Stmt} {np pos : Pos} {hds : List ExceptHandler} {l : List (Value × Option Nat × Su)} (hc : Names X x c)
      (hs : ∀ (a : Addr) (oe : Obj) (cls : Value) (d : Option Addr) (pn : List (Addr × Obj)), Zc cls d oe → (∃ vs, oe.data = .fields vs) → PSs (X.suite a ((a, oe) :: pn)) (b₀ :: more) (t a cls d)) (r : Cl X hds l) :
      Cl X (.ExceptHandler (some (.Name x np)) none (b₀ :: more) pos :: hds) ((c, none, t) :: l)
  | named {x n : Str} {i : Nat} {c : Value} {t : Su} {b₀ : Stmt} {more : List Stmt} {np pos : Pos} {hds : List ExceptHandler} {l : List (Value × Option Nat × Su)} (hi : X.N[i]? = some n) (hln : X.env.kindOf n = some .local) (hc : Names X x c)
      (hs : ∀ (a : Addr) (oe : Obj) (cls : Value) (d : Option Addr) (pn : List (Addr × Obj)), Zc cls d oe → (∃ vs, oe.data = .fields vs) → PSs (X.suite a ((a, oe) :: pn)) (b₀ :: more) (t a cls d)) (r : Cl X hds l) :
      Cl X (.ExceptHandler (some (.Name x np)) (some n) (b₀ :: more) pos :: hds) ((c, some i, t) :: l)
section
variable {X : Cx} {pins pins' : List (Addr × Obj)} {σ : L2.St} {H : Hp} {D : Ends} {Wout : WX} {a : Addr} {B : Heap} {sI s' : Shared} {cls : Value} {d : Option Addr}
/-- what is known when the clauses are asked -/
structure Asked (X : Cx) (pins : List (Addr × Obj)) (σ : L2.St) (H : Hp) (a : Addr) (B : Heap) (sI s' : Shared) (cls : Value) (d : Option Addr) (h3 : Heap) : Prop where
  J : Inv X pins σ H sI
  nb : ∀ b o, sI.heap.get? b = some o → b ∉ frs X.stack → B.get? b = some o
  up : sI.heap.UpToSlots h3
  fl : HandSPX.FlyingZ B (X.env :: X.outer) a (Zc cls d) h3
  na : H a = none
  os : s'.os = sI.os
  ag : AllBare s'.gens
theorem Asked.far (Z : Asked X pins σ H a B sI s' cls d h3) {h : Heap} {o : Obj} {vs : Array Value} (ff : h.FunFrames B (X.env :: X.outer)) (e : h.get? a = some o) (dd : o.data = .fields vs) : a ∉ frs (X.env :: X.outer) := fun hm => by
  obtain ⟨_, o', e', hnf⟩ := ff.mem hm
  rw [e] at e'
  cases e'
  exact hnf _ dd
theorem Asked.notL (Z : Asked X pins σ H a B sI s' cls d h3) (hf : X.env.frame = some X.env.locals) : a ≠ X.env.locals ∧ a ∉ X.fs := by
  obtain ⟨oe, vs, he, hz, hd⟩ := Z.fl.there
  have nfr := Z.far Z.fl.2.2.1 he hd
  refine ⟨fun z => nfr (List.mem_filterMap.mpr ⟨X.env, List.mem_cons_self, by rw [hf, z]⟩), fun hm => ?_⟩
  obtain ⟨e, q1, q2⟩ := List.mem_filterMap.mp hm
  exact nfr (List.mem_filterMap.mpr ⟨e, List.mem_cons_of_mem _ q1, q2⟩)
/-- the clauses, one behind another -/
theorem clauses (ok : X.Ok) (hs : X.stack = X.env :: X.outer) (hf : X.env.frame = some X.env.locals) (hN : X.N.Nodup) (tk : Takes X Wout) {h3 : Heap} (Z : Asked X pins σ H a B sI s' cls d h3) :
    ∀ {hds : List ExceptHandler} {l : List (Value × Option Nat × Su)}, Cl X hds l → wCl X.K Wout D l cls d σ H → wpAny (model X.prog X.w) X.A (handleBy (.ref a) X.env hds) (SP X pins D) X.xe { s' with heap := h3 } := by
  obtain ⟨nL, nF⟩ := Z.notL hf
  obtain ⟨oe3, vs3, he3, hz3, hd3⟩ := Z.fl.there
  have S3 := (Z.J.landed Z.nb Z.fl.1 (s' := { s' with heap := h3 }) Z.up Z.os Z.ag).suite he3 hd3 Z.na nL nF
  have kin : X.K.In h3 := (Z.J.landed Z.nb Z.fl.1 (s' := { s' with heap := h3 }) Z.up Z.os Z.ag).kIn
  have ask : ∀ {x : Str} {np : Pos} {c : Value} {Q : Value → Shared → Prop} {E : Value → Shared → Prop}, Names X x c → Q c { s' with heap := h3 } → wpAny (model X.prog X.w) (X.A.mark (some (.ref a))) (eval (.Name x np) X.env) Q E { s' with heap := h3 } := fun {x np c Q E} hc q => by
    obtain ⟨hg, hdbg, hm | ⟨hm, hv, hnn⟩⟩ := hc
    · exact ld_glob (X := X.suite a ((a, oe3) :: (X.pn ++ pins))) S3 hg hm q hdbg
    · exact ld_blt (X := X.suite a ((a, oe3) :: (X.pn ++ pins))) S3 hg hm hv q hnn hdbg
  have fits : ∀ {c : Value} {y : Bool}, PySem.W.exmOne X.K cls c = some y → PySem.W.Looks (model X.prog X.w) h3 (excMatches (.ref a) c) y := fun e =>
    PySem.W.exm_one (M := model X.prog X.w) kin (fun A Q E s k q => wpAny_typeOf_ref (k _ _ he3) (by rw [hz3.1]; exact q)) e
  intro hds l hk
  induction hk with
  | nil =>
    intro w
    refine wpAny_handleBy_nil ?_
    obtain ⟨k1, k2, k3, oe, vs, T, oT, ts', he, hz, hd, h1, hr⟩ := id Z.fl
    have fin : wpAny (model X.prog X.w) X.A (setFlight (.ref a) X.env.frame) (fun _ s4 => wpAny (model X.prog X.w) X.A (throw (.ref a) : Sem Flow) (SP X pins D) X.xe s4) X.xe { s' with heap := h3 } := by
      rw [hf]
      refine HandSPX.setFlight_upZ Z.fl fun h4 hh4 up4 => wpAny_throw (tk _ _ ?_)
      exact ⟨a, B, sI, pins, σ, H, cls, d, rfl, Z.J, Z.nb, Z.up.trans up4, .inr (.inr (by rw [hs]; exact hh4)), Z.na, Z.os, Z.ag, w⟩
    unfold PySem.passOn
    refine wpAny_bind (wpAny_field he hd h1 ?_)
    rw [if_neg (show ¬ ((Value.ref T == Value.none) = true) from by simp)]
    first
      | exact wpAny_bind (wpAny_pure (wpAny_bind fin))
      | exact wpAny_bind fin
  | @bare x c t b₀ more np pos hds2 l2 hc hsu r ih =>
    intro ⟨y, e, yes, no⟩
    refine wpAny_handleBy_cons (codeAny_handlers_test (ask hc ((fits e).here ?_))) (by intro q; cases q)
    cases y with
    | false => exact ih (no rfl)
    | true =>
      refine codeAny_handlers_suite (HandSPX.lands_againZ Z.fl fun h4 fl4 up4 => ?_)
      have J4 : Inv X pins σ H { s' with heap := h4 } := Z.J.landed Z.nb fl4.1 (Z.up.trans up4) Z.os Z.ag
      obtain ⟨oe4, vs4, he4, hz4, hd4⟩ := fl4.there
      refine wpAny_mono ((hsu a oe4 cls d (X.pn ++ pins) hz4 ⟨_, hd4⟩).run [] _ _ H _ (J4.suite he4 hd4 Z.na nL nF) (yes rfl a Z.na)) (fun f s6 hsp => ?_) (fun _ _ z => False.elim z)
      cases f with
      | ret u =>
        obtain ⟨v6, σ6, H6, S6, r6, q6⟩ := hsp
        exact ⟨_, _, _, S6.unsuite ok, r6, q6⟩
      | next | brk | cont =>
        obtain ⟨σ6, H6, S6, q6⟩ := hsp
        exact ⟨_, _, S6.unsuite ok, q6⟩
  | @named x n i c t b₀ more np pos hds2 l2 hi hln hc hsu r ih =>
    intro ⟨y, e, yes, no⟩
    refine wpAny_handleBy_cons (codeAny_handlers_test (ask hc ((fits e).here ?_))) (by intro q; cases q)
    cases y with
    | false => exact ih (no rfl)
    | true =>
      refine codeAny_handlers_suite_as (HandSPX.lands_againZ Z.fl fun h4 fl4 up4 => ?_)
      have J4 : Inv X pins σ H { s' with heap := h4 } := Z.J.landed Z.nb fl4.1 (Z.up.trans up4) Z.os Z.ag
      obtain ⟨oe4, vs4, he4, hz4, hd4⟩ := fl4.there
      refine store_ok (X := X.suite a ((a, oe4) :: (X.pn ++ pins))) (v := .ref a) (J4.suite he4 hd4 Z.na nL nF) hN hi (.inl hln) rfl (fun s5 S5 => ?_) (.inr hln)
      refine wpAny_mono ((hsu a oe4 cls d (X.pn ++ pins) hz4 ⟨_, hd4⟩).run [] s5 _ H _ S5 (yes rfl a Z.na)) (fun f s6 hsp => ?_) (fun _ _ z => False.elim z)
      cases f with
      | ret u =>
        obtain ⟨v6, σ6, H6, S6, r6, q6⟩ := hsp
        exact gone_ok (S6.unsuite ok) hN hi hln fun s7 J7 => ⟨_, _, _, J7, r6, q6⟩
      | next | brk | cont =>
        obtain ⟨σ6, H6, S6, q6⟩ := hsp
        exact gone_ok (S6.unsuite ok) hN hi hln fun s7 J7 => ⟨_, _, J7, q6⟩
end
/-- try: body, the clauses -/
theorem ps_tryCl {X : Cx} {body : List Stmt} {h₀ : ExceptHandler} {hds : List ExceptHandler} {l : List (Value × Option Nat × Su)} {pos : Pos} {tb : WX → TS} {Wout : WX} (hs : X.stack = X.env :: X.outer) (hf : X.env.frame = some X.env.locals) (hN : X.N.Nodup) (tk : Takes X Wout)
    (hb : ∀ (W : WX) (pn : List (Addr × Obj)) (xe : Value → Shared → Prop), Takes (X.tr pn xe) W → PassesOwn (model X.prog X.w) X.A X.env xe → PSs (X.tr pn xe) body (tb W)) (hh : Cl X (h₀ :: hds) l) :
    PS X (.Try body (h₀ :: hds) [] [] pos) (fun D σ H => tb (wCl X.K Wout D l) D σ H) := by
  refine ⟨fun pins s σ H D I h => ?_⟩
  have ok := I.ok
  have hfr : X.A.frames = some (X.env :: X.outer) := by rw [ok.frames, hs]
  refine wpAny_Try_except (wpAny_mono ((hb (wCl X.K Wout D l) (X.pn ++ pins) (fun e s1 => wpAny (model X.prog X.w) X.A (noteFrame e X.env) (fun _ s2 => wpAny (model X.prog X.w) X.A (setFlight e none) (fun _ s3 =>
    wpAny (model X.prog X.w) X.A (handleBy e X.env (h₀ :: hds)) (SP X pins D) X.xe s3) X.xe s2) X.xe s1) (fun u s' xx => ?_) PassesOwn.looking).run [] s σ H D (I.toTry _) h) (fun f s1 hsp => ?_) fun e s1 he => he)
  · obtain ⟨a, B, sI, pins', σ', H', cls, d, rfl, J', nb, up, sky, na, os, ag, w⟩ := xx
    have sky' : Sky B (X.env :: X.outer) a (Zc cls d) X.env.locals s'.heap := by rw [← hs]; exact sky
    exact Sky.land Zc.steady hfr hf sky' fun h3 fl3 up3 => clauses ok hs hf hN tk ⟨J'.ofTry ok, nb, up.trans up3, fl3, na, os, ag⟩ hh w
  · cases f with
    | next =>
      obtain ⟨σ', H', J', q⟩ := hsp
      exact wpAny_execs_nil ⟨σ', H', J'.ofTry ok, q⟩
    | ret u =>
      obtain ⟨v, σ', H', J', r, q⟩ := hsp
      exact ⟨v, σ', H', J'.ofTry ok, r, q⟩
    | brk | cont =>
      obtain ⟨σ', H', J', q⟩ := hsp
      exact ⟨σ', H', J'.ofTry ok, q⟩
end FX
namespace FX
open PySem PySem.Spec PyProof.Rows L2
theorem go_t {y : Bool} {A D : Prop} (h : y = true) (k : A) : if y = true then A else D := by
  rw [if_pos h]
  exact k
theorem go_f {y : Bool} {A D : Prop} (h : y = false) (k : D) : if y = true then A else D := by
  rw [if_neg (by rw [h]; decide)]
  exact k
/-- clauses told by numbers, each with a name for the error at the slot i -/
def byNo (C : Nat → Addr) (i : Nat) (su : Nat → Su) (js : List Nat) : List (Value × Option Nat × Su) := js.map fun j => (.ref (C j), some i, su j)
variable {K : PySem.W.Frag} {Wout : WX} {D : Ends} {C : Nat → Addr} {i n : Nat} {su : Nat → Su} {d : Option Addr} {σ : L2.St} {H : Hp} {l : List (Value × Option Nat × Su)}
theorem wCl_past (hno : ∀ j, j < 25 → j ≠ n → PySem.W.exmOne K (.ref (C n)) (.ref (C j)) = some false) (w : wCl K Wout D l (.ref (C n)) d σ H) :
    ∀ {js : List Nat}, (∀ j ∈ js, j < 25 ∧ j ≠ n) → wCl K Wout D (byNo C i su js ++ l) (.ref (C n)) d σ H
  | [], _ => w
  | j :: js, h => ⟨false, hno j (h j (List.mem_cons_self ..)).1 (h j (List.mem_cons_self ..)).2, fun z => (nomatch z), fun _ => wCl_past hno w fun y hy => h y (List.mem_cons_of_mem _ hy)⟩
theorem wCl_hit (hno : ∀ j, j < 25 → j ≠ n → PySem.W.exmOne K (.ref (C n)) (.ref (C j)) = some false) (hyes : PySem.W.exmOne K (.ref (C n)) (.ref (C n)) = some true)
    (w : ∀ a, H a = none → su n a (.ref (C n)) d (gone i D) (σ.set i (some (.ref a))) H) :
    ∀ {js : List Nat}, (∀ j ∈ js, j < 25) → n ∈ js → wCl K Wout D (byNo C i su js ++ l) (.ref (C n)) d σ H
  | [], _, h => by cases h
  | j :: js, h, hn => by
    by_cases e : j = n
    · subst e
      exact ⟨true, hyes, fun _ => w, fun z => (nomatch z)⟩
    · refine ⟨false, hno j (h j (List.mem_cons_self ..)) e, fun z => (nomatch z), fun _ => ?_⟩
      refine wCl_hit hno hyes w (fun y hy => h y (List.mem_cons_of_mem _ hy)) ?_
      rcases List.mem_cons.mp hn with q | q
      · exact absurd q.symm e
      · exact q
end FX
/-! The predicates over any value, told by data. -/
namespace K01
open PySem L2 FX
def top (i : Nat) : Stmt := PySem.Challenge.pw_foldsall_k01_whole_operations_held_and_s.main.body.getD i (.Pass ⟨0, 0, 0, 0⟩)
/-- a def of the module -/
structure At (K : PySem.W.Frag) (mg : Str → Option Value) (x : Str) (st : Stmt) (f : Addr) (fd : FuncData) (ps : List Str) : Prop where
  F : Fun K x x st f fd
  g : mg x = some (.ref f)
  b : Binds K fd ps []
/-- the built-ins' names are free -/
structure Bi (mg : Str → Option Value) : Prop where
  int : mg "int" = none
  bool : mg "bool" = none
  list : mg "list" = none
  tuple : mg "tuple" = none
  isinstance : mg "isinstance" = none
  len : mg "len" = none
  range : mg "range" = none
  zip : mg "zip" = none
  all : mg "all" = none
  enumerate : mg "enumerate" = none
  abs : mg "abs" = none
  max : mg "max" = none
  min : mg "min" = none
  set : mg "set" = none
  repr : mg "repr" = none
/-! ### data -/
abbrev D := PyData
def tyN : D → String
  | .none => "NoneType" | .bool _ => "bool" | .int _ => "int" | .str _ => "str" | .list _ => "list" | .tuple _ => "tuple" | .dict _ => "dict"
theorem ty_data {K : PySem.W.Frag} {H : Hp} {v : V} {d : D} (h : Dp K H v d) : TyX K H v (.type (tyN d)) := by
  cases h with
  | non => exact .base .non
  | bl b => exact .base (.bl b)
  | int i => exact .base (.int i)
  | str x => exact .base (.str x)
  | lst q _ =>
    rcases q with (q | ⟨o, q⟩) | ⟨o, its, n, q, c, _⟩
    · exact .base (.lst q)
    · exact .base (.frz q)
    · exact .kList q c
  | tup q _ =>
    rcases q with (q | ⟨o, q⟩) | ⟨o, its, n, q, c, _⟩
    · exact .base (.tup q)
    · exact .fTuple q
    · exact .kTuple q c
def isI : D → Bool | .int _ => true | _ => false
def isSq : D → Bool | .list _ => true | .tuple _ => true | _ => false
def items : D → List D | .list xs => xs | .tuple xs => xs | _ => []
def intV : D → Int | .int i => i | _ => 0
/-- one value, a bool comes back -/
def spB (K : PySem.W.Frag) (f : D → Bool) : Sp := fun vs H Q _ => ∃ v d, vs = [v] ∧ Dp K H v d ∧ ∀ H', Same H H' → Q (.bl (f d)) H'
section
variable {P : Program} {w : World} {K : PySem.W.Frag} {mg : Str → Option Value} {base : Heap}
abbrev sInteger : Stmt := top 1
theorem kInt {K : PySem.W.Frag} : ∀ d : D, PySem.W.kitOne K (.type (tyN d)) (.type "int") = some (match d with | .int _ => true | .bool _ => true | _ => false) := fun d => by
  cases d <;> (refine kit_ty ?_; dsimp only [tyN]; decide +kernel)
theorem kBool {K : PySem.W.Frag} : ∀ d : D, PySem.W.kitOne K (.type (tyN d)) (.type "bool") = some (match d with | .bool _ => true | _ => false) := fun d => by
  cases d <;> (refine kit_ty ?_; dsimp only [tyN]; decide +kernel)
theorem kList {K : PySem.W.Frag} : ∀ d : D, PySem.W.kitOne K (.type (tyN d)) (.type "list") = some (match d with | .list _ => true | _ => false) := fun d => by
  cases d <;> (refine kit_ty ?_; dsimp only [tyN]; decide +kernel)
theorem kTuple {K : PySem.W.Frag} : ∀ d : D, PySem.W.kitOne K (.type (tyN d)) (.type "tuple") = some (match d with | .tuple _ => true | _ => false) := fun d => by
  cases d <;> (refine kit_ty ?_; dsimp only [tyN]; decide +kernel)
theorem scInteger : FnScope ["value"] ["value"] (defScope sInteger) := ⟨rfl, rfl, rfl, by decide +kernel, rfl, by decide +kernel, by decide +kernel⟩
theorem ok_integer {f : Addr} {fd : FuncData} (F : Fun K "is_integer" "is_integer" sInteger f fd) (Z : Bi mg) : FnOk P w K mg base CX0 1 f fd ["value"] (spB K isI) := by
  refine F.ok scInteger (fun vs H Q E h => ?_) (fun cdv A outer s H vs Q E hr h => ?_)
  · obtain ⟨v, d, rfl, _⟩ := h
    rfl
  · obtain ⟨v, d, rfl, hd, k⟩ := h
    have k' : Q (.bl (isI d)) H := k H (Same.refl H)
    refine ⟨_, pss_one (ps_ret (pe_and (pe_callB call_isi (by rfl) Z.isinstance (by decide +kernel) (pa_cons (pv 0) (pa_cons (pe_bltn (v := .ty "int") (by rfl) Z.int (by decide +kernel) rfl) pa_nil)))
      (pe_one (pe_not (pe_callB call_isi (by rfl) Z.isinstance (by decide +kernel) (pa_cons (pv 0) (pa_cons (pe_bltn (v := .ty "bool") (by rfl) Z.bool (by decide +kernel) rfl) pa_nil))))))), ?_⟩
    refine ⟨_, rfl, v, _, _, _, _, rfl, .ty "int", ty_data hd, kInt d, _, rfl, ?_⟩
    cases d with
    | int i => refine iteT ⟨_, rfl, v, _, _, _, _, rfl, .ty "bool", ty_data hd, kBool (.int i), _, rfl, k'⟩
    | bool b => refine iteT ⟨_, rfl, v, _, _, _, _, rfl, .ty "bool", ty_data hd, kBool (.bool b), _, rfl, k'⟩
    | none | str _ | list _ | tuple _ | dict _ => exact iteF k'
end
end K01
namespace K01
open PySem L2 FX
theorem seqT {K : PySem.W.Frag} {H H' : Hp} {a : Addr} {xs : List V} (e : Same H H') (h : SqT K H a xs) : SqT K H' a xs := by
  rcases h with (h | ⟨o, h⟩) | h
  · exact .inl (.inl (e _ _ h))
  · exact .inl (.inr ⟨o, e _ _ h⟩)
  · exact .inr h
mutual
theorem dp_same {K : PySem.W.Frag} {H H' : Hp} (s : Same H H') : ∀ {v : V} {d : D}, Dp K H v d → Dp K H' v d
  | _, _, .non => .non
  | _, _, .bl b => .bl b
  | _, _, .int i => .int i
  | _, _, .str x => .str x
  | _, _, .lst q r => .lst (s.seq q) (dpAll_same s r)
  | _, _, .tup q r => .tup (seqT s q) (dpAll_same s r)
theorem dpAll_same {K : PySem.W.Frag} {H H' : Hp} (s : Same H H') : ∀ {vs : List V} {ds : List D}, DpAll K H vs ds → DpAll K H' vs ds
  | _, _, .nil => .nil
  | _, _, .cons h r => .cons (dp_same s h) (dpAll_same s r)
end
theorem dpAll_len {K : PySem.W.Frag} {H : Hp} : ∀ {vs : List V} {ds : List D}, DpAll K H vs ds → vs.length = ds.length
  | _, _, .nil => rfl
  | _, _, .cons _ r => congrArg Nat.succ (dpAll_len r)
theorem dpAll_at {K : PySem.W.Frag} {H : Hp} : ∀ {vs : List V} {ds : List D} {i : Nat} {d : D}, DpAll K H vs ds → ds[i]? = some d → ∃ v, vs[i]? = some v ∧ Dp K H v d
  | _, _, _, _, .nil, e => by simp at e
  | _, _, 0, _, .cons h _, e => by
    simp at e
    subst e
    exact ⟨_, rfl, h⟩
  | _, _, i + 1, _, .cons _ r, e => by
    obtain ⟨v, h1, h2⟩ := dpAll_at (i := i) r (by simpa using e)
    exact ⟨v, by simpa using h1, h2⟩
/-- a list or a tuple, told by its things -/
theorem dp_seq {K : PySem.W.Frag} {H : Hp} {v : V} {d : D} (h : Dp K H v d) (hs : isSq d = true) : ∃ a xs, v = .ref a ∧ (SqL K H a xs ∨ SqT K H a xs) ∧ DpAll K H xs (items d) := by
  cases h with
  | non => cases hs
  | bl b => cases hs
  | int i => cases hs
  | str x => cases hs
  | lst q r => exact ⟨_, _, rfl, .inl q, r⟩
  | tup q r => exact ⟨_, _, rfl, .inr q, r⟩
theorem dp_int {K : PySem.W.Frag} {H : Hp} {v : V} {d : D} (h : Dp K H v d) (hs : isI d = true) : ∃ i, v = .int i ∧ d = .int i := by
  cases h with
  | int i => exact ⟨i, rfl, rfl⟩
  | non => cases hs
  | bl b => cases hs
  | str x => cases hs
  | lst q r => cases hs
  | tup q r => cases hs
section
variable {P : Program} {w : World} {K : PySem.W.Frag} {mg : Str → Option Value} {base : Heap}
abbrev sNumber : Stmt := top 2
abbrev sBelow : Stmt := top 3
abbrev sBetween : Stmt := top 4
abbrev sSequence : Stmt := top 5
abbrev sRowOf : Stmt := top 6
abbrev sPower : Stmt := top 7
def isN (d : D) : Bool := isI d && decide (0 ≤ intV d)
def isB (m : Int) (d : D) : Bool := isN d && decide (intV d < m)
def isBt (a b : Int) (d : D) : Bool := isI d && (decide (a ≤ intV d) && decide (intV d ≤ b))
def isRow (m : Int) (d : D) : Bool := isSq d && decide (((items d).length : Int) = m)
def spB1 (K : PySem.W.Frag) (f : Int → D → Bool) : Sp := fun vs H Q _ => ∃ m v d, vs = [.int m, v] ∧ Dp K H v d ∧ ∀ H', Same H H' → Q (.bl (f m d)) H'
def spB2 (K : PySem.W.Frag) (f : Int → Int → D → Bool) : Sp := fun vs H Q _ => ∃ m n v d, vs = [.int m, .int n, v] ∧ Dp K H v d ∧ ∀ H', Same H H' → Q (.bl (f m n d)) H'
theorem and_t {a b : Bool} (h : a = true) : (a && b) = b := by rw [h]; rfl
theorem and_f {a b : Bool} (h : a = false) : (a && b) = false := by rw [h]; rfl
theorem scNumber : FnScope ["value"] ["value"] (defScope sNumber) := ⟨rfl, rfl, rfl, by decide +kernel, rfl, by decide +kernel, by decide +kernel⟩
theorem ok_number {f fI : Addr} {fd fdI : FuncData} (F : Fun K "is_number" "is_number" sNumber f fd) (Z : Bi mg) (FI : At K mg "is_integer" sInteger fI fdI ["value"]) : FnOk P w K mg base CX0 2 f fd ["value"] (spB K isN) := by
  have GI : FnOk P w K mg base CX0 1 fI fdI ["value"] (spB K isI) := ok_integer FI.F Z
  refine F.ok scNumber (fun vs H Q E h => ?_) (fun cdv A outer s H vs Q E hr h => ?_)
  · obtain ⟨v, d, rfl, _⟩ := h
    rfl
  · obtain ⟨v, d, rfl, hd, k⟩ := h
    refine ⟨_, pss_one (ps_ret (pe_and (pe_call GI hr rfl FI.g FI.F.kp FI.b .nil pass0 (by exact (pa_cons (pv 0) pa_nil))) (pe_one (pe_cmpR op_ge (pv 0) pe_int (nomark _))))), ?_⟩
    refine ⟨_, rfl, v, d, rfl, hd, fun H1 s1 => ⟨_, rfl, ?_⟩⟩
    have kk := k H1 s1
    by_cases hi : isI d = true
    · refine go_t hi ?_
      obtain ⟨i, rfl, rfl⟩ := dp_int hd hi
      exact ⟨_, rfl, _, _, rfl, rfl, kk⟩
    · have hi' : isI d = false := by simpa using hi
      refine go_f hi' ?_
      rw [show isN d = false from and_f hi'] at kk
      exact kk
theorem scBelow : FnScope ["many", "value"] ["many", "value"] (defScope sBelow) := ⟨rfl, rfl, rfl, by decide +kernel, rfl, by decide +kernel, by decide +kernel⟩
theorem ok_below {f fN : Addr} {fd fdN : FuncData} (F : Fun K "is_below" "is_below" sBelow f fd) (FN : At K mg "is_number" sNumber fN fdN ["value"]) (GN : FnOk P w K mg base CX0 2 fN fdN ["value"] (spB K isN)) :
    FnOk P w K mg base CX0 3 f fd ["many", "value"] (spB1 K isB) := by
  refine F.ok scBelow (fun vs H Q E h => ?_) (fun cdv A outer s H vs Q E hr h => ?_)
  · obtain ⟨m, v, d, rfl, _⟩ := h
    rfl
  · obtain ⟨m, v, d, rfl, hd, k⟩ := h
    refine ⟨_, pss_one (ps_ret (pe_and (pe_call GN hr rfl FN.g FN.F.kp FN.b .nil pass0 (by exact (pa_cons (pv 1) pa_nil))) (pe_one (pe_cmpR op_lt (pv 1) (pv 0) (nomark _))))), ?_⟩
    refine ⟨_, rfl, v, d, rfl, hd, fun H1 s1 => ⟨_, rfl, ?_⟩⟩
    have kk := k H1 s1
    by_cases hi : isN d = true
    · refine go_t hi ?_
      obtain ⟨i, rfl, rfl⟩ := dp_int hd (by
        unfold isN at hi
        simp only [Bool.and_eq_true] at hi
        exact hi.1)
      rw [show isB m (.int i) = decide (i < m) from and_t hi] at kk
      exact ⟨_, rfl, _, rfl, _, _, rfl, rfl, kk⟩
    · have hi' : isN d = false := by simpa using hi
      refine go_f hi' ?_
      rw [show isB m d = false from and_f hi'] at kk
      exact kk
theorem scBetween : FnScope ["least", "most", "value"] ["least", "most", "value"] (defScope sBetween) := ⟨rfl, rfl, rfl, by decide +kernel, rfl, by decide +kernel, by decide +kernel⟩
theorem ok_between {f fI : Addr} {fd fdI : FuncData} (F : Fun K "is_between" "is_between" sBetween f fd) (FI : At K mg "is_integer" sInteger fI fdI ["value"]) (GI : FnOk P w K mg base CX0 1 fI fdI ["value"] (spB K isI)) :
    FnOk P w K mg base CX0 2 f fd ["least", "most", "value"] (spB2 K isBt) := by
  refine F.ok scBetween (fun vs H Q E h => ?_) (fun cdv A outer s H vs Q E hr h => ?_)
  · obtain ⟨m, n, v, d, rfl, _⟩ := h
    rfl
  · obtain ⟨m, n, v, d, rfl, hd, k⟩ := h
    refine ⟨_, pss_one (ps_ret (pe_and (pe_call GI hr rfl FI.g FI.F.kp FI.b .nil pass0 (by exact (pa_cons (pv 2) pa_nil))) (pe_one (pe_chain op_le op_le (pv 0) (pv 2) (pv 1))))), ?_⟩
    refine ⟨_, rfl, v, d, rfl, hd, fun H1 s1 => ⟨_, rfl, ?_⟩⟩
    have kk := k H1 s1
    by_cases hi : isI d = true
    · refine go_t hi ?_
      obtain ⟨i, rfl, rfl⟩ := dp_int hd hi
      refine ⟨_, rfl, _, rfl, _, _, rfl, rfl, _, rfl, ?_⟩
      rw [show isBt m n (.int i) = (decide (m ≤ i) && decide (i ≤ n)) from rfl] at kk
      by_cases h1 : m ≤ i
      · refine go_t (decide_eq_true h1) ?_
        rw [and_t (decide_eq_true h1)] at kk
        exact ⟨_, rfl, _, _, rfl, rfl, kk⟩
      · refine go_f (decide_eq_false h1) ?_
        rw [and_f (decide_eq_false h1)] at kk
        exact kk
    · have hi' : isI d = false := by simpa using hi
      refine go_f hi' ?_
      rw [show isBt m n d = false from and_f hi'] at kk
      exact kk
theorem scSequence : FnScope ["value"] ["value"] (defScope sSequence) := ⟨rfl, rfl, rfl, by decide +kernel, rfl, by decide +kernel, by decide +kernel⟩
theorem kSq {K : PySem.W.Frag} (d : D) : PySem.W.kitAny K (.type (tyN d)) [.type "list", .type "tuple"] = some (isSq d) := by
  unfold PySem.W.kitAny PySem.W.kitAny PySem.W.kitAny
  rw [kList d, kTuple d]
  cases d <;> rfl
theorem ok_sequence {f : Addr} {fd : FuncData} (F : Fun K "is_sequence" "is_sequence" sSequence f fd) (Z : Bi mg) : FnOk P w K mg base CX0 1 f fd ["value"] (spB K isSq) := by
  refine F.ok scSequence (fun vs H Q E h => ?_) (fun cdv A outer s H vs Q E hr h => ?_)
  · obtain ⟨v, d, rfl, _⟩ := h
    rfl
  · obtain ⟨v, d, rfl, hd, k⟩ := h
    refine ⟨_, pss_one (ps_ret (pe_callB call_isiT (by rfl) Z.isinstance (by decide +kernel) (pa_cons (pv 0) (pa_cons (pe_tup (pa_cons (pe_bltn (v := .ty "list") (by rfl) Z.list (by decide +kernel) rfl) (pa_cons (pe_bltn (v := .ty "tuple") (by rfl) Z.tuple (by decide +kernel) rfl) pa_nil))) pa_nil)))), ?_⟩
    refine ⟨_, rfl, (by show 2 ≤ sizeLine; decide), fun t ht => ?_⟩
    have s1 : Same H (upd H t (.tup [.ty "list", .ty "tuple"])) := fun c o e => by
      rw [upd_ne (ne_of_none e ht)]
      exact e
    exact ⟨v, t, _, _, _, _, rfl, upd_same, .cons (.ty "list") (.cons (.ty "tuple") .nil), ty_data (dp_same s1 hd), kSq d, k _ s1⟩
theorem scRowOf : FnScope ["many", "value"] ["many", "value"] (defScope sRowOf) := ⟨rfl, rfl, rfl, by decide +kernel, rfl, by decide +kernel, by decide +kernel⟩
theorem ok_rowOf {f fS : Addr} {fd fdS : FuncData} (F : Fun K "is_row_of" "is_row_of" sRowOf f fd) (Z : Bi mg) (FS : At K mg "is_sequence" sSequence fS fdS ["value"]) (GS : FnOk P w K mg base CX0 1 fS fdS ["value"] (spB K isSq)) :
    FnOk P w K mg base CX0 2 f fd ["many", "value"] (spB1 K isRow) := by
  refine F.ok scRowOf (fun vs H Q E h => ?_) (fun cdv A outer s H vs Q E hr h => ?_)
  · obtain ⟨m, v, d, rfl, _⟩ := h
    rfl
  · obtain ⟨m, v, d, rfl, hd, k⟩ := h
    refine ⟨_, pss_one (ps_ret (pe_and (pe_call GS hr rfl FS.g FS.F.kp FS.b .nil pass0 (by exact (pa_cons (pv 1) pa_nil))) (pe_one (pe_cmpR op_eq (pe_callB call_len_seq (by rfl) Z.len PySem.boot_len (pa_cons (pv 1) pa_nil)) (pv 0) (nomark _))))), ?_⟩
    refine ⟨_, rfl, v, d, rfl, hd, fun H1 s1 => ⟨_, rfl, ?_⟩⟩
    have kk := k H1 s1
    by_cases hi : isSq d = true
    · refine go_t hi ?_
      obtain ⟨a, xs, rfl, q, r⟩ := dp_seq (dp_same s1 hd) hi
      rw [show isRow m d = decide (((items d).length : Int) = m) from and_t hi, ← dpAll_len r] at kk
      refine ⟨_, rfl, a, xs, rfl, q, _, rfl, rfl, ?_⟩
      rw [show decide (V.int xs.length = V.int m) = decide ((xs.length : Int) = m) from by
        by_cases e : (xs.length : Int) = m
        · rw [decide_eq_true e, decide_eq_true (congrArg V.int e)]
        · rw [decide_eq_false e, decide_eq_false fun z => e (V.int.inj z)]]
      exact kk
    · have hi' : isSq d = false := by simpa using hi
      refine go_f hi' ?_
      rw [show isRow m d = false from and_f hi'] at kk
      exact kk
def pow' (b : Int) : Nat → Int
  | 0 => 1
  | n + 1 => pow' b n * b
def spPower : Sp := fun vs H Q _ => ∃ (b : Int) (n : Nat), vs = [.int b, .int n] ∧ 0 ≤ b ∧ b < 100 ∧ n < 100 ∧ Q (.int (pow' b n)) H
theorem scPower : FnScope ["base", "times", "product_now", "_"] ["base", "times"] (defScope sPower) := ⟨rfl, rfl, rfl, by decide +kernel, rfl, by decide +kernel, by decide +kernel⟩
theorem ok_power {f : Addr} {fd : FuncData} (F : Fun K "power" "power" sPower f fd) (Z : Bi mg) : FnOk P w K mg base CX0 1 f fd ["base", "times"] spPower := by
  refine F.ok scPower (fun vs H Q E h => ?_) (fun cdv A outer s H vs Q E hr h => ?_)
  · obtain ⟨m, v, rfl, _⟩ := h
    rfl
  · obtain ⟨b, n, rfl, b0, b1, hn, k⟩ := h
    refine ⟨_, pss_cons (ps_set (i := 2) scPower.nd rfl (Or.inl rfl) pe_int)
      (pss_cons (ps_for PassesOwn.never rfl (pi_range1 rfl Z.range (pa_cons (pv 1) pa_nil)) (pg_name (i := 3) scPower.nd rfl (Or.inl rfl))
        (pss_one (ps_aug (i := 2) scPower.nd rfl (Or.inl rfl) (pv 0) iop_mul)))
      (pss_one (ps_ret (pv 2)))), ?_⟩
    refine ⟨_, rfl, n, rfl, by omega, by omega, ?_⟩
    have e0 : ((n : Int)).toNat = n := by omega
    rw [e0]
    refine for_range (n := n) (fun i σ H' => ∃ u : Option V, σ = [some (.int b), some (.int n), some (.int (pow' b i)), u] ∧ H' = H) ⟨none, rfl, rfl⟩ ?_ ?_
    · rintro i σ H' hi ⟨u, rfl, rfl⟩
      exact ⟨_, rfl, _, rfl, _, _, rfl, rfl, .inr ⟨by omega, by omega⟩, _, rfl, rfl⟩
    · rintro σ H' ⟨u, rfl, rfl⟩
      exact ⟨_, rfl, k⟩
end
end K01
namespace K01
open PySem L2 FX
/-- the loop of a walk, whatever a turn does -/
theorem walk_it {J : It} {n : Nat} {G : Hp → Prop} {Y : Nat → Hp → V → Hp → Prop} (w : Walk J n G Y) {H0 : Hp} {B : V → Hp → (Hp → Prop) → Prop} {Qd : Hp → Prop} (Pv : Nat → Hp → Prop) (h0 : Pv 0 H0) (hG : ∀ i H, i ≤ n → Pv i H → G H)
    (hs : ∀ i x H H', i < n → Pv i H → Y i H x H' → B x H' (Pv (i + 1))) (hd : ∀ H, Pv n H → Qd H) :
    ∃ W : Nat → Nat → Hp → Prop, (∃ m, W 0 m H0) ∧ ∀ i m H, W i m H → (J.stop i H ∧ Qd H) ∨ (J.go i H ∧ ∃ Nx : Hp → Prop, (∀ H', Nx H' → ∃ m', m' < m ∧ W (i + 1) m' H') ∧ ∀ x H', J.yld i H x H' → B x H' Nx) := by
  refine ⟨fun i m H => m = n - i ∧ i ≤ n ∧ Pv i H, ⟨n, by simp, Nat.zero_le _, h0⟩, ?_⟩
  rintro i m H ⟨rfl, hi, p⟩
  by_cases hlt : i < n
  · exact .inr ⟨w.goes i H hlt (hG i H hi p), Pv (i + 1), fun H' p' => ⟨n - (i + 1), by omega, rfl, hlt, p'⟩, fun x H' y => hs i x H H' hlt p (w.yields i H x H' hlt (hG i H hi p) y)⟩
  · have e : i = n := by omega
    subst e
    exact .inl ⟨w.stops H (hG _ H hi p), hd H p⟩
/-! ### a list in the making -/
def off (H : Hp) (a : Addr) : Hp := fun b => if b = a then none else H b
theorem off_ne {H : Hp} {a b : Addr} (h : b ≠ a) : off H a b = H b := if_neg h
theorem off_same {H : Hp} {a : Addr} : off H a a = none := if_pos rfl
theorem off_upd {H : Hp} {a : Addr} {o : HO} : off (upd H a o) a = off H a := by
  funext b
  by_cases h : b = a
  · rw [h, off_same, off_same]
  · rw [off_ne h, off_ne h, upd_ne h]
theorem off_le {H : Hp} {a : Addr} : Same (off H a) H := fun c o e => by
  by_cases h : c = a
  · rw [h, off_same] at e
    cases e
  · rw [off_ne h] at e
    exact e
theorem off_mono {H H' : Hp} {a : Addr} (s : ∀ c o, c ≠ a → H c = some o → H' c = some o) : Same (off H a) (off H' a) := fun c o e => by
  by_cases h : c = a
  · rw [h, off_same] at e
    cases e
  · rw [off_ne h] at e ⊢
    exact s c o h e
/-- at a stands a list that is still filled: its things don't hang on it -/
def Grow (K : PySem.W.Frag) (H : Hp) (a : Addr) (ds : List D) : Prop := ∃ vs, H a = some (.lst vs) ∧ DpAll K (off H a) vs ds
theorem Grow.nil {K : PySem.W.Frag} {H : Hp} {a : Addr} : Grow K (upd H a (.lst [])) a [] := ⟨[], upd_same, .nil⟩
theorem Grow.dp {K : PySem.W.Frag} {H : Hp} {a : Addr} {ds : List D} (g : Grow K H a ds) : Dp K H (.ref a) (.list ds) := by
  obtain ⟨vs, e, r⟩ := g
  exact .lst (SqL.of e) (dpAll_same off_le r)
theorem Grow.keep {K : PySem.W.Frag} {H H' : Hp} {a : Addr} {ds : List D} (g : Grow K H a ds) (s : Same H H') : Grow K H' a ds := by
  obtain ⟨vs, e, r⟩ := g
  exact ⟨vs, s _ _ e, dpAll_same (off_mono fun c o _ q => s c o q) r⟩
theorem dpAll_snoc {K : PySem.W.Frag} {H : Hp} : ∀ {vs : List V} {ds : List D} {v : V} {d : D}, DpAll K H vs ds → Dp K H v d → DpAll K H (vs ++ [v]) (ds ++ [d])
  | _, _, _, _, .nil, h => .cons h .nil
  | _, _, _, _, .cons h r, q => .cons h (dpAll_snoc r q)
theorem dpAll_app {K : PySem.W.Frag} {H : Hp} : ∀ {vs ws : List V} {ds es : List D}, DpAll K H vs ds → DpAll K H ws es → DpAll K H (vs ++ ws) (ds ++ es)
  | _, _, _, _, .nil, h => h
  | _, _, _, _, .cons h r, q => .cons h (dpAll_app r q)
/-- a thing is put behind all: it doesn't hang on the list -/
theorem Grow.put {K : PySem.W.Frag} {H : Hp} {a : Addr} {ds : List D} {acc : List V} {v : V} {d : D} (g : Grow K H a ds) (e : H a = some (.lst acc)) (h : Dp K (off H a) v d) : Grow K (upd H a (.lst (acc ++ [v]))) a (ds ++ [d]) := by
  obtain ⟨vs, e', r⟩ := g
  rw [e] at e'
  cases e'
  refine ⟨_, upd_same, ?_⟩
  rw [off_upd]
  exact dpAll_snoc r h
theorem Grow.len {K : PySem.W.Frag} {H : Hp} {a : Addr} {ds : List D} {acc : List V} (g : Grow K H a ds) (e : H a = some (.lst acc)) : acc.length = ds.length := by
  obtain ⟨vs, e', r⟩ := g
  rw [e] at e'
  cases e'
  exact dpAll_len r
/-- what stood ahead of the list doesn't hang on it -/
theorem dp_off {K : PySem.W.Frag} {H0 H : Hp} {a : Addr} {v : V} {d : D} (h : Dp K H0 v d) (s : Same H0 H) (n : H0 a = none) : Dp K (off H a) v d :=
  dp_same (fun c o e => by
    rw [off_ne (ne_of_none e n)]
    exact s c o e) h
theorem same_new {H : Hp} {l : Addr} {o : HO} (h : H l = none) : Same H (upd H l o) := fun c u e => by
  rw [upd_ne (ne_of_none e h)]
  exact e
/-- H, but for a, is kept by a change of a alone -/
theorem same_of {H0 H : Hp} {a : Addr} {o : HO} (s : Same H0 H) (n : H0 a = none) : Same H0 (upd H a o) := fun c u e => by
  rw [upd_ne (ne_of_none e n)]
  exact s c u e
/-! ### all rows of choices -/
def stepRows (acc : List (List D)) (c : List D) : List (List D) := acc.flatMap fun r => c.map fun x => r ++ [x]
def rowsOf (css : List (List D)) : List (List D) := css.foldl stepRows [[]]
theorem flat_len {α β : Type} {f : α → List β} {m : Nat} (h : ∀ r, (f r).length ≤ m) : ∀ l : List α, (l.flatMap f).length ≤ m * l.length
  | [] => by simp
  | r :: l => by
    have h1 := flat_len h l
    have h2 := h r
    rw [List.flatMap_cons, List.length_append, List.length_cons, Nat.mul_add, Nat.mul_one]
    omega
theorem rows_len (css : List (List D)) : ∀ (acc : List (List D)) (n : Nat), (∀ r ∈ acc, r.length = n) → ∀ r ∈ css.foldl stepRows acc, r.length = n + css.length := by
  induction css with
  | nil => exact fun acc n h r hr => h r hr
  | cons c css ih =>
    intro acc n h r hr
    have q := ih (stepRows acc c) (n + 1) (fun r' hr' => by
      obtain ⟨r0, h0, hm⟩ := List.mem_flatMap.mp hr'
      obtain ⟨x, _, rfl⟩ := List.mem_map.mp hm
      rw [List.length_append, h r0 h0]
      rfl) r hr
    rw [q, List.length_cons]
    omega
theorem rows_many (css : List (List D)) (hc : ∀ c ∈ css, c.length ≤ 8) : ∀ acc : List (List D), (css.foldl stepRows acc).length ≤ 8 ^ css.length * acc.length := by
  induction css with
  | nil => exact fun acc => by simp
  | cons c css ih =>
    intro acc
    have h1 := ih (fun c' h' => hc c' (List.mem_cons_of_mem _ h')) (stepRows acc c)
    have h2 : (stepRows acc c).length ≤ 8 * acc.length := flat_len (fun r => by rw [List.length_map]; exact hc c (List.mem_cons_self ..)) acc
    have h3 : 8 ^ css.length * (stepRows acc c).length ≤ 8 ^ css.length * (8 * acc.length) := Nat.mul_le_mul_left _ h2
    rw [List.foldl_cons, List.length_cons, Nat.pow_succ, Nat.mul_assoc]
    exact Nat.le_trans h1 h3
theorem take_more {α : Type} : ∀ {l : List α} {i : Nat} {x : α}, l[i]? = some x → l.take (i + 1) = l.take i ++ [x]
  | [], i, x, h => by simp at h
  | a :: l, 0, x, h => by
    simp at h
    subst h
    rfl
  | a :: l, i + 1, x, h => by
    have ih := take_more (l := l) (i := i) (x := x) (by simpa using h)
    show a :: l.take (i + 1) = a :: l.take i ++ [x]
    rw [ih]
    rfl
abbrev rowD (r : List D) : D := .tuple r
section
variable {P : Program} {w : World} {K : PySem.W.Frag} {mg : Str → Option Value} {base : Heap}
abbrev sRows : Stmt := top 8
/-- choices: a list of lists -/
def spRows (K : PySem.W.Frag) : Sp := fun vs H Q _ => ∃ (v : V) (css : List (List D)), vs = [v] ∧ Dp K H v (.list (css.map .list)) ∧ css.length ≤ 4 ∧ (∀ c ∈ css, c.length ≤ 8) ∧
  ∀ H' w, Same H H' → Dp K H' w (.list ((rowsOf css).map rowD)) → Q w H'
theorem dp_list {K : PySem.W.Frag} {H : Hp} {v : V} {ds : List D} (h : Dp K H v (.list ds)) : ∃ a xs, v = .ref a ∧ SqL K H a xs ∧ DpAll K H xs ds := by
  cases h with
  | lst q r => exact ⟨_, _, rfl, q, r⟩
theorem dp_tup {K : PySem.W.Frag} {H : Hp} {v : V} {ds : List D} (h : Dp K H v (.tuple ds)) : ∃ a xs, v = .ref a ∧ SqT K H a xs ∧ DpAll K H xs ds := by
  cases h with
  | tup q r => exact ⟨_, _, rfl, q, r⟩
theorem dpAll_get {K : PySem.W.Frag} {H : Hp} : ∀ {vs : List V} {ds : List D} {i : Nat} {v : V}, DpAll K H vs ds → vs[i]? = some v → ∃ d, ds[i]? = some d ∧ Dp K H v d
  | _, _, _, _, .nil, e => by simp at e
  | _, _, 0, _, .cons h _, e => by
    simp at e
    subst e
    exact ⟨_, rfl, h⟩
  | _, _, i + 1, _, .cons _ r, e => by
    obtain ⟨d, h1, h2⟩ := dpAll_get (i := i) r (by simpa using e)
    exact ⟨d, by simpa using h1, h2⟩
abbrev NRows : List Str := ["choices", "rows", "things", "row", "thing"]
theorem scRows : FnScope NRows ["choices"] (defScope sRows) := ⟨rfl, rfl, rfl, by decide +kernel, rfl, by decide +kernel, by decide +kernel⟩
theorem ok_rows {f : Addr} {fd : FuncData} (F : Fun K "all_rows" "all_rows" sRows f fd) : FnOk P w K mg base CX0 1 f fd ["choices"] (spRows K) := by
  refine F.ok scRows (fun vs H Q E h => ?_) (fun cdv A outer s H vs Q E hr h => ?_)
  · obtain ⟨v, css, rfl, _⟩ := h
    rfl
  · obtain ⟨v, css, rfl, hd, h4, h8, k⟩ := h
    obtain ⟨a, xs, rfl, q, r⟩ := dp_list hd
    refine ⟨_, pss_cons (ps_set (i := 1) scRows.nd rfl (Or.inl rfl) (pe_lst (by exact (pa_cons (pe_tup pa_nil) pa_nil))))
      (pss_cons (ps_for PassesOwn.never rfl (pi_list (pv 0)) (pg_name (i := 2) scRows.nd rfl (Or.inr rfl))
        (pss_one (ps_setLc2 (i := 1) (own := [("row", 3), ("thing", 4)]) (vs1 := [4]) (g := gName 3) (tt := tYes) (g1 := gName 4) (tt1 := tYes) (wi1 := iList K (tVar 2)) (te := tTup (StX.tStar K (tVar 3) (tCons (tVar 4) tNil))) rfl scRows.nd rfl rfl (sw_true rfl rfl rfl (by decide +kernel)) (pi_list (pv 1)) (blkOk_by (N := NRows) (sc := defScope sRows) (by decide +kernel)) (by decide)
          (fun _ _ _ _ _ => pg_name (i := 3) scRows.nd rfl (Or.inl rfl)) (fun _ _ _ _ _ => pts_nil) (fun _ _ _ _ _ => pi_list (pv 2)) (fun _ _ _ _ _ => pg_name (i := 4) scRows.nd rfl (Or.inl rfl)) (fun _ _ _ _ _ => pts_nil)
          (fun _ _ _ _ _ => pe_tup (StX.pa_star (pv 3) (pa_cons (pv 4) pa_nil))))))
      (pss_one (ps_ret (pv 1)))), ?_⟩
    refine ⟨(by show 0 ≤ sizeLine; decide), fun t ht => ⟨(by show 1 ≤ sizeLine; decide), fun L hL => ?_⟩⟩
    have s0 : Same H (upd (upd H t (.tup [])) L (.lst [.ref t])) := (same_new ht).trans (same_new hL)
    have d0 : Dp K (upd (upd H t (.tup [])) L (.lst [.ref t])) (.ref L) (.list ([[]].map rowD)) := .lst (SqL.of upd_same) (.cons (.tup (SqT.of ((same_new hL) _ _ upd_same)) .nil) .nil)
    refine ⟨_, rfl, a, rfl, ⟨_, s0.seq q⟩, for_list (K := K) (a := a) (xs := xs) (fun i σ H' => ∃ (Li : V) (u : Option V), σ = [some (.ref a), some Li, u, none, none] ∧ Same H H' ∧ Dp K H' Li (.list (((css.take i).foldl stepRows [[]]).map rowD)))
      ⟨_, none, rfl, s0, d0⟩ (fun i σ H' _ ⟨_, _, _, s1, _⟩ => s1.seq q) ?_ ?_⟩
    · rintro i y σ H1 hi ⟨Li, u, rfl, s1, dL⟩
      obtain ⟨dc, hc, hy⟩ := dpAll_get r hi
      obtain ⟨c, hcc, rfl⟩ : ∃ c, css[i]? = some c ∧ dc = .list c := by
        rw [List.getElem?_map] at hc
        cases e : css[i]? with
        | none =>
          rw [e] at hc
          cases hc
        | some c =>
          rw [e] at hc
          exact ⟨c, rfl, (Option.some.inj hc).symm⟩
      have hil : i < css.length := (List.getElem?_eq_some_iff.mp hcc).1
      have hc8 : c.length ≤ 8 := h8 c (List.mem_of_getElem? hcc)
      obtain ⟨ac, xc, rfl, qc, rc⟩ := dp_list (dp_same s1 hy)
      obtain ⟨aL, xL, rfl, qL, rL⟩ := dp_list dL
      generalize hrows : (css.take i).foldl stepRows [[]] = rows at rL dL
      have many : rows.length ≤ 8 ^ 4 := by
        have h1 := rows_many (css.take i) (fun c' h' => h8 c' (List.mem_of_mem_take h')) [[]]
        rw [hrows, List.length_take, List.length_singleton, Nat.mul_one] at h1
        exact Nat.le_trans h1 (Nat.pow_le_pow_right (by decide) (by omega))
      have long : ∀ r' ∈ rows, r'.length ≤ 4 := fun r' h' => by
        have h1 := rows_len (css.take i) [[]] 0 (fun r'' h'' => by
          rw [List.mem_singleton] at h''
          subst h''
          rfl) r' (by rw [hrows]; exact h')
        rw [h1, List.length_take]
        omega
      have fl : ∀ r' : List D, (c.map fun x => rowD (r' ++ [x])).length ≤ 8 := fun r' => by
        rw [List.length_map]
        exact hc8
      refine ⟨_, rfl, aL, rfl, ⟨_, qL⟩, fun D hD => walk_it walk_list (fun j H2 => Same H1 H2 ∧ Grow K H2 D ((rows.take j).flatMap fun r' => c.map fun x => rowD (r' ++ [x]))) ⟨same_new hD, Grow.nil⟩ (fun _ _ _ p => p.1.seq qL) ?_ ?_⟩
      · rintro j x _ H2 hj ⟨s2, g2⟩ ⟨rfl, hx⟩
        refine ⟨rfl, ?_⟩
        obtain ⟨dr, hr', hxd⟩ := dpAll_get rL hx
        obtain ⟨r', hrr, rfl⟩ : ∃ r', rows[j]? = some r' ∧ dr = rowD r' := by
          rw [List.getElem?_map] at hr'
          cases e : rows[j]? with
          | none =>
            rw [e] at hr'
            cases hr'
          | some c =>
            rw [e] at hr'
            exact ⟨c, rfl, (Option.some.inj hr').symm⟩
        obtain ⟨ar, xr, rfl, qr, rr⟩ := dp_tup hxd
        have lr := long r' (List.mem_of_getElem? hrr)
        refine ⟨_, rfl, ac, rfl, ⟨_, s2.seq qc⟩, walk_it walk_list (fun k H3 => Same H1 H3 ∧ Grow K H3 D (((rows.take j).flatMap fun r' => c.map fun x => rowD (r' ++ [x])) ++ (c.take k).map fun x => rowD (r' ++ [x])))
          ⟨s2, by simpa using g2⟩ (fun _ _ _ p => p.1.seq qc) ?_ ?_⟩
        · rintro k z _ H3 hk ⟨s3, g3⟩ ⟨rfl, hz⟩
          refine ⟨rfl, ?_⟩
          obtain ⟨dz, hz1, hzd⟩ := dpAll_get rc hz
          refine ⟨_, rfl, ar, xr, rfl, .inl (seqT s3 qr), _, rfl, ?_⟩
          refine ⟨by
            have := dpAll_len rr
            rw [List.length_append, this]
            show r'.length + 1 ≤ sizeLine
            rw [sizeLine_eq]
            omega, fun t2 ht2 => ?_⟩
          obtain ⟨acc, eD, _⟩ := id g3
          have nt : D ≠ t2 := ne_of_none eD ht2
          have eD2 : upd H3 t2 (.tup (xr ++ [z])) D = some (.lst acc) := by
            rw [upd_ne nt]
            exact eD
          have lacc := g3.len eD
          refine ⟨acc, eD2, ?_, same_of (s3.trans (same_new ht2)) hD, ?_⟩
          · have h1 := flat_len fl (rows.take j)
            rw [List.length_append, List.length_map] at lacc
            rw [List.length_take] at h1 lacc
            rw [lacc, sizeLine_eq]
            omega
          · have e1 : ((rows.take j).flatMap fun r' => c.map fun x => rowD (r' ++ [x])) ++ (c.take (k + 1)).map (fun x => rowD (r' ++ [x])) = (((rows.take j).flatMap fun r' => c.map fun x => rowD (r' ++ [x])) ++ (c.take k).map fun x => rowD (r' ++ [x])) ++ [rowD (r' ++ [dz])] := by
              rw [take_more hz1, List.map_append, ← List.append_assoc]
              rfl
            rw [e1]
            refine (g3.keep (same_new ht2)).put eD2 ?_
            have sd := same_new (o := .tup (xr ++ [z])) ht2
            refine .tup (SqT.of (by rw [off_ne (Ne.symm nt), upd_same])) (dpAll_snoc ?_ ?_)
            · exact dpAll_same (fun c' o' e' => by
                rw [off_ne (ne_of_none e' hD)]
                exact sd _ _ (s3 _ _ e')) rr
            · exact dp_off hzd (s3.trans sd) hD
        · rintro H3 ⟨s3, g3⟩
          refine ⟨s3, ?_⟩
          have e1 : (rows.take (j + 1)).flatMap (fun r' => c.map fun x => rowD (r' ++ [x])) = ((rows.take j).flatMap fun r' => c.map fun x => rowD (r' ++ [x])) ++ (c.map fun x => rowD (r' ++ [x])) := by
            rw [take_more hrr, List.flatMap_append]
            simp
          rw [e1]
          have lc : xc.length = c.length := dpAll_len rc
          rw [lc, List.take_length] at g3
          exact g3
      · rintro H2 ⟨s2, g2⟩
        refine ⟨.ref D, _, rfl, s1.trans s2, ?_⟩
        have lL : xL.length = rows.length := by
          rw [dpAll_len rL, List.length_map]
        rw [lL, List.take_length] at g2
        have e1 : ((css.take (i + 1)).foldl stepRows [[]]).map rowD = rows.flatMap fun r' => c.map fun x => rowD (r' ++ [x]) := by
          rw [take_more hcc, List.foldl_append, hrows]
          show (stepRows rows c).map rowD = _
          unfold stepRows
          rw [List.map_flatMap]
          simp only [List.map_map]
          rfl
        rw [e1]
        exact g2.dp
    · rintro σ H' ⟨Li, u, rfl, s1, dL⟩
      have lx : xs.length = css.length := by
        rw [dpAll_len r, List.length_map]
      rw [lx, List.take_length] at dL
      exact ⟨_, rfl, k _ _ s1 dL⟩
end
end K01
/-! Walks over lists and tuples alike: zip of any two. -/
namespace SQ
open PySem PySem.Spec PyProof.Rows L2
/-- a list or a tuple -/
inductive Kd | L | T
def SqK (K : PySem.W.Frag) (H : Hp) : Kd → Addr → List V → Prop
  | .L => SqL K H
  | .T => SqT K H
def AtK (h : Heap) : Kd → Addr → Array Value → Prop
  | .L => h.IsList
  | .T => h.IsTuple
def ItK (h : Heap) : Kd → Addr → Addr → Nat → Prop
  | .L => h.IsListIter
  | .T => h.IsTupleIter
def itO : Kd → Addr → Obj
  | .L, a => { cls := .type "list_iterator", data := .fields #[.ref a, .int 0 0] }
  | .T, a => { cls := .type "tuple_iterator", data := .fields #[.ref a, .int 0 0] }
theorem draws {prog : Program} {w : World} {A : Around} (hh : A.handled = none) (it a : Addr) (hne : a ≠ it) (its : Array Value) : ∀ k : Kd, Draws prog w A it [it, a] its.size (fun i v => its[i]? = some v) (fun i h => ItK h k it a i ∧ AtK h k a its)
  | .L => Draws.list hh it a hne its
  | .T => Draws.tuple hh it a hne its
theorem begins (a : Addr) (its : Array Value) : ∀ k : Kd, Begins (.ref a) (itO k a) fun h => AtK h k a its
  | .L => begins_list a its
  | .T => begins_tuple a its
theorem it_obj {h : Heap} {it a : Addr} {i : Nat} : ∀ {k : Kd}, ItK h k it a i → ∃ o, h.get? it = some o ∧ ∀ v, o.data ≠ .cell v
  | .L, x => by
    obtain ⟨o, e, _, d⟩ := x
    exact ⟨o, e, fun v q => by rw [d] at q; cases q⟩
  | .T, x => by
    obtain ⟨o, e, _, d⟩ := x
    exact ⟨o, e, fun v q => by rw [d] at q; cases q⟩
theorem it_keep {h h' : Heap} {it a : Addr} {i : Nat} (kp : ∀ o, h.get? it = some o → h'.get? it = some o) : ∀ {k : Kd}, ItK h k it a i → ItK h' k it a i
  | .L, x => x.at kp
  | .T, x => x.at kp
theorem it_new {h : Heap} {it a : Addr} : ∀ {k : Kd}, h.get? it = some (itO k a) → ItK h k it a 0
  | .L, e => ⟨_, e, rfl, rfl⟩
  | .T, e => ⟨_, e, rfl, rfl⟩
section
variable {X : Cx} {pins : List (Addr × Obj)} {σ : L2.St} {H : Hp} {s : Shared}
theorem there (I : Inv X pins σ H s) {a : Addr} {xs : List V} : ∀ {k : Kd}, SqK X.K H k a xs → ∃ its : List Value, Vals xs its ∧ AtK s.heap k a its.toArray ∧ a < s.heap.objs.size
  | .L, q => by
    obtain ⟨its, r, p, _⟩ := I.list q
    exact ⟨its, r, p.isList, p.lt⟩
  | .T, q => by
    obtain ⟨its, r, p, _⟩ := I.tuple q
    obtain ⟨o, e, _⟩ := id p
    exact ⟨its, r, p, Heap.lt_size e⟩
theorem one (I : Inv X pins σ H s) {a : Addr} {xs ys : List V} : ∀ {k : Kd}, SqK X.K H k a xs → SqK X.K H k a ys → xs = ys
  | .L, q, q' => I.list_inj q q'
  | .T, q, q' => I.tuple_inj q q'
end
/-- the two as they stand at each turn, the items in new pairs -/
def Itz2 (K : PySem.W.Frag) (k k' : Kd) (a b : Addr) : It :=
  ⟨fun i H => ∃ (xs ys : List V) (x y : V), SqK K H k a xs ∧ SqK K H k' b ys ∧ xs[i]? = some x ∧ ys[i]? = some y,
    fun i H v H' => ∃ T x y, v = .ref T ∧ H T = none ∧ H' = upd H T (.tup [x, y]) ∧ (∀ xs, SqK K H k a xs → xs[i]? = some x) ∧ ∀ ys, SqK K H k' b ys → ys[i]? = some y,
    fun i H => ∃ xs ys : List V, SqK K H k a xs ∧ SqK K H k' b ys ∧ i = min xs.length ys.length⟩
theorem walk_zip2 {K : PySem.W.Frag} {k k' : Kd} {a b : Addr} {xs ys : List V} {n : Nat} (hn : n = min xs.length ys.length) : Walk (Itz2 K k k' a b) n (fun H => SqK K H k a xs ∧ SqK K H k' b ys) (YPair (fun i => xs[i]?) (fun i => ys[i]?)) := by
  subst hn
  refine ⟨fun i _ hi q => ?_, fun _ q => ⟨xs, ys, q.1, q.2, rfl⟩, fun i H v H' _ q y => ?_⟩
  · have h1 : i < xs.length := by omega
    have h2 : i < ys.length := by omega
    exact ⟨xs, ys, xs[i], ys[i], q.1, q.2, by simp [h1], by simp [h2]⟩
  · obtain ⟨T, x, z, h1, h2, h3, h4, h5⟩ := y
    exact ⟨T, x, z, h1, h2, h3, h4 xs q.1, h5 ys q.2⟩
theorem turn_zip2 {P : Program} {w : World} {K : PySem.W.Frag} {elts : List Expr} {kk : Nat} {tpos : Pos} {k k' : Kd} {a b z TI TO i1 i2 : Addr} (S : ZipSep2 z TI TO i1 i2 [i1, a] [i2, b]) (ne1 : a ≠ i1) (ne2 : b ≠ i2) :
    Turn P w K (.Tuple elts kk tpos) (Itz2 K k k' a b) [z, TI, TO, i1, i2] z (fun i h => IsZip h z TI TO .none ∧ IsTupOf2 h TI (.ref i1) (.ref i2) ∧ (∃ x y, IsTupOf2 h TO x y) ∧ ItK h k i1 a i ∧ ItK h k' i2 b i) where
  mem := by simp
  obj := fun i h st c hc => by
    obtain ⟨hz, hTI, ⟨x, y, hTO⟩, h1, h2⟩ := st
    have e' : c = z ∨ c = TI ∨ c = TO ∨ c = i1 ∨ c = i2 := by simpa using hc
    rcases e' with q | q | q | q | q
    · subst q
      exact ⟨_, hz, fun v q => nomatch q⟩
    · subst q
      exact ⟨_, hTI, fun v q => nomatch q⟩
    · subst q
      exact ⟨_, hTO, fun v q => nomatch q⟩
    · subst q
      exact it_obj h1
    · subst q
      exact it_obj h2
  keep := fun i h h' st kp => by
    obtain ⟨hz, hTI, ⟨x, y, hTO⟩, h1, h2⟩ := st
    exact ⟨kp z (by simp) _ hz, kp TI (by simp) _ hTI, ⟨x, y, kp TO (by simp) _ hTO⟩, it_keep (kp i1 (by simp)) h1, it_keep (kp i2 (by simp)) h2⟩
  item := by
    intro X hP hw hK hc i pins s σ H E I hf st hg
    subst hP hw hK
    obtain ⟨hz, hTI, hTO, h1, h2⟩ := st
    obtain ⟨xs, ys, x, y, qx, qy, hx, hy⟩ := hg
    obtain ⟨its, rv, p, _⟩ := there I qx
    obtain ⟨its2, rv2, p2, _⟩ := there I qy
    obtain ⟨u, hu, ru⟩ := rv.get hx
    obtain ⟨u2, hu2, ru2⟩ := rv2.get hy
    have hh : X.A.in1.handled = none := I.ok.hd hc
    have G := GoesN.zip2 (prog := X.prog) (w := X.w) (A := X.A) (elts := elts) (x1 := kk) (pos := tpos) S (draws hh i1 a ne1 its.toArray k) (draws hh i2 b ne2 its2.toArray k')
    have sm : ∀ c ∈ [z, TI, TO, i1, i2], c < s.heap.objs.size := fun c hc' => by
      have e' : c = z ∨ c = TI ∨ c = TO ∨ c = i1 ∨ c = i2 := by simpa using hc'
      rcases e' with q | q | q | q | q
      · subst q
        exact Heap.lt_size hz
      · subst q
        exact Heap.lt_size hTI
      · subst q
        obtain ⟨_, _, e⟩ := hTO
        exact Heap.lt_size e
      · subst q
        obtain ⟨_, e, _⟩ := it_obj h1
        exact Heap.lt_size e
      · subst q
        obtain ⟨_, e, _⟩ := it_obj h2
        exact Heap.lt_size e
    have l1 : i < its.length := (List.getElem?_eq_some_iff.mp hu).1
    have l2 : i < its2.length := (List.getElem?_eq_some_iff.mp hu2).1
    refine G.goes i s (fun u s2 => ∃ x H', Inv X pins σ H' s2 ∧ RelV x u ∧ (Itz2 X.K k k' a b).yld i H x H' ∧ (IsZip s2.heap z TI TO .none ∧ IsTupOf2 s2.heap TI (.ref i1) (.ref i2) ∧ (∃ x y, IsTupOf2 s2.heap TO x y) ∧ ItK s2.heap k i1 a (i + 1) ∧ ItK s2.heap k' i2 b (i + 1)) ∧ ∀ b ∈ [z, TI, TO, i1, i2], H' b = none) E
      (by simp; omega) ⟨hz, hTI, hTO, ⟨h1, p⟩, h2, p2⟩ fun v h' tk hY st' keep _ => ?_
    obtain ⟨T, x', y', rfl, hT, ex, ey, hnew⟩ := hY
    have ex' : its[i]? = some x' := by simpa using ex
    have ey' : its2[i]? = some y' := by simpa using ey
    rw [hu] at ex'
    rw [hu2] at ey'
    cases ex'
    cases ey'
    have new : ObjOk X.prog X.w (upd H T (.tup [x, y])) h' T (.tup [x, y]) := ⟨by show 2 ≤ sizeLine; decide, [u, u2], .cons ru (.cons ru2 .nil), hnew⟩
    have I1 : Inv X pins σ (upd H T (.tup [x, y])) { s with heap := h', toks := tk } := I.turnedNew (t' := tk) (ch := [z, TO, i1, i2]) keep (fun c hc' => hf c (by simp at hc' ⊢; rcases hc' with q | q | q | q <;> simp [q])) hT new
    obtain ⟨g1, g2, g3, g4, g5⟩ := st'
    refine ⟨.ref T, _, I1, rfl, ⟨T, x, y, rfl, I.hok.fresh hT, rfl, fun l hl => by rw [one I hl qx]; exact hx, fun l hl => by rw [one I hl qy]; exact hy⟩, ⟨g1, g2, g3, g4.1, g5.1⟩, fun c hc' => ?_⟩
    rw [upd_ne (Nat.ne_of_lt (Nat.lt_of_lt_of_le (sm c hc') hT))]
    exact (hf c hc').1
  done := by
    intro X hP hw hK hc i pins s σ H E I hf st hg
    subst hP hw hK
    obtain ⟨hz, hTI, hTO, h1, h2⟩ := st
    obtain ⟨xs, ys, qx, qy, hn⟩ := hg
    obtain ⟨its, rv, p, _⟩ := there I qx
    obtain ⟨its2, rv2, p2, _⟩ := there I qy
    have hh : X.A.in1.handled = none := I.ok.hd hc
    have G := GoesN.zip2 (prog := X.prog) (w := X.w) (A := X.A) (elts := elts) (x1 := kk) (pos := tpos) S (draws hh i1 a ne1 its.toArray k) (draws hh i2 b ne2 its2.toArray k')
    have en : i = min its.toArray.size its2.toArray.size := by
      rw [hn, rv.length, rv2.length]
      simp
    subst en
    exact G.stops s (fun s1 => Inv X pins σ H s1) E ⟨hz, hTI, hTO, ⟨h1, p⟩, h2, p2⟩ fun h' tk keep _ =>
      I.turnedL (t' := tk) (ch := [z, TO, i1, i2]) keep (fun c hc' => hf c (by simp at hc' ⊢; rcases hc' with q | q | q | q <;> simp [q]))
  self := fun A i s Q E st h => wpAny_pyIter_zip st.1 h
def iZip2 (K : PySem.W.Frag) (ta : TA) : TI := fun σ H R => ta σ H fun vs H1 => ∃ a b xs ys k k', vs = [.ref a, .ref b] ∧ SqK K H1 k a xs ∧ SqK K H1 k' b ys ∧ R (Itz2 K k k' a b) H1
theorem pi_zip2 {X : Cx} {e e2 : Expr} {ta : TA} {p pos tpos : Pos} {elts : List Expr} {kk : Nat} (hg : Gl X "zip") (hm : X.mg "zip" = none) (ha : PA X [e, e2] ta)
    (hs : starEach [e, e2] X.env = (false, eval e X.env) :: starEach [e2] X.env := by rfl) (hpl : (backTo pos (starEach [e2] X.env)).any (·.1) = false := by rfl) :
    PI X (.Tuple elts kk tpos) (.Call (.Name "zip" p) [e, e2] [] pos) (iZip2 X.K ta) := by
  refine ⟨fun pins s σ H R I h => Call_ (ld_blt I hg hm PyProof.Rows.boot_zip (PyProof.Rows.callWith_type1 (thn (ha.run pos pins s σ H _ I h) fun us s1 ⟨vs, H1, I1, r1, q1⟩ => ?_) hs hpl))⟩
  obtain ⟨a, b, xs, ys, k, k', ex, qx, qy, q⟩ := q1
  subst ex
  cases r1 with
  | cons r rr =>
    cases rr with
    | cons r' rr =>
      cases rr
      cases r
      cases r'
      obtain ⟨its, rv, p1, la⟩ := there I1 qx
      obtain ⟨its2, rv2, p2, lb⟩ := there I1 qy
      refine zip_begins2 (begins a its.toArray k) (begins b its2.toArray k') p1 p2 fun h' hz hTI hTO h1 h2 hsz hk => wpAny_pyIter_zip hz ?_
      have I2 : Inv X pins σ H1 { s1 with heap := h' } := I1.kept (t' := s1.toks) hk
      have S : ZipSep2 (s1.heap.objs.size + 4) (s1.heap.objs.size + 2) (s1.heap.objs.size + 3) s1.heap.objs.size (s1.heap.objs.size + 1) [s1.heap.objs.size, a] [s1.heap.objs.size + 1, b] :=
        zip_sep2 (N := s1.heap.objs.size) (fp1 := [a]) (fp2 := [b]) (fun c hc => by rw [List.mem_singleton.mp hc]; exact la) (fun c hc => by rw [List.mem_singleton.mp hc]; exact lb)
      refine ⟨s1.heap.objs.size + 4, [s1.heap.objs.size + 4, s1.heap.objs.size + 2, s1.heap.objs.size + 3, s1.heap.objs.size, s1.heap.objs.size + 1], _, _, H1, rfl, I2, turn_zip2 S (Nat.ne_of_lt la) (Nat.ne_of_lt (Nat.lt_succ_of_lt lb)), ⟨hz, hTI, ⟨_, _, hTO⟩, it_new h1, it_new h2⟩, fun c hcm => ?_, q⟩
      have hle : s1.heap.objs.size ≤ c := by
        have e' : c = s1.heap.objs.size + 4 ∨ c = s1.heap.objs.size + 2 ∨ c = s1.heap.objs.size + 3 ∨ c = s1.heap.objs.size ∨ c = s1.heap.objs.size + 1 := by simpa using hcm
        rcases e' with q | q | q | q | q
        · rw [q]; exact Nat.le_add_right _ _
        · rw [q]; exact Nat.le_add_right _ _
        · rw [q]; exact Nat.le_add_right _ _
        · rw [q]; exact Nat.le_refl _
        · rw [q]; exact Nat.le_add_right _ _
      exact I1.fpOk hle (I1.hok.fresh hle)
end SQ
/-! enumerate of a list or a tuple; a for over either. -/
namespace SQ
open PySem PySem.Spec PyProof.Rows L2
theorem meets_enum1 {v : Value} {o : Obj} {G : Heap → Prop} (B : Begins v o G) :
    Meets (Builtin.«enumerate.__new__» ⟨[.type "enumerate", v], []⟩) (fun _ R s => G s.heap ∧
      R (.ok (.ret (.ref (s.heap.push o).objs.size))) { s with heap := (s.heap.push o).push { cls := .type "enumerate", data := .fields #[.none, .bool false, .ref s.heap.objs.size, rawInt 0, .none, .none] } }) :=
  .of_wp fun prog w A R s h => by
    obtain ⟨hp, g, d, tk, os⟩ := s
    obtain ⟨h1, h⟩ := h
    have hsub := sub_enumerate
    have q1 : ∀ {A' : Around} {E : Value → Shared → Prop} {Q : Value → Shared → Prop}, Q (.ref hp.objs.size) ⟨hp.push o, g, d, tk, os⟩ → wpAny (model prog w) A' (pyIter v) Q E ⟨hp, g, d, tk, os⟩ := fun q => B.iter prog w _ _ ⟨hp, g, d, tk, os⟩ _ h1 q
    wp_walk using q1
    refine wpAny_stack_any fun st => wpAny_pure ?_
    split
    · rename_i c _ _ _ _ _
      cases (c == Value.type "enumerate")
      all_goals
        wp_walk using q1
        exact ⟨_, rfl, h⟩
    · wp_walk using q1
      exact ⟨_, rfl, h⟩
theorem enum1 {prog : Program} {w : World} {A : Around} {E : Value → Shared → Prop} {s : Shared} {v : Value} {o : Obj} {G : Heap → Prop} {Q : Value → Shared → Prop} (B : Begins v o G) (h1 : G s.heap)
    (h : ∀ h', IsEnum h' (s.heap.objs.size + 1) s.heap.objs.size 0 .none → h'.get? s.heap.objs.size = some o → h'.objs.size = s.heap.objs.size + 2 → (∀ b o, s.heap.get? b = some o → h'.get? b = some o) → Q (.ref (s.heap.objs.size + 1)) { s with heap := h' }) :
    wpAny (model prog w) A (call (.type "enumerate") [v]) Q E s := by
  refine callType_new F.called_enumerate (by decide) (F.typeCall_enumerate_1 _) (F.newCall_enumerate_1 _) (fun obj => F.args_object_init_2 obj _) F.entry_enumerate_new (meets_enum1 B) ⟨h1, ?_⟩
  have hz : (s.heap.push o).objs.size = s.heap.objs.size + 1 := Heap.size_push ..
  show _ ∧ _
  rw [hz]
  have he : IsEnum ((s.heap.push o).push { cls := .type "enumerate", data := .fields #[.none, .bool false, .ref s.heap.objs.size, rawInt 0, .none, .none] }) (s.heap.objs.size + 1) s.heap.objs.size 0 .none := by
    have q := Heap.get?_push_size (s.heap.push o) (o := { cls := .type "enumerate", data := .fields #[.none, .bool false, .ref s.heap.objs.size, rawInt 0, .none, .none] }) rfl
    rw [hz] at q
    exact q
  refine ⟨⟨_, he, rfl⟩, h _ he (Heap.get?_push_of_some _ (Heap.get?_push_size _ B.free)) (by rw [Heap.size_push, hz]) fun b o' q => Heap.get?_push_of_some _ (Heap.get?_push_of_some _ q)⟩
/-- the number and the thing at each turn, in a new pair -/
def Ite2 (K : PySem.W.Frag) (k : Kd) (a : Addr) : It :=
  ⟨fun i H => ∃ (xs : List V) (x : V), SqK K H k a xs ∧ xs[i]? = some x,
    fun i H v H' => ∃ T x, v = .ref T ∧ H T = none ∧ H' = upd H T (.tup [.int (i : Nat), x]) ∧ ∀ xs, SqK K H k a xs → xs[i]? = some x,
    fun i H => ∃ xs : List V, SqK K H k a xs ∧ i = xs.length⟩
theorem walk_enum2 {K : PySem.W.Frag} {k : Kd} {a : Addr} {xs : List V} {n : Nat} (hn : n = xs.length) : Walk (Ite2 K k a) n (fun H => SqK K H k a xs) (YPair (fun i => some (.int (i : Nat))) (fun i => xs[i]?)) := by
  subst hn
  refine ⟨fun i _ hi q => ⟨xs, xs[i], q, by simp [hi]⟩, fun _ q => ⟨xs, q, rfl⟩, fun i H v H' _ q y => ?_⟩
  obtain ⟨T, x, h1, h2, h3, h4⟩ := y
  exact ⟨T, _, x, h1, h2, h3, rfl, h4 xs q⟩
theorem turn_enum2 {P : Program} {w : World} {K : PySem.W.Frag} {elts : List Expr} {kk : Nat} {tpos : Pos} {k : Kd} {a e it : Addr} (ne : a ≠ it) (ne1 : e ≠ it) (ne2 : e ≠ a) :
    Turn P w K (.Tuple elts kk tpos) (Ite2 K k a) [e, it] e (fun i h => (∃ old, IsEnum h e it i old) ∧ ItK h k it a i) where
  mem := by simp
  obj := fun i h st c hc => by
    obtain ⟨⟨old, he⟩, h1⟩ := st
    have e' : c = e ∨ c = it := by simpa using hc
    rcases e' with q | q
    · subst q
      exact ⟨_, he, fun v q => nomatch q⟩
    · subst q
      exact it_obj h1
  keep := fun i h h' st kp => by
    obtain ⟨⟨old, he⟩, h1⟩ := st
    exact ⟨⟨old, kp e (by simp) _ he⟩, it_keep (kp it (by simp)) h1⟩
  item := by
    intro X hP hw hK hc i pins s σ H E I hf st hg
    subst hP hw hK
    obtain ⟨⟨old, he⟩, h1⟩ := st
    obtain ⟨xs, x, qx, hx⟩ := hg
    obtain ⟨its, rv, p, _⟩ := there I qx
    obtain ⟨u, hu, ru⟩ := rv.get hx
    have hh : X.A.in1.handled = none := I.ok.hd hc
    have G := GoesN.enumFrom (prog := X.prog) (w := X.w) (A := X.A) (elts := elts) (x1 := kk) (pos := tpos) 0 (draws hh it a ne its.toArray k) e ne1 (by simp [ne1, ne2]) (by simp)
    have sm : ∀ c ∈ [e, it], c < s.heap.objs.size := fun c hc' => by
      have e' : c = e ∨ c = it := by simpa using hc'
      rcases e' with q | q
      · subst q
        exact Heap.lt_size he
      · subst q
        obtain ⟨_, e, _⟩ := it_obj h1
        exact Heap.lt_size e
    have l1 : i < its.length := (List.getElem?_eq_some_iff.mp hu).1
    refine G.goes i s (fun u s2 => ∃ x H', Inv X pins σ H' s2 ∧ RelV x u ∧ (Ite2 X.K k a).yld i H x H' ∧ ((∃ old, IsEnum s2.heap e it ((i + 1 : Nat) : Int) old) ∧ ItK s2.heap k it a (i + 1)) ∧ ∀ b ∈ [e, it], H' b = none) E
      (by simpa using l1) ⟨⟨old, by rw [Int.zero_add]; exact he⟩, h1, p⟩ fun v h' tk hY st' keep _ => ?_
    obtain ⟨T, t, x', rfl, hT, ex, hnew⟩ := hY
    have ex' : its[i]? = some x' := by simpa using ex
    rw [hu] at ex'
    cases ex'
    have new : ObjOk X.prog X.w (upd H T (.tup [.int (i : Nat), x])) h' T (.tup [.int (i : Nat), x]) := ⟨by show 2 ≤ sizeLine; decide, [.int (0 + (i : Int)) t, u], .cons (show L2.RelV (.int (i : Nat)) (.int (0 + (i : Int)) t) from ⟨t, by rw [Int.zero_add]⟩) (.cons ru .nil), hnew⟩
    have I1 : Inv X pins σ (upd H T (.tup [.int (i : Nat), x])) { s with heap := h', toks := tk } := I.turnedNew (t' := tk) (ch := [e, it]) keep (fun c hc' => hf c hc') hT new
    obtain ⟨⟨old', g1⟩, g2⟩ := st'
    rw [Int.zero_add] at g1
    refine ⟨.ref T, _, I1, rfl, ⟨T, x, rfl, I.hok.fresh hT, rfl, fun l hl => by rw [one I hl qx]; exact hx⟩, ⟨⟨old', g1⟩, g2.1⟩, fun c hc' => ?_⟩
    rw [upd_ne (Nat.ne_of_lt (Nat.lt_of_lt_of_le (sm c hc') hT))]
    exact (hf c hc').1
  done := by
    intro X hP hw hK hc i pins s σ H E I hf st hg
    subst hP hw hK
    obtain ⟨⟨old, he⟩, h1⟩ := st
    obtain ⟨xs, qx, hn⟩ := hg
    obtain ⟨its, rv, p, _⟩ := there I qx
    have hh : X.A.in1.handled = none := I.ok.hd hc
    have G := GoesN.enumFrom (prog := X.prog) (w := X.w) (A := X.A) (elts := elts) (x1 := kk) (pos := tpos) 0 (draws hh it a ne its.toArray k) e ne1 (by simp [ne1, ne2]) (by simp)
    have en : i = its.toArray.size := by
      rw [hn, rv.length]
      simp
    subst en
    exact G.stops s (fun s1 => Inv X pins σ H s1) E ⟨⟨old, by rw [Int.zero_add]; exact he⟩, h1, p⟩ fun h' tk keep _ =>
      I.turnedL (t' := tk) (ch := [e, it]) keep (fun c hc' => hf c hc')
  self := fun A i s Q E st h => by
    obtain ⟨⟨old, he⟩, _⟩ := st
    exact wpAny_pyIter_enum he h
def iEnum2 (K : PySem.W.Frag) (ta : TA) : TI := fun σ H R => ta σ H fun vs H1 => ∃ a xs k, vs = [.ref a] ∧ SqK K H1 k a xs ∧ R (Ite2 K k a) H1
theorem pi_enum2 {X : Cx} {e : Expr} {ta : TA} {p pos tpos : Pos} {elts : List Expr} {kk : Nat} (hg : Gl X "enumerate") (hm : X.mg "enumerate" = none) (ha : PA X [e] ta) (hs : starEach [e] X.env = [(false, eval e X.env)] := by rfl) :
    PI X (.Tuple elts kk tpos) (.Call (.Name "enumerate" p) [e] [] pos) (iEnum2 X.K ta) := by
  refine ⟨fun pins s σ H R I h => Call_ (ld_blt I hg hm PyProof.Rows.boot_enumerate (PyProof.Rows.callWith_type1 (thn (ha.run pos pins s σ H _ I h) fun us s1 ⟨vs, H1, I1, r1, q1⟩ => ?_) hs rfl))⟩
  obtain ⟨a, xs, k, ex, qx, q⟩ := q1
  subst ex
  cases r1 with
  | cons r rr =>
    cases rr
    cases r
    obtain ⟨its, rv, p1, la⟩ := there I1 qx
    refine enum1 (begins a its.toArray k) p1 fun h' he h1 hsz hk => wpAny_pyIter_enum he ?_
    have I2 : Inv X pins σ H1 { s1 with heap := h' } := I1.kept (t' := s1.toks) hk
    refine ⟨s1.heap.objs.size + 1, [s1.heap.objs.size + 1, s1.heap.objs.size], _, _, H1, rfl, I2, turn_enum2 (e := s1.heap.objs.size + 1) (it := s1.heap.objs.size) (Nat.ne_of_lt la) (Nat.succ_ne_self _) (Nat.ne_of_gt (Nat.lt_succ_of_lt la)), ⟨⟨_, he⟩, it_new h1⟩, fun c hcm => ?_, q⟩
    have hle : s1.heap.objs.size ≤ c := by
      have e' : c = s1.heap.objs.size + 1 ∨ c = s1.heap.objs.size := by simpa using hcm
      rcases e' with q | q
      · rw [q]; exact Nat.le_add_right _ _
      · rw [q]; exact Nat.le_refl _
    exact I1.fpOk hle (I1.hok.fresh hle)
end SQ
/-! one of two readings; a walk over either kind; count; tuples without a dict. -/
namespace SQ
open PySem PySem.Spec PyProof.Rows L2
def tOr (t u : TE) : TE := fun σ H Q => t σ H Q ∨ u σ H Q
def iOr (t u : TI) : TI := fun σ H R => t σ H R ∨ u σ H R
section
variable {X : Cx}
theorem pe_or2 {e : Expr} {t u : TE} (h1 : PE X e t) (h2 : PE X e u) : PE X e (tOr t u) :=
  ⟨fun pins s σ H Q I h => h.elim (h1.run pins s σ H Q I) (h2.run pins s σ H Q I)⟩
theorem pi_or2 {tg e : Expr} {t u : TI} (h1 : PI X tg e t) (h2 : PI X tg e u) : PI X tg e (iOr t u) :=
  ⟨fun pins s σ H Q I h => h.elim (h1.run pins s σ H Q I) (h2.run pins s σ H Q I)⟩
def It2 (K : PySem.W.Frag) : Kd → Addr → It
  | .L => Itl K
  | .T => Itt K
def iSq (K : PySem.W.Frag) (tl : TE) : TI := iOr (iList K tl) (iTup K tl)
theorem pi_sq {tg l : Expr} {tl : TE} (h : PE X l tl) : PI X tg l (iSq X.K tl) := pi_or2 (pi_list h) (pi_tup h)
theorem walk_sq {K : PySem.W.Frag} {a : Addr} {xs : List V} {n : Nat} : ∀ {k : Kd}, n = xs.length → Walk (It2 K k a) n (fun H => SqK K H k a xs) (YAt xs)
  | .L, e => e ▸ walk_list
  | .T, e => e ▸ walk_tup
/-- the value is there at once -/
theorem iSq_var {K : PySem.W.Frag} {i : Nat} {σ : L2.St} {H : Hp} {R : It → Hp → Prop} {a : Addr} {xs : List V} : ∀ {k : Kd}, σ[i]? = some (some (.ref a)) → SqK K H k a xs → R (It2 K k a) H → iSq K (tVar i) σ H R
  | .L, e, q, r => .inl ⟨_, e, a, rfl, ⟨xs, q⟩, r⟩
  | .T, e, q, r => .inr ⟨_, e, a, rfl, ⟨xs, q⟩, r⟩
/-- a tuple without a dict of its own -/
def Nd (K : PySem.W.Frag) (H : Hp) (x : V) : Prop := ∃ a, x = .ref a ∧ ((∃ o u, H a = some (.frz o (.tup u)) ∧ o.dict = none) ∨ ∃ o, K.lookup a = some o ∧ o.cls = .type "tuple" ∧ o.dict = none)
theorem Nd.same {K : PySem.W.Frag} {H H' : Hp} {x : V} (s : Same H H') (h : Nd K H x) : Nd K H' x := by
  obtain ⟨a, e, h⟩ := h
  refine ⟨a, e, ?_⟩
  rcases h with ⟨o, u, h, d⟩ | h
  · exact .inl ⟨o, u, s _ _ h, d⟩
  · exact .inr h
theorem nd_is {pins : List (Addr × Obj)} {σ : L2.St} {H : Hp} {s : Shared} {x : V} {v : Value} (I : Inv X pins σ H s) (r : L2.RelV x v) (h : Nd X.K H x) : s.TypeIs v "tuple" ∧ ∀ a, v = .ref a → ∃ ob, s.heap.get? a = some ob ∧ ob.dict = none := by
  obtain ⟨a, rfl, h⟩ := h
  rcases h with ⟨o, u, h, d⟩ | ⟨o, h, c, d⟩
  · obtain rfl : v = .ref a := r
    obtain ⟨e, _, its, _, o', e', hc, _⟩ := I.hok a _ h
    rw [e] at e'
    cases e'
    refine ⟨⟨o, e, hc⟩, fun b hb => ?_⟩
    cases hb
    exact ⟨o, e, d⟩
  · exact tyV_is I r (T := "tuple") (x := .ref a) (.inr (.inl ⟨rfl, o, h, c, d⟩))
def tBMT (K : PySem.W.Frag) (r : V → List V → Hp → VK → Prop) (to : TE) (t : TA) : TE := fun σ H Q => to σ H fun x H1 => Nd K H1 x ∧ t σ H1 fun xs H2 => r x xs H2 Q
variable {o e : Expr} {es : List Expr} {to : TE} {t : TA} {name : Str} {apos cpos : Pos} {id : String} {r : V → List V → Hp → VK → Prop}
theorem pe_bmT (slot : Slot "tuple" name id) (hty : typeOf (.builtin id) = pure (.type "method_descriptor")) (hm : MtR X id r) (ho : PE X o to) (ha : PA X (e :: es) t)
    (hbase : attributeBase o name X.env (eval o X.env) = eval o X.env := by rfl)
    (hfew : ((backTo cpos (starEach (e :: es) X.env)).all (fun x => !x.1) && (backToKw cpos (keywordEach [] X.env)).all (fun x => x.1.isSome)
      && decide ((e :: es).length + ([] : List Keyword).length + (if ([] : List Keyword).isEmpty then 0 else 1) < 30)) = true := by rfl)
    (hline : (apos.endLine == cpos.line) = true := by rfl) (hs : starEach (e :: es) X.env = (false, eval e X.env) :: starEach es X.env := by rfl) (hplain : (backTo cpos (starEach es X.env)).any (·.1) = false := by rfl) :
    PE X (.Call (.Attribute o name apos) (e :: es) [] cpos) (tBMT X.K r to t) := by
  refine ⟨fun pins s σ H Q I h => ?_⟩
  refine wpAny_Call_method_late hbase hfew hline rfl (thn (ho.run pins s σ H _ I h) fun v s1 ⟨x, H1, I1, r1, ty, q1⟩ => ?_)
  obtain ⟨h1, h2⟩ := nd_is I1 r1 ty
  refine ⟨"tuple", id, PySem.F.plainAttrs_tuple, slot, hty, h1, h2, ?_⟩
  have hA := ha.run cpos pins s1 σ H1 _ I1 q1
  rw [hs] at hA ⊢
  refine Calls.callWith_builtin (by show (false || (backTo cpos (starEach es X.env)).any (·.1)) = false; rw [hplain] <;> rfl) (Calls.evalArgs_plain ?_)
  exact thn hA fun us s2 ⟨vs, H2, I2, r2, q2⟩ => hm pins s2 σ H2 x vs v us Q I2 r1 r2 q2
/-- xs.count(y), data of any depth -/
def rCntD (K : PySem.W.Frag) (mk : List PyData → PyData) : V → List V → Hp → VK → Prop := fun x xs H Q => ∃ (y : V) (d : PyData) (ds : List PyData), xs = [y] ∧ Dp K H x (mk ds) ∧ Dp K H y d ∧
  PyData.canLayAll0 ds = true ∧ SeqAt.shaped d = true ∧ Q (.int ((ds.countP fun z => PyData.eqv z d : Nat) : Int)) H
theorem shaped_room {A : Around} {ds : List PyData} {d : PyData} (sd : SeqAt.shaped d = true) (hu : A.units + 65 < cLine) : A.units + 1 + min (PyData.depthAll ds) d.depth < cLine := room_in_shaped sd hu
theorem mt_lcountD (hu : X.A.units + 65 < cLine) : MtR X "list.count" (rCntD X.K .list) := by
  intro pins s σ H x xs v us Q I rx rxs h
  obtain ⟨y, d, ds, rfl, hl, hy, sl, sd, q⟩ := h
  cases rxs with
  | cons ry rt =>
    rename_i uy ut
    cases rt
    obtain ⟨bs, r1⟩ := Dp.reads I d y uy hy ry
    have hroom : X.A.units + 1 + min (PyData.depthAll ds) d.depth < cLine := shaped_room sd hu
    cases hl with
    | lst hs ha =>
      rename_i a xs
      obtain rfl : v = .ref a := rx
      obtain ⟨its, rv, ⟨⟨cls, dd, data, sls⟩, n, ho, hc, hdn, hdt⟩, hlen⟩ := I.list hs
      simp only at hc hdt
      subst hc hdt
      obtain ⟨as, h4⟩ := Dp.readsAll I ds _ its ha rv
      have hmap : its.map (SeqAt.readOf s.heap) = ds := SeqAt.readsAll_map ds its as sl h4
      refine call_meets PySem.F.slot_list_count ⟨_, ho, rfl⟩ PySem.F.entry_list_count (PySem.F.args_list_count_2 _ _)
        (SeqAt.list_countAt a its.toArray n dd sls uy (fun u => PyData.eqv (SeqAt.readOf s.heap u) d)) ⟨ho, SeqAt.items_eqAt (vs := its.toArray) (show ReadsAll s.heap its.toArray.toList ds as from h4) r1 sl (SeqAt.canLay_of_shaped sd) hroom, ?_⟩
      have ec : its.toArray.toList.countP (fun u => PyData.eqv (SeqAt.readOf s.heap u) d) = ds.countP fun z => PyData.eqv z d := by
        rw [← hmap, List.countP_map]
        rfl
      rw [ec]
      exact ⟨.int _, H, I.tok _, ⟨s.toks, rfl⟩, q⟩
theorem mt_tcountD (hu : X.A.units + 65 < cLine) : MtR X "tuple.count" (rCntD X.K .tuple) := by
  intro pins s σ H x xs v us Q I rx rxs h
  obtain ⟨y, d, ds, rfl, hl, hy, sl, sd, q⟩ := h
  cases rxs with
  | cons ry rt =>
    rename_i uy ut
    cases rt
    obtain ⟨bs, r1⟩ := Dp.reads I d y uy hy ry
    have hroom : X.A.units + 1 + min (PyData.depthAll ds) d.depth < cLine := shaped_room sd hu
    cases hl with
    | tup hs ha =>
      rename_i a xs
      obtain rfl : v = .ref a := rx
      obtain ⟨its, rv, ⟨⟨cls, dd, data, sls⟩, ho, hc, n, hdt⟩, hlen⟩ := I.tuple hs
      simp only at hc hdt
      subst hc hdt
      obtain ⟨as, h4⟩ := Dp.readsAll I ds _ its ha rv
      have hmap : its.map (SeqAt.readOf s.heap) = ds := SeqAt.readsAll_map ds its as sl h4
      refine call_meets PySem.F.slot_tuple_count ⟨_, ho, rfl⟩ PySem.F.entry_tuple_count (PySem.F.args_tuple_count_2 _ _)
        (SeqAt.tuple_countAt a its.toArray n dd sls uy (fun u => PyData.eqv (SeqAt.readOf s.heap u) d)) ⟨ho, SeqAt.items_eqAt (vs := its.toArray) (show ReadsAll s.heap its.toArray.toList ds as from h4) r1 sl (SeqAt.canLay_of_shaped sd) hroom, ?_⟩
      have ec : its.toArray.toList.countP (fun u => PyData.eqv (SeqAt.readOf s.heap u) d) = ds.countP fun z => PyData.eqv z d := by
        rw [← hmap, List.countP_map]
        rfl
      rw [ec]
      exact ⟨.int _, H, I.tok _, ⟨s.toks, rfl⟩, q⟩
/-- tuple(x) of a list: a new tuple without a dict -/
def kTupF (K : PySem.W.Frag) (x : V) (H : Hp) (Q : VK) : Prop := ∃ p xs, x = .ref p ∧ SqL K H p xs ∧ ∀ q o, H q = none → o.dict = none → Q (.ref q) (upd H q (.frz o (.tup xs)))
theorem rl_tupleF (pins : List (Addr × Obj)) (s : Shared) (σ : L2.St) (H : Hp) (x : V) (v : Value) (Q : VK) (I : Inv X pins σ H s) (r : L2.RelV x v) (h : kTupF X.K x H Q) :
    wpAny (model X.prog X.w) X.A (call (.type "tuple") [v]) (EP X pins σ Q) X.xe s := by
  obtain ⟨p, xs, rfl, hs, q⟩ := h
  obtain rfl : v = .ref p := r
  obtain ⟨its, rv, pl, hz⟩ := I.list hs
  refine call_tuple_list pl.isList (fun h' hk => ?_) (by rw [List.size_toArray, ← rv.length]; exact hz)
  have I1 : Inv X pins σ H { s with heap := h' } := I.kept (t' := s.toks) hk
  have I2 : Inv X pins σ (upd H h'.objs.size (.frz { cls := .type "tuple", data := .seq its.toArray } (.tup xs))) { s with heap := h'.push { cls := .type "tuple", data := .seq its.toArray } } :=
    I1.laid (t' := s.toks) (fun b o e => Heap.get?_push_of_some _ e) (Nat.le_refl _) (show ObjOk X.prog X.w _ _ _ (.frz _ (.tup xs)) from ⟨Heap.get?_push_size _ rfl, hz, its, rv, IsTup.new _ _⟩)
  exact ⟨.ref h'.objs.size, _, I2, rfl, q _ _ (I1.hok.fresh (Nat.le_refl _)) rfl⟩
theorem pe_tupleF {a : Expr} {ta : TE} {p pos : Pos} (hg : Gl X "tuple") (hm : X.mg "tuple" = none) (ha : PE X a ta) (na : starEach [a] X.env = (false, eval a X.env) :: starEach [] X.env := by rfl) :
    PE X (.Call (.Name "tuple" p) [a] [] pos) (tThen ta (kTupF X.K)) := by
  refine ⟨fun pins s σ H Q I h => ?_⟩
  exact Call_ (ld_blt I hg hm boot_tuple (PyProof.Rows.callWith_type1 (one_arg ha I h (fun v s2 x H2 I2 r q => rl_tupleF pins s2 σ H2 x v Q I2 r q) na) na))
end
end SQ
/-! how many are held, whether all are alike, where an answer stands. -/
namespace K01
open PySem L2 FX SQ
theorem hr65 {k : Nat} {A : Around} (hr : Room k A) : A.units + 65 < cLine := by
  have := hr.un
  omega
def nD (n : Nat) : D := .int n
def oD : Option Nat → D
  | none => .none
  | some n => nD n
/-- a list, or a tuple without a dict -/
def HeldV (K : PySem.W.Frag) (H : Hp) (v : V) (ds : List D) : Prop := Dp K H v (.list ds) ∨ (Dp K H v (.tuple ds) ∧ Nd K H v)
theorem HeldV.same {K : PySem.W.Frag} {H H' : Hp} {v : V} {ds : List D} (s : Same H H') (h : HeldV K H v ds) : HeldV K H' v ds :=
  h.elim (fun h => .inl (dp_same s h)) fun h => .inr ⟨dp_same s h.1, h.2.same s⟩
theorem HeldV.seq {K : PySem.W.Frag} {H : Hp} {v : V} {ds : List D} (h : HeldV K H v ds) : ∃ a xs k, v = .ref a ∧ SqK K H k a xs ∧ DpAll K H xs ds := by
  rcases h with h | ⟨h, _⟩
  · obtain ⟨a, xs, e, q, r⟩ := dp_list h
    exact ⟨a, xs, .L, e, q, r⟩
  · obtain ⟨a, xs, e, q, r⟩ := dp_tup h
    exact ⟨a, xs, .T, e, q, r⟩
theorem sqK_or {K : PySem.W.Frag} {H : Hp} {a : Addr} {xs : List V} : ∀ {k : Kd}, SqK K H k a xs → SqL K H a xs ∨ SqT K H a xs
  | .L, h => .inl h
  | .T, h => .inr h
theorem sqK_same {K : PySem.W.Frag} {H H' : Hp} {a : Addr} {xs : List V} (s : Same H H') : ∀ {k : Kd}, SqK K H k a xs → SqK K H' k a xs
  | .L, h => s.seq h
  | .T, h => seqT s h
theorem lay_o : ∀ os : List (Option Nat), PyData.canLayAll0 (os.map oD) = true
  | [] => rfl
  | none :: r => lay_o r
  | some n :: r => lay_o r
theorem lay_n : ∀ os : List Nat, PyData.canLayAll0 (os.map nD) = true
  | [] => rfl
  | n :: r => lay_n r
theorem cnt_o : ∀ os : List (Option Nat), (os.map oD).countP (fun z => PyData.eqv z .none) = os.countP fun o => o.isNone
  | [] => rfl
  | none :: r => by
    rw [List.map_cons, List.countP_cons, List.countP_cons, cnt_o r]
    rfl
  | some n :: r => by
    rw [List.map_cons, List.countP_cons, List.countP_cons, cnt_o r]
    rfl
theorem cnt_n (k : Nat) : ∀ ns : List Nat, (ns.map nD).countP (fun z => PyData.eqv z (nD k)) = ns.countP fun n => n == k
  | [] => rfl
  | n :: r => by
    have e : PyData.eqv (nD n) (nD k) = (n == k) := by
      show decide ((n : Int) = (k : Int)) = decide (n = k)
      by_cases h : n = k
      · rw [decide_eq_true h]
        exact decide_eq_true (by rw [h])
      · rw [decide_eq_false h]
        exact decide_eq_false fun q => h (by omega)
    rw [List.map_cons, List.countP_cons, List.countP_cons, cnt_n k r, e]
section
variable {P : Program} {w : World} {K : PySem.W.Frag} {mg : Str → Option Value} {base : Heap}
abbrev sSpot : Stmt := top 9
abbrev sAlike : Stmt := top 10
abbrev sHeldN : Stmt := top 11
def spHeldN (K : PySem.W.Frag) : Sp := fun vs H Q _ => ∃ (v : V) (os : List (Option Nat)), vs = [v] ∧ HeldV K H v (os.map oD) ∧ Q (.int (os.countP fun o => o.isNone : Nat)) H
theorem scHeldN : FnScope ["held"] ["held"] (defScope sHeldN) := ⟨rfl, rfl, rfl, by decide +kernel, rfl, by decide +kernel, by decide +kernel⟩
theorem ok_heldN {f : Addr} {fd : FuncData} (F : Fun K "left_many" "left_many" sHeldN f fd) (Z : Bi mg) : FnOk P w K mg base CX0 1 f fd ["held"] (spHeldN K) := by
  refine F.ok scHeldN (fun vs H Q E h => ?_) (fun cdv A outer s H vs Q E hr h => ?_)
  · obtain ⟨v, os, rfl, _⟩ := h
    rfl
  · obtain ⟨v, os, rfl, hd, k⟩ := h
    have hu := hr65 hr
    refine ⟨_, pss_one (ps_ret (pe_or2 (pe_bm PySem.F.plainAttrs_list PySem.F.slot_list_count PySem.F.type_list_count (mt_lcountD hu) (pv 0) (pa_cons pe_non pa_nil))
        (pe_bmT PySem.F.slot_tuple_count PySem.F.type_tuple_count (mt_tcountD hu) (pv 0) (pa_cons pe_non pa_nil)))), ?_⟩
    obtain ⟨a, xs, kd, rfl, _, _⟩ := hd.seq
    rw [← cnt_o] at k
    rcases hd with h | ⟨h, n⟩
    · exact .inl ⟨_, rfl, .inl ⟨rfl, by
        obtain ⟨_, ys, e, q, _⟩ := dp_list h
        cases e
        exact ⟨ys, q⟩⟩, _, .none, _, rfl, h, .non, lay_o os, rfl, k⟩
    · exact .inr ⟨_, rfl, n, _, .none, _, rfl, h, .non, lay_o os, rfl, k⟩
/-- all alike: as many as the first one -/
def alike (ns : List Nat) : Bool := decide (((ns.countP fun n => n == ns.headD 0 : Nat) : Int) = (ns.length : Int))
def spAlike (K : PySem.W.Frag) : Sp := fun vs H Q _ => ∃ (v : V) (ns : List Nat), vs = [v] ∧ Dp K H v (.tuple (ns.map nD)) ∧ Nd K H v ∧ ns ≠ [] ∧ Q (.bl (alike ns)) H
theorem scAlike : FnScope ["row"] ["row"] (defScope sAlike) := ⟨rfl, rfl, rfl, by decide +kernel, rfl, by decide +kernel, by decide +kernel⟩
theorem ok_alike {f : Addr} {fd : FuncData} (F : Fun K "is_alike" "is_alike" sAlike f fd) (Z : Bi mg) : FnOk P w K mg base CX0 1 f fd ["row"] (spAlike K) := by
  refine F.ok scAlike (fun vs H Q E h => ?_) (fun cdv A outer s H vs Q E hr h => ?_)
  · obtain ⟨v, os, rfl, _⟩ := h
    rfl
  · obtain ⟨v, ns, rfl, hd, hn, ne, k⟩ := h
    have hu := hr65 hr
    refine ⟨_, pss_one (ps_ret (pe_cmpR op_eq (pe_bmT PySem.F.slot_tuple_count PySem.F.type_tuple_count (mt_tcountD hu) (pv 0) (pa_cons (pe_ix ix_tup (pv 0) pe_int (fun _ _ => rfl)) pa_nil))
      (pe_callB call_len_seq (by rfl) Z.len PySem.boot_len (pa_cons (pv 0) pa_nil)) (nomark _))), ?_⟩
    obtain ⟨a, xs, rfl, q, r⟩ := dp_tup hd
    have lx : xs.length = ns.length := by rw [dpAll_len r, List.length_map]
    cases ns with
    | nil => exact absurd rfl ne
    | cons n0 nr =>
      cases r with
      | cons h0 r =>
        cases h0
        refine ⟨_, rfl, hn, _, rfl, a, _, _, _, rfl, rfl, q, atI_nat (j := 0) rfl, _, nD n0, _, rfl, hd, .int _, lay_n (n0 :: nr), rfl, _, rfl, a, _, rfl, .inr q, rfl, ?_⟩
        unfold alike at k
        rw [← cnt_n] at k
        rw [lx]
        rw [show decide (V.int ((((n0 :: nr).map nD).countP fun z => PyData.eqv z (nD n0) : Nat) : Int) = V.int ((n0 :: nr).length : Nat)) = decide (((((n0 :: nr).map nD).countP fun z => PyData.eqv z (nD n0) : Nat) : Int) = ((n0 :: nr).length : Int)) from by
          by_cases e : ((((n0 :: nr).map nD).countP fun z => PyData.eqv z (nD n0) : Nat) : Int) = ((n0 :: nr).length : Int)
          · rw [decide_eq_true e, decide_eq_true (congrArg V.int e)]
          · rw [decide_eq_false e, decide_eq_false fun z => e (V.int.inj z)]]
        exact k
end
end K01
/-! where an answer stands; the answers left by what is held. -/
namespace K01
open PySem L2 FX SQ
def spotN (s : Nat) (rs : List Nat) : Nat := rs.foldl (fun a r => a * s + r) 0
theorem spot_lt {s : Nat} (hs : s ≤ 8) : ∀ (rs : List Nat), (∀ r ∈ rs, r < s) → spotN s rs < s ^ rs.length ∨ rs = [] := by
  intro rs
  suffices h : ∀ (rs : List Nat) (a n : Nat), a < s ^ n → (∀ r ∈ rs, r < s) → rs.foldl (fun a r => a * s + r) a < s ^ (n + rs.length) by
    intro hr
    have := h rs 0 0 (by simp) hr
    rw [Nat.zero_add] at this
    exact .inl this
  intro rs
  induction rs with
  | nil => exact fun a n h _ => by simpa using h
  | cons r rs ih =>
    intro a n h hr
    have h1 := hr r (List.mem_cons_self ..)
    have h2 : a * s + r < s ^ (n + 1) := by
      have : (a + 1) * s ≤ s ^ n * s := Nat.mul_le_mul_right _ h
      rw [Nat.add_mul, Nat.one_mul] at this
      rw [Nat.pow_succ]
      omega
    have h3 := ih (a * s + r) (n + 1) h2 fun r' h' => hr r' (List.mem_cons_of_mem _ h')
    rw [List.length_cons]
    rw [show n + (rs.length + 1) = n + 1 + rs.length from by omega]
    exact h3
theorem spot_lt' {s : Nat} (hs : s ≤ 8) {rs : List Nat} (hr : ∀ r ∈ rs, r < s) : spotN s rs < s ^ rs.length := by
  rcases spot_lt hs rs hr with h | h
  · exact h
  · subst h
    show 0 < s ^ 0
    simp
theorem dpAll_n {K : PySem.W.Frag} {H : Hp} : ∀ {vs : List V} {ns : List Nat} {i : Nat} {n : Nat}, DpAll K H vs (ns.map nD) → ns[i]? = some n → vs[i]? = some (.int n) := by
  intro vs ns i n r e
  obtain ⟨v, h1, h2⟩ := dpAll_at (i := i) (d := nD n) r (by rw [List.getElem?_map, e]; rfl)
  cases h2
  exact h1
theorem dpAll_mkn {K : PySem.W.Frag} {H : Hp} : ∀ ns : List Nat, DpAll K H (ns.map fun n : Nat => V.int n) (ns.map nD)
  | [] => .nil
  | n :: r => .cons (.int _) (dpAll_mkn r)
section
variable {P : Program} {w : World} {K : PySem.W.Frag} {mg : Str → Option Value} {base : Heap}
def spSpot (K : PySem.W.Frag) : Sp := fun vs H Q _ => ∃ (v1 v2 : V) (s : Nat) (rs : List Nat), vs = [v1, v2] ∧ Dp K H v1 (.list ((List.replicate rs.length s).map nD)) ∧ Dp K H v2 (.tuple (rs.map nD)) ∧ rs.length ≤ 4 ∧ s ≤ 8 ∧ (∀ r ∈ rs, r < s) ∧
  ∀ H', Same H H' → Q (.int (spotN s rs)) H'
abbrev NSpot : List Str := ["sizes", "row", "spot", "size", "value"]
theorem scSpot : FnScope NSpot ["sizes", "row"] (defScope sSpot) := ⟨rfl, rfl, rfl, by decide +kernel, rfl, by decide +kernel, by decide +kernel⟩
theorem ok_spot {f : Addr} {fd : FuncData} (F : Fun K "spot_in" "spot_in" sSpot f fd) (Z : Bi mg) : FnOk P w K mg base CX0 1 f fd ["sizes", "row"] (spSpot K) := by
  refine F.ok scSpot (fun vs H Q E h => ?_) (fun cdv A outer s H vs Q E hr h => ?_)
  · obtain ⟨v1, v2, s, rs, rfl, _⟩ := h
    rfl
  · obtain ⟨v1, v2, s, rs, rfl, h1, h2, h4, h8, hlt, k⟩ := h
    obtain ⟨a, xs, rfl, q, r⟩ := dp_list h1
    obtain ⟨b, ys, rfl, q2, r2⟩ := dp_tup h2
    have lx : xs.length = rs.length := by rw [dpAll_len r, List.length_map, List.length_replicate]
    have ly : ys.length = rs.length := by rw [dpAll_len r2, List.length_map]
    refine ⟨_, pss_cons (ps_set (i := 2) scSpot.nd rfl (Or.inl rfl) pe_int)
      (pss_cons (ps_for PassesOwn.never rfl (pi_zip2 (by rfl) Z.zip (pa_cons (pv 0) (pa_cons (pv 1) pa_nil))) (pg_tup rfl (pgs_cons (pg_name (i := 3) scSpot.nd rfl (Or.inl rfl)) (pgs_cons (pg_name (i := 4) scSpot.nd rfl (Or.inl rfl)) pgs_nil)))
        (pss_one (ps_set (i := 2) scSpot.nd rfl (Or.inl rfl) (pe_op op_add (pe_op op_mul (pv 2) (pv 3)) (pv 4)))))
      (pss_one (ps_ret (pv 2)))), ?_⟩
    refine ⟨_, rfl, _, rfl, a, b, xs, ys, .L, .T, rfl, q, q2, for_it (walk_zip2 (k := .L) (k' := .T) (a := a) (b := b) (xs := xs) (ys := ys) (n := rs.length) (by omega)) (fun i σ H' => ∃ u1 u2 : Option V, σ = [some (.ref a), some (.ref b), some (.int (spotN s (rs.take i) : Nat)), u1, u2] ∧ Same H H')
      ⟨none, none, rfl, Same.refl H⟩ (fun i σ H' _ ⟨_, _, _, s1⟩ => ⟨s1.seq q, seqT s1 q2⟩) ?_ ?_⟩
    · rintro i x σ H1 H2 hi ⟨u1, u2, rfl, s1⟩ ⟨T, x1, x2, rfl, hT, rfl, hx1, hx2⟩
      have e1 : x1 = .int s := by
        have := dpAll_n (i := i) (n := s) r (by rw [List.getElem?_replicate, if_pos hi])
        exact Option.some.inj (hx1.symm.trans this)
      obtain ⟨ri, hri⟩ : ∃ ri, rs[i]? = some ri := ⟨rs[i], List.getElem?_eq_getElem hi⟩
      have e2 : x2 = .int ri := by
        have := dpAll_n (i := i) (n := ri) r2 hri
        exact Option.some.inj (hx2.symm.trans this)
      subst e1 e2
      have lt := spot_lt' h8 (rs := rs.take i) fun r' h' => hlt r' (List.mem_of_mem_take h')
      have lt2 : s ^ (rs.take i).length ≤ 8 ^ 4 := Nat.le_trans (Nat.pow_le_pow_left h8 _) (Nat.pow_le_pow_right (by decide) (by rw [List.length_take]; omega))
      refine ⟨T, _, rfl, SqT.of upd_same, rfl, _, _, rfl, _, _, rfl, rfl, _, rfl, _, rfl, _, _, rfl, rfl, ?_, _, rfl, _, _, rfl, rfl, some (.int s), some (.int ri), ?_, s1.trans (same_new hT)⟩
      · exact .inr ⟨by omega, by omega⟩
      · have es : spotN s (rs.take (i + 1)) = spotN s (rs.take i) * s + ri := by
          unfold spotN
          rw [take_more hri, List.foldl_append]
          rfl
        rw [es, Int.natCast_add, Int.natCast_mul]
        rfl
    · rintro σ H' ⟨u1, u2, rfl, s1⟩
      have e : rs.take rs.length = rs := List.take_length
      rw [e]
      exact ⟨_, rfl, k H' s1⟩
end
end K01
/-! the answers left by what is held. -/
namespace K01
open PySem L2 FX SQ
def choiceN (s : Nat) : Option Nat → List Nat
  | none => List.range s
  | some n => [n]
def stepN (acc : List (List Nat)) (c : List Nat) : List (List Nat) := acc.flatMap fun r => c.map fun x => r ++ [x]
def rowsN (css : List (List Nat)) : List (List Nat) := css.foldl stepN [[]]
theorem rows_nD (css : List (List Nat)) : rowsOf (css.map fun c => c.map nD) = (rowsN css).map fun r => r.map nD := by
  suffices h : ∀ acc : List (List Nat), (css.map fun c => c.map nD).foldl stepRows (acc.map fun r => r.map nD) = (css.foldl stepN acc).map fun r => r.map nD from h [[]]
  induction css with
  | nil => exact fun acc => rfl
  | cons c css ih =>
    intro acc
    rw [List.map_cons, List.foldl_cons, List.foldl_cons, ← ih]
    congr 1
    unfold stepRows stepN
    rw [List.flatMap_map, List.map_flatMap]
    congr 1
    funext r
    rw [List.map_map, List.map_map]
    congr 1
    funext x
    simp
theorem rowsN_len (css : List (List Nat)) : ∀ r ∈ rowsN css, r.length = css.length := by
  suffices h : ∀ (acc : List (List Nat)) (n : Nat), (∀ r ∈ acc, r.length = n) → ∀ r ∈ css.foldl stepN acc, r.length = n + css.length by
    intro r hr
    have := h [[]] 0 (fun r h => by rw [List.mem_singleton] at h; subst h; rfl) r hr
    rw [this, Nat.zero_add]
  induction css with
  | nil => exact fun acc n h r hr => h r hr
  | cons c css ih =>
    intro acc n h r hr
    have q := ih (stepN acc c) (n + 1) (fun r' hr' => by
      obtain ⟨r0, h0, hm⟩ := List.mem_flatMap.mp hr'
      obtain ⟨x, _, rfl⟩ := List.mem_map.mp hm
      rw [List.length_append, h r0 h0]
      rfl) r hr
    rw [q, List.length_cons]
    omega
theorem rowsN_lt {s : Nat} (css : List (List Nat)) (hc : ∀ c ∈ css, ∀ x ∈ c, x < s) : ∀ r ∈ rowsN css, ∀ x ∈ r, x < s := by
  suffices h : ∀ (acc : List (List Nat)), (∀ r ∈ acc, ∀ x ∈ r, x < s) → ∀ r ∈ css.foldl stepN acc, ∀ x ∈ r, x < s from
    h [[]] fun r h => by
      rw [List.mem_singleton] at h
      subst h
      exact fun x hx => by cases hx
  induction css with
  | nil => exact fun acc h r hr => h r hr
  | cons c css ih =>
    intro acc h
    refine ih (fun c' h' => hc c' (List.mem_cons_of_mem _ h')) (stepN acc c) fun r' hr' => ?_
    obtain ⟨r0, h0, hm⟩ := List.mem_flatMap.mp hr'
    obtain ⟨x, hx, rfl⟩ := List.mem_map.mp hm
    intro y hy
    rcases List.mem_append.mp hy with hy | hy
    · exact h r0 h0 y hy
    · rw [List.mem_singleton] at hy
      subst hy
      exact hc c (List.mem_cons_self ..) y hx
def heldAns (s : Nat) (as : List Nat) (os : List (Option Nat)) : List Nat := (rowsN (os.map (choiceN s))).map fun r => as.getD (spotN s r) 0
theorem choice_lt {s : Nat} {os : List (Option Nat)} (h : ∀ n, some n ∈ os → n < s) : ∀ c ∈ os.map (choiceN s), ∀ x ∈ c, x < s := by
  intro c hc x hx
  obtain ⟨o, ho, rfl⟩ := List.mem_map.mp hc
  cases o with
  | none => exact List.mem_range.mp hx
  | some n =>
    have : x = n := List.mem_singleton.mp hx
    subst this
    exact h _ ho
theorem choice_len {s : Nat} (h8 : s ≤ 8) (os : List (Option Nat)) : ∀ c ∈ os.map (choiceN s), c.length ≤ 8 := by
  intro c hc
  obtain ⟨o, ho, rfl⟩ := List.mem_map.mp hc
  cases o with
  | none =>
    show (List.range s).length ≤ 8
    rw [List.length_range]
    exact h8
  | some n => exact by show 1 ≤ 8; decide
section
variable {P : Program} {w : World} {K : PySem.W.Frag} {mg : Str → Option Value} {base : Heap}
abbrev sHeldA : Stmt := top 12
def spHeldA (K : PySem.W.Frag) : Sp := fun vs H Q _ => ∃ (va vz vh : V) (s : Nat) (as : List Nat) (os : List (Option Nat)), vs = [va, vz, vh] ∧ Dp K H va (.tuple (as.map nD)) ∧ Dp K H vz (.list ((List.replicate os.length s).map nD)) ∧
  HeldV K H vh (os.map oD) ∧ os.length ≤ 4 ∧ s ≤ 8 ∧ (∀ n, some n ∈ os → n < s) ∧ as.length = s ^ os.length ∧
  ∀ H' v, Same H H' → Dp K H' v (.tuple ((heldAns s as os).map nD)) → Nd K H' v → Q v H'
abbrev NHeldA : List Str := ["answers", "sizes", "held", "choices", "size", "value", "row"]
theorem scHeldA : FnScope NHeldA ["answers", "sizes", "held"] (defScope sHeldA) := ⟨rfl, rfl, rfl, by decide +kernel, rfl, by decide +kernel, by decide +kernel⟩
theorem ok_heldA {f fS fR : Addr} {fd fdS fdR : FuncData} (F : Fun K "held_answers" "held_answers" sHeldA f fd) (Z : Bi mg)
    (FS : At K mg "spot_in" sSpot fS fdS ["sizes", "row"]) (FR : At K mg "all_rows" sRows fR fdR ["choices"]) : FnOk P w K mg base CX0 2 f fd ["answers", "sizes", "held"] (spHeldA K) := by
  have GS : FnOk P w K mg base CX0 1 fS fdS ["sizes", "row"] (spSpot K) := ok_spot FS.F Z
  have GR : FnOk P w K mg base CX0 1 fR fdR ["choices"] (spRows K) := ok_rows FR.F
  refine F.ok scHeldA (fun vs H Q E h => ?_) (fun cdv A outer s H vs Q E hr h => ?_)
  · obtain ⟨va, vz, vh, s, as, os, rfl, _⟩ := h
    rfl
  · obtain ⟨va, vz, vh, s, as, os, rfl, h1, h2, h3, h4, h8, hlt, hlen, k⟩ := h
    refine ⟨_, pss_cons (ps_setLc (i := 3) (own := [("size", 4), ("value", 5)]) (g := gTup K 2 (gCons (gName 4) (gCons (gName 5) gNil))) (tt := tYes) (wi := iZip2 K (tCons (tVar 1) (tCons (tVar 2) tNil)))
        (te := tIf _ _ _) rfl scHeldA.nd rfl rfl (sw_true rfl rfl rfl (by decide +kernel)) (pi_zip2 (by rfl) Z.zip (pa_cons (pv 1) (pa_cons (pv 2) pa_nil))) (blkOk_by (N := NHeldA) (sc := defScope sHeldA) (by decide +kernel))
        (fun _ _ _ _ _ => pg_tup rfl (pgs_cons (pg_name (i := 4) scHeldA.nd rfl (Or.inl rfl)) (pgs_cons (pg_name (i := 5) scHeldA.nd rfl (Or.inl rfl)) pgs_nil))) (fun _ _ _ _ _ => pts_nil)
        (fun _ _ _ _ _ => pe_ifExp (pt_cmpR op_isN (pv 5) pe_non (nomark _)) (pe_listRg rfl (by rfl) Z.list (prg_1 (by rfl) Z.range (pv 4))) (pe_lst (pa_cons (pv 5) pa_nil))))
      (pss_one (ps_ret (pe_tupleF (by rfl) Z.tuple (pe_lc (own := [("row", 6)]) (g := gName 6) (tt := tYes) (wi := iList K (tCall (spRows K) [] E0 (tCons (tVar 3) tNil))) (te := tOp (rIxT K) (tVar 0) (tCall (spSpot K) [] E0 (tCons (tVar 1) (tCons (tVar 6) tNil)))) rfl scHeldA.nd (pi_list (pe_call GR hr (by rfl) FR.g FR.F.kp FR.b .nil pass0 (by exact (pa_cons (pv 3) pa_nil))))
        (blkOk_by (N := NHeldA) (sc := defScope sHeldA) (by decide +kernel)) (fun _ _ _ _ _ => pg_name (i := 6) scHeldA.nd rfl (Or.inl rfl)) (fun _ _ _ _ _ => pts_nil)
        (fun _ _ _ _ _ => pe_ix ix_tup (pv 0) (pe_call GS hr (by rfl) FS.g FS.F.kp FS.b .nil pass0 (by exact (pa_cons (pv 1) (pa_cons (pv 6) pa_nil)))) (fun _ _ => rfl)))))), ?_⟩
    obtain ⟨a1, x1s, rfl, q1, r1⟩ := dp_list h2
    obtain ⟨a2, x2s, k2, rfl, q2, r2⟩ := h3.seq
    have l1 : x1s.length = os.length := by rw [dpAll_len r1, List.length_map, List.length_replicate]
    have l2 : x2s.length = os.length := by rw [dpAll_len r2, List.length_map]
    refine ⟨_, rfl, _, rfl, a1, a2, x1s, x2s, .L, k2, rfl, q1, q2, fun D hD => walk_it (walk_zip2 (k := .L) (k' := k2) (a := a1) (b := a2) (xs := x1s) (ys := x2s) (n := os.length) (by omega))
      (fun i H' => Same H H' ∧ Grow K H' D ((os.take i).map fun o => .list ((choiceN s o).map nD))) ⟨same_new hD, Grow.nil⟩ (fun i H' _ p => ⟨p.1.seq q1, sqK_same p.1 q2⟩) ?_ ?_⟩
    · rintro i x H1 H2 hi ⟨s1, g1⟩ ⟨T, x1, x2, rfl, hT, rfl, hx1, hx2⟩
      have e1 : x1 = .int s := by
        have := dpAll_n (i := i) (n := s) r1 (by rw [List.getElem?_replicate, if_pos hi])
        exact Option.some.inj (hx1.symm.trans this)
      obtain ⟨o, ho⟩ : ∃ o, os[i]? = some o := ⟨os[i], List.getElem?_eq_getElem hi⟩
      obtain ⟨x2', e2, d2⟩ := dpAll_at (i := i) (d := oD o) r2 (by rw [List.getElem?_map, ho]; rfl)
      obtain rfl : x2' = x2 := Option.some.inj (e2.symm.trans hx2)
      subst e1
      obtain ⟨acc, eD, _⟩ := id g1
      have nT : D ≠ T := ne_of_none eD hT
      have g2 := g1.keep (same_new (o := .tup [.int s, x2']) hT)
      have eD2 : (upd H1 T (.tup [.int s, x2'])) D = some (.lst acc) := by rw [upd_ne nT]; exact eD
      have lacc := g1.len eD
      rw [List.length_map, List.length_take] at lacc
      have et : (os.take (i + 1)).map (fun o => PyData.list ((choiceN s o).map nD)) = ((os.take i).map fun o => PyData.list ((choiceN s o).map nD)) ++ [.list ((choiceN s o).map nD)] := by
        rw [take_more ho, List.map_append]
        rfl
      have fin : ∀ (L : Addr) (ys : List V), (upd H1 T (.tup [.int s, x2'])) L = none → DpAll K (upd H1 T (.tup [.int s, x2'])) ys ((choiceN s o).map nD) → (∀ H3 : Hp, DpAll K H3 ys ((choiceN s o).map nD)) →
          ∃ acc, (upd (upd H1 T (.tup [.int s, x2'])) L (.lst ys)) D = some (.lst acc) ∧ acc.length < sizeLine ∧ (Same H (upd (upd (upd H1 T (.tup [.int s, x2'])) L (.lst ys)) D (.lst (acc ++ [.ref L]))) ∧ Grow K (upd (upd (upd H1 T (.tup [.int s, x2'])) L (.lst ys)) D (.lst (acc ++ [.ref L]))) D ((os.take (i + 1)).map fun o => .list ((choiceN s o).map nD))) := by
        intro L ys hL _ hy
        have nL : D ≠ L := ne_of_none eD2 hL
        have eD3 : (upd (upd H1 T (.tup [.int s, x2'])) L (.lst ys)) D = some (.lst acc) := by rw [upd_ne nL]; exact eD2
        refine ⟨acc, eD3, by rw [lacc, sizeLine_eq]; omega, same_of ((s1.trans (same_new hT)).trans (same_new hL)) hD, ?_⟩
        rw [et]
        exact (g2.keep (same_new hL)).put eD3 (.lst (SqL.of (by rw [off_ne (Ne.symm nL), upd_same])) (hy _))
      refine ⟨T, _, rfl, SqT.of upd_same, rfl, _, _, rfl, _, _, rfl, rfl, rfl, ?_⟩
      cases o with
      | none =>
        cases d2
        refine ⟨_, rfl, rfl, _, rfl, ?_⟩
        refine ⟨_, rfl, _, rfl, RgOk.of_le (by omega) (by omega) (by omega) (by omega), fun L hL => ?_⟩
        have er : rgV 0 (s : Int) = (List.range s).map fun n : Nat => V.int n := by
          unfold rgV
          rw [Int.sub_zero, Int.toNat_natCast]
          exact List.map_congr_left fun n _ => by rw [Int.zero_add]
        rw [er]
        exact fin L _ hL (dpAll_mkn _) (fun _ => dpAll_mkn _)
      | some n =>
        cases d2
        refine ⟨_, rfl, rfl, _, rfl, ?_⟩
        refine ⟨_, rfl, (by show 1 ≤ sizeLine; decide), fun L hL => ?_⟩
        exact fin L _ hL (.cons (.int _) .nil) (fun _ => .cons (.int _) .nil)
    · rintro H1 ⟨s1, g1⟩
      rw [List.take_length] at g1
      have dch : Dp K H1 (.ref D) (.list ((os.map (choiceN s)).map fun c => .list (c.map nD))) := by
        rw [List.map_map]
        exact g1.dp
      obtain ⟨a0, x0s, rfl, q0, r0⟩ := dp_tup h1
      have hcl : ((os.map (choiceN s)).map fun c => c.map nD).length ≤ 4 := by rw [List.length_map, List.length_map]; exact h4
      have hc8 : ∀ c ∈ (os.map (choiceN s)).map (fun c => c.map nD), c.length ≤ 8 := fun c hc => by
        obtain ⟨c0, h0, rfl⟩ := List.mem_map.mp hc
        rw [List.length_map]
        exact choice_len h8 os c0 h0
      refine ⟨_, rfl, .ref D, (os.map (choiceN s)).map (fun c => c.map nD), rfl, by
        have e : ((os.map (choiceN s)).map fun c => c.map nD).map PyData.list = (os.map (choiceN s)).map fun c => PyData.list (c.map nD) := by rw [List.map_map]; rfl
        rw [e]
        exact dch, hcl, hc8, fun H2 wv s2 dw => ?_⟩
      have many : (rowsN (os.map (choiceN s))).length ≤ 8 ^ 4 := by
        have h1 := rows_many ((os.map (choiceN s)).map fun c => c.map nD) hc8 [[]]
        have h2 : (rowsOf ((os.map (choiceN s)).map fun c => c.map nD)).length = (rowsN (os.map (choiceN s))).length := by rw [rows_nD, List.length_map]
        have h3 : (rowsOf ((os.map (choiceN s)).map fun c => c.map nD)).length ≤ 8 ^ ((os.map (choiceN s)).map fun c => c.map nD).length * 1 := h1
        rw [h2, Nat.mul_one] at h3
        exact Nat.le_trans h3 (Nat.pow_le_pow_right (by decide) hcl)
      have rl := rowsN_len (os.map (choiceN s))
      have rlt := rowsN_lt (os.map (choiceN s)) (choice_lt hlt)
      rw [rows_nD, List.map_map] at dw
      have s02 : Same H H2 := s1.trans s2
      generalize hrs : rowsN (os.map (choiceN s)) = rows at dw many rl rlt
      obtain ⟨aw, xw, rfl, qw, rw'⟩ := dp_list dw
      have lw : xw.length = rows.length := by rw [dpAll_len rw', List.length_map]
      refine ⟨aw, rfl, ⟨_, qw⟩, fun D2 hD2 => walk_it walk_list (fun i H' => Same H2 H' ∧ Grow K H' D2 ((rows.take i).map fun r => nD (as.getD (spotN s r) 0))) ⟨same_new hD2, Grow.nil⟩ (fun i H' _ p => p.1.seq qw) ?_ ?_⟩
      · rintro i x _ H3 hi ⟨s3, g3⟩ ⟨rfl, hx⟩
        refine ⟨rfl, ?_⟩
        obtain ⟨dr, hr', hxd⟩ := dpAll_get rw' hx
        obtain ⟨r, hrr, rfl⟩ : ∃ r, rows[i]? = some r ∧ dr = .tuple (r.map nD) := by
          rw [List.getElem?_map] at hr'
          cases e : rows[i]? with
          | none =>
            rw [e] at hr'
            cases hr'
          | some c =>
            rw [e] at hr'
            exact ⟨c, rfl, (Option.some.inj hr').symm⟩
        have hm := List.mem_of_getElem? hrr
        have hrl : r.length = os.length := by rw [rl r hm, List.length_map]
        have s03 : Same H H3 := s02.trans s3
        have hsp := spot_lt' h8 (rs := r) (rlt r hm)
        rw [hrl, ← hlen] at hsp
        refine ⟨_, rfl, _, rfl, _, rfl, .ref a1, x, s, r, rfl, by rw [hrl]; exact dp_same s03 h2, dp_same s3 hxd, by rw [hrl]; exact h4, h8, rlt r hm, fun H4 s4 => ?_⟩
        have s04 := s03.trans s4
        have eat : x0s[spotN s r]? = some (.int (as[spotN s r] : Nat)) := dpAll_n r0 (List.getElem?_eq_getElem hsp)
        refine ⟨a0, x0s, _, .int (as[spotN s r] : Nat), rfl, rfl, seqT s04 q0, atI_nat eat, ?_⟩
        have g4 := g3.keep s4
        obtain ⟨acc, eD, _⟩ := id g4
        have lacc := g4.len eD
        rw [List.length_map, List.length_take] at lacc
        refine ⟨acc, eD, by rw [lacc, sizeLine_eq]; omega, same_of (s3.trans s4) hD2, ?_⟩
        have et : (rows.take (i + 1)).map (fun r => nD (as.getD (spotN s r) 0)) = ((rows.take i).map fun r => nD (as.getD (spotN s r) 0)) ++ [nD as[spotN s r]] := by
          rw [take_more hrr, List.map_append, List.map_singleton, List.getD_eq_getElem?_getD, List.getElem?_eq_getElem hsp]
          rfl
        rw [et]
        exact g4.put eD (.int _)
      · rintro H3 ⟨s3, g3⟩
        rw [lw, List.take_length] at g3
        obtain ⟨vs, e3, d3⟩ := id g3
        refine ⟨D2, vs, rfl, SqL.of e3, fun q o hq ho => ?_⟩
        have s4 := same_new (o := .frz o (.tup vs)) hq
        have ef : (heldAns s as os).map nD = rows.map fun r => nD (as.getD (spotN s r) 0) := by
          unfold heldAns
          rw [hrs, List.map_map]
          rfl
        refine k _ _ ((s02.trans s3).trans s4) ?_ ⟨q, rfl, .inl ⟨o, vs, upd_same, ho⟩⟩
        rw [ef]
        exact .tup (.inl (.inr ⟨o, upd_same⟩)) (dpAll_same (off_le.trans s4) d3)
end
end K01
/-! sizes, tables, operations. -/
namespace K01
open PySem L2 FX SQ
theorem iSq_of {K : PySem.W.Frag} {tl : TE} {σ : L2.St} {H : Hp} {R : It → Hp → Prop} {a : Addr} {xs : List V} (ht : ∀ Q : VK, Q (.ref a) H → tl σ H Q) : ∀ {kd : Kd}, SqK K H kd a xs → R (It2 K kd a) H → iSq K tl σ H R
  | .L, q, r => .inl (ht _ ⟨a, rfl, ⟨xs, q⟩, r⟩)
  | .T, q, r => .inr (ht _ ⟨a, rfl, ⟨xs, q⟩, r⟩)
theorem ixS {K : PySem.W.Frag} {H : Hp} {v : V} {d x : D} {i : Nat} (h : Dp K H v d) (hs : isSq d = true) (e : (items d)[i]? = some x) : ∃ u, Dp K H u x ∧ ∀ Q : VK, Q u H → rIx K v (.int (i : Nat)) H Q := by
  obtain ⟨a, xs, rfl, q, r⟩ := dp_seq h hs
  obtain ⟨u, eu, hu⟩ := dpAll_at (i := i) r e
  refine ⟨u, hu, fun Q k => ?_⟩
  rcases q with q | q
  · exact .inl ⟨a, xs, _, u, rfl, rfl, q, atI_nat eu, k⟩
  · exact .inr (.inl ⟨a, xs, _, u, rfl, rfl, q, atI_nat eu, k⟩)
def isTable (s lo hi : Int) (d : D) : Bool := isRow 2 d && (isBt lo hi ((items d).getD 0 .none) && (isRow (pow' s (intV ((items d).getD 0 .none)).toNat) ((items d).getD 1 .none) && (items ((items d).getD 1 .none)).all (isB s)))
theorem pow_le {s : Int} (s0 : 0 ≤ s) (s8 : s ≤ 8) : ∀ n : Nat, 0 ≤ pow' s n ∧ pow' s n ≤ 8 ^ n
  | 0 => ⟨Int.le_of_lt Int.one_pos, Int.le_refl _⟩
  | n + 1 => by
    obtain ⟨h0, h1⟩ := pow_le s0 s8 n
    refine ⟨Int.mul_nonneg h0 s0, ?_⟩
    show pow' s n * s ≤ 8 ^ n * 8
    exact Int.mul_le_mul h1 s8 s0 (by exact Int.le_trans h0 h1)
section
variable {P : Program} {w : World} {K : PySem.W.Frag} {mg : Str → Option Value} {base : Heap}
abbrev sSize : Stmt := top 20
abbrev sNeedSize : Stmt := top 21
abbrev sTable : Stmt := top 22
abbrev sOper : Stmt := top 23
theorem scSize : FnScope ["value"] ["value"] (defScope sSize) := ⟨rfl, rfl, rfl, by decide +kernel, rfl, by decide +kernel, by decide +kernel⟩
theorem ok_size {f fB : Addr} {fd fdB : FuncData} (F : Fun K "is_size" "is_size" sSize f fd) (FB : At K mg "is_between" sBetween fB fdB ["least", "most", "value"]) (GB : FnOk P w K mg base CX0 2 fB fdB ["least", "most", "value"] (spB2 K isBt)) :
    FnOk P w K mg base CX0 3 f fd ["value"] (spB K (isBt 2 8)) := by
  refine F.ok scSize (fun vs H Q E h => ?_) (fun cdv A outer s H vs Q E hr h => ?_)
  · obtain ⟨v, d, rfl, _⟩ := h
    rfl
  · obtain ⟨v, d, rfl, hd, k⟩ := h
    refine ⟨_, pss_one (ps_ret (pe_call GB hr rfl FB.g FB.F.kp FB.b .nil pass0 (by exact (pa_cons pe_int (pa_cons pe_int (pa_cons (pv 0) pa_nil)))))), ?_⟩
    exact ⟨_, rfl, 2, 8, v, d, rfl, hd, fun H1 s1 => k H1 s1⟩
/-- what a table asks -/
def spTable (K : PySem.W.Frag) : Sp := fun vs H Q _ => ∃ (s lo hi : Int) (v : V) (d : D), vs = [.int s, .int lo, .int hi, v] ∧ 0 ≤ s ∧ s ≤ 8 ∧ 0 ≤ lo ∧ hi ≤ 6 ∧ Dp K H v d ∧ ∀ H', Same H H' → Q (.bl (isTable s lo hi d)) H'
abbrev NTable : List Str := ["size", "least", "most", "value", "answer"]
theorem scTable : FnScope NTable ["size", "least", "most", "value"] (defScope sTable) := ⟨rfl, rfl, rfl, by decide +kernel, rfl, by decide +kernel, by decide +kernel⟩
theorem ok_table {f fR fW fB fL : Addr} {fd fdR fdW fdB fdL : FuncData} (F : Fun K "is_table" "is_table" sTable f fd) (Z : Bi mg) (FR : At K mg "is_row_of" sRowOf fR fdR ["many", "value"]) (GR : FnOk P w K mg base CX0 2 fR fdR ["many", "value"] (spB1 K isRow))
    (FW : At K mg "power" sPower fW fdW ["base", "times"]) (FB : At K mg "is_between" sBetween fB fdB ["least", "most", "value"]) (GB : FnOk P w K mg base CX0 2 fB fdB ["least", "most", "value"] (spB2 K isBt))
    (FL : At K mg "is_below" sBelow fL fdL ["many", "value"]) (GL : FnOk P w K mg base CX0 3 fL fdL ["many", "value"] (spB1 K isB)) :
    FnOk P w K mg base CX0 4 f fd ["size", "least", "most", "value"] (spTable K) := by
  have GW : FnOk P w K mg base CX0 1 fW fdW ["base", "times"] spPower := ok_power FW.F Z
  refine F.ok scTable (fun vs H Q E h => ?_) (fun cdv A outer s H vs Q E hr h => ?_)
  · obtain ⟨s, lo, hi, v, d, rfl, _⟩ := h
    rfl
  · obtain ⟨s, lo, hi, v, d, rfl, s0, s8, l0, h6, hd, k⟩ := h
    have hr2 := hr
    refine ⟨_, pss_cons (ps_if (PW.pt (pw_or (pt_not (pt_val (pe_call GR (hr.mono (by decide)) rfl FR.g FR.F.kp FR.b .nil pass0 (by exact (pa_cons pe_int (pa_cons (pv 3) pa_nil))))))
        (pw_or1 (pt_not (pt_val (pe_call GB (hr.mono (by decide)) rfl FB.g FB.F.kp FB.b .nil pass0 (by exact (pa_cons (pv 1) (pa_cons (pv 2) (pa_cons (pe_ix ix_seq (pv 3) pe_int (fun _ _ => rfl)) pa_nil))))))))))
        (pss_one (ps_ret pe_bl)) pss_nil)
      (pss_cons (ps_if (pt_not (pt_val (pe_call GR (hr.mono (by decide)) rfl FR.g FR.F.kp FR.b .nil pass0 (by exact (pa_cons (pe_call GW (hr.mono (by decide)) rfl FW.g FW.F.kp FW.b .nil pass0 (by exact (pa_cons (pv 0) (pa_cons (pe_ix ix_seq (pv 3) pe_int (fun _ _ => rfl)) pa_nil)))) (pa_cons (pe_ix ix_seq (pv 3) pe_int (fun _ _ => rfl)) pa_nil))))))
        (pss_one (ps_ret pe_bl)) pss_nil)
      (pss_one (ps_ret (pe_callB (cr_all rfl) (by rfl) Z.all (by decide +kernel) (pa_cons
        (pe_lc (own := [("answer", 4)]) (g := gName 4) (tt := tYes) (wi := iSq K (tOp (rIx K) (tVar 3) (tC (.int 1)))) (te := tCall (spB1 K isB) [] E0 (tCons (tVar 0) (tCons (tVar 4) tNil))) rfl scTable.nd (pi_sq (pe_ix ix_seq (pv 3) pe_int (fun _ _ => rfl)))
          (blkOk_by (N := NTable) (sc := defScope sTable) (by decide +kernel)) (fun _ _ _ _ _ => pg_name (i := 4) scTable.nd rfl (Or.inl rfl)) (fun _ _ _ _ _ => pts_nil)
          (fun _ _ _ _ _ => pe_call GL (hr.mono (by decide)) (by rfl) FL.g FL.F.kp FL.b .nil pass0 (by exact (pa_cons (pv 0) (pa_cons (pv 4) pa_nil))))) pa_nil))))), ?_⟩
    have no : isTable s lo hi d = false → ∀ H', Same H H' → Q (.bl false) H' := fun e H' s' => e ▸ k H' s'
    refine ⟨_, rfl, 2, v, d, rfl, hd, fun H1 s1 => ⟨_, rfl, ?_⟩⟩
    by_cases hrow : isRow 2 d = true
    case neg =>
      have hf : isRow 2 d = false := by simpa using hrow
      refine go_t (by rw [hf]; rfl) ?_
      refine go_t rfl ?_
      exact no (and_f hf) H1 s1
    refine go_f (by rw [hrow]; rfl) ?_
    have hsq : isSq d = true := by
      unfold isRow at hrow
      simp only [Bool.and_eq_true] at hrow
      exact hrow.1
    have hl2 : (items d).length = 2 := by
      unfold isRow at hrow
      simp only [Bool.and_eq_true, decide_eq_true_eq] at hrow
      omega
    obtain ⟨d0, d1, hit⟩ : ∃ d0 d1, items d = [d0, d1] := by
      match items d, hl2 with
      | [a, b], _ => exact ⟨a, b, rfl⟩
    have e0 : (items d)[0]? = some d0 := by rw [hit]; rfl
    have e1 : (items d)[1]? = some d1 := by rw [hit]; rfl
    have eT : isTable s lo hi d = (isBt lo hi d0 && (isRow (pow' s (intV d0).toNat) d1 && (items d1).all (isB s))) := by
      unfold isTable
      rw [and_t hrow, hit]
      rfl
    obtain ⟨u0, hu0, k0⟩ := ixS (i := 0) (dp_same s1 hd) hsq e0
    refine ⟨_, rfl, _, rfl, _, rfl, k0 _ ⟨lo, hi, u0, d0, rfl, hu0, fun H2 s2 => ⟨_, rfl, ?_⟩⟩⟩
    have s02 := s1.trans s2
    by_cases hbt : isBt lo hi d0 = true
    case neg =>
      have hf : isBt lo hi d0 = false := by simpa using hbt
      refine go_t (by rw [hf]; rfl) ?_
      exact no (by rw [eT]; exact and_f hf) H2 s02
    refine go_f (by rw [hbt]; rfl) ?_
    rw [and_t hbt] at eT
    have hb3 : isI d0 = true ∧ lo ≤ intV d0 ∧ intV d0 ≤ hi := by
      unfold isBt at hbt
      simp only [Bool.and_eq_true, decide_eq_true_eq] at hbt
      exact ⟨hbt.1, hbt.2.1, hbt.2.2⟩
    obtain ⟨i0, rfl, rfl⟩ := dp_int hu0 hb3.1
    have hi0 : lo ≤ i0 ∧ i0 ≤ hi := hb3.2
    obtain ⟨n, rfl⟩ : ∃ n : Nat, i0 = (n : Int) := ⟨i0.toNat, by omega⟩
    have eT' : isTable s lo hi d = (isRow (pow' s n) d1 && (items d1).all (isB s)) := eT
    obtain ⟨u0', hu0', k0'⟩ := ixS (i := 0) (dp_same s02 hd) hsq e0
    have eu : u0' = .int (n : Int) := by cases hu0'; rfl
    subst eu
    obtain ⟨u1, hu1, k1⟩ := ixS (i := 1) (dp_same s02 hd) hsq e1
    refine ⟨_, rfl, _, rfl, k0' _ ⟨s, n, rfl, s0, by omega, by omega, ?_⟩⟩
    refine ⟨_, rfl, k1 _ ⟨pow' s n, u1, d1, rfl, hu1, fun H3 s3 => ⟨_, rfl, ?_⟩⟩⟩
    have s03 := s02.trans s3
    by_cases hr1 : isRow (pow' s n) d1 = true
    case neg =>
      have hf : isRow (pow' s n) d1 = false := by simpa using hr1
      refine go_t (by rw [hf]; rfl) ?_
      exact no (by rw [eT']; exact and_f hf) H3 s03
    refine go_f (by rw [hr1]; rfl) ?_
    rw [and_t hr1] at eT'
    have hs1 : isSq d1 = true ∧ ((items d1).length : Int) = pow' s n := by
      unfold isRow at hr1
      simp only [Bool.and_eq_true, decide_eq_true_eq] at hr1
      exact hr1
    have hlen : (items d1).length ≤ 262144 := by
      have h1 := (pow_le s0 s8 n).2
      have h2 : (8 : Nat) ^ n ≤ 8 ^ 6 := Nat.pow_le_pow_right (by decide) (by omega)
      have h3 : (8 : Nat) ^ 6 = 262144 := by decide
      have h4 : (8 : Int) ^ n = ((8 ^ n : Nat) : Int) := by rw [Int.natCast_pow]; rfl
      rw [h4] at h1
      omega
    obtain ⟨u1', hu1', k1'⟩ := ixS (i := 1) (dp_same s03 hd) hsq e1
    obtain ⟨a, xs, rfl, q, r⟩ := dp_seq hu1' hs1.1
    obtain ⟨kd, qk⟩ : ∃ kd, SqK K H3 kd a xs := q.elim (fun q => ⟨.L, q⟩) fun q => ⟨.T, q⟩
    have lx : xs.length = (items d1).length := dpAll_len r
    refine iSq_of (kd := kd) (fun Q kq => ⟨_, rfl, k1' Q kq⟩) qk fun D hD => walk_it (walk_sq (n := xs.length) rfl) (fun i H' => Same H3 H' ∧ H' D = some (.lst (((items d1).take i).map fun d => V.bl (isB s d)))) ⟨same_new hD, upd_same⟩ (fun i H' _ p => sqK_same p.1 qk) ?_ ?_
    · rintro i x _ H4 hi ⟨s4, eD⟩ ⟨rfl, hx⟩
      refine ⟨rfl, ?_⟩
      obtain ⟨dx, hdx, hxd⟩ := dpAll_get r hx
      refine ⟨_, rfl, _, rfl, s, x, dx, rfl, dp_same s4 hxd, fun H5 s5 => ?_⟩
      refine ⟨_, s5 _ _ eD, ?_, same_of (s4.trans s5) hD, ?_⟩
      · rw [List.length_map, List.length_take, sizeLine_eq]
        omega
      · rw [upd_same, take_more hdx, List.map_append]
        rfl
    · rintro H4 ⟨s4, eD⟩
      rw [lx, List.take_length] at eD
      refine ⟨D, (items d1).map (isB s), rfl, ?_, ?_⟩
      · rw [List.map_map]
        exact SqL.of eD
      · rw [List.all_map]
        rw [show (items d1).all (id ∘ isB s) = isTable s lo hi d from by rw [eT']; rfl]
        exact k H4 (s03.trans s4)
end
end K01
/-! what raises: sizes, operations, books, held values. -/
namespace SQ
open PySem PySem.Spec PyProof.Rows L2
def gOr (g1 g2 : TG) : TG := fun v σ H Q => g1 v σ H Q ∨ g2 v σ H Q
theorem pg_or2 {X : Cx} {t : Expr} {g1 g2 : TG} (h1 : PG X t g1) (h2 : PG X t g2) : PG X t (gOr g1 g2) :=
  ⟨fun pins s σ H v u Q I r h => h.elim (fun h => h1.run pins s σ H v u Q I r h) fun h => h2.run pins s σ H v u Q I r h⟩
end SQ
namespace K01
open PySem L2 FX SQ
/-- the error of a class is out, v in its field -/
def Thr (C : Addr) (f : Str) (v : V) (H : Hp) (E : XK) : Prop := ∀ H' d, Same H H' → H' d = none → E (.ref C) (some d) (upd H' d (.xd [(f, v)]))
theorem Thr.same {C : Addr} {f : Str} {v : V} {H H' : Hp} {E : XK} (s : Same H H') (h : Thr C f v H E) : Thr C f v H' E := fun H2 d s2 hd => h H2 d (s.trans s2) hd
structure Er (K : PySem.W.Frag) (mg : Str → Option Value) (B : Addr) (x qn f : Str) (C i : Addr) : Prop where
  T : ErrTxt K mg B x C
  U : InitTxt K qn f C i
structure Ers (K : PySem.W.Frag) (mg : Str → Option Value) (B cB iB cO iO cV iV cS iS : Addr) : Prop where
  S : BaseTxt K mg "FoldError" B
  b : Er K mg B "InvalidBook" "InvalidBook.__init__" "at" cB iB
  o : Er K mg B "InvalidOperation" "InvalidOperation.__init__" "at" cO iO
  v : Er K mg B "InvalidValues" "InvalidValues.__init__" "at" cV iV
  s : Er K mg B "InvalidSize" "InvalidSize.__init__" "word" cS iS
section
variable {P : Program} {w : World} {K : PySem.W.Frag} {mg : Str → Option Value} {base : Heap} {B cB iB cO iO cV iV cS iS : Addr}
def spOper (K : PySem.W.Frag) : Sp := fun vs H Q _ => ∃ (s : Int) (v : V) (d : D), vs = [.int s, v] ∧ 0 ≤ s ∧ s ≤ 8 ∧ Dp K H v d ∧ ∀ H', Same H H' → Q (.bl (isTable s 1 3 d)) H'
theorem scOper : FnScope ["size", "value"] ["size", "value"] (defScope sOper) := ⟨rfl, rfl, rfl, by decide +kernel, rfl, by decide +kernel, by decide +kernel⟩
theorem ok_oper {f fT : Addr} {fd fdT : FuncData} (F : Fun K "is_operation" "is_operation" sOper f fd) (FT : At K mg "is_table" sTable fT fdT ["size", "least", "most", "value"]) (GT : FnOk P w K mg base CX0 4 fT fdT ["size", "least", "most", "value"] (spTable K)) :
    FnOk P w K mg base CX0 5 f fd ["size", "value"] (spOper K) := by
  refine F.ok scOper (fun vs H Q E h => ?_) (fun cdv A outer s H vs Q E hr h => ?_)
  · obtain ⟨s, v, d, rfl, _⟩ := h
    rfl
  · obtain ⟨s, v, d, rfl, s0, s8, hd, k⟩ := h
    refine ⟨_, pss_one (ps_ret (pe_call GT hr rfl FT.g FT.F.kp FT.b .nil pass0 (by exact (pa_cons (pv 0) (pa_cons pe_int (pa_cons pe_int (pa_cons (pv 1) pa_nil))))))), ?_⟩
    exact ⟨_, rfl, _, rfl, s, 1, 3, v, d, rfl, s0, s8, by decide, by decide, hd, k⟩
def spNeedSize (K : PySem.W.Frag) (cS : Addr) : Sp := fun vs H Q E => ∃ (v : V) (d : D), vs = [v] ∧ Dp K H v d ∧ (isBt 2 8 d = true → ∀ H', Same H H' → Q .non H') ∧ (isBt 2 8 d = false → Thr cS "word" (.str "size") H E)
theorem scNeedSize : FnScope ["value"] ["value"] (defScope sNeedSize) := ⟨rfl, rfl, rfl, by decide +kernel, rfl, by decide +kernel, by decide +kernel⟩
theorem ok_needSize {f fS : Addr} {fd fdS : FuncData} (F : Fun K "need_size" "need_size" sNeedSize f fd) (T : Ers K mg B cB iB cO iO cV iV cS iS) (FS : At K mg "is_size" sSize fS fdS ["value"]) (GS : FnOk P w K mg base CX0 3 fS fdS ["value"] (spB K (isBt 2 8))) :
    FnOk P w K mg base (L2.CX P w) 4 f fd ["value"] (spNeedSize K cS) := by
  refine F.okX scNeedSize (fun vs H Q E h => ?_) (fun cdv A outer s H vs Q E hr h => ?_)
  · obtain ⟨v, d, rfl, _⟩ := h
    rfl
  · obtain ⟨v, d, rfl, hd, k1, k2⟩ := h
    refine ⟨_, pss_one (ps_if (pt_not (pt_val (pe_call GS hr rfl FS.g FS.F.kp FS.b .nil pass0 (by exact (pa_cons (pv 0) pa_nil)))))
      (pss_one (ps_err rfl T.s.T T.s.U hr (takes_of rfl rfl rfl rfl) (by exact (pa_cons pe_str pa_nil)))) pss_nil), ?_⟩
    refine ⟨_, rfl, v, d, rfl, hd, fun H1 s1 => ⟨_, rfl, ?_⟩⟩
    by_cases hb : isBt 2 8 d = true
    · refine go_f (by rw [hb]; rfl) ?_
      exact k1 hb H1 s1
    · have hf : isBt 2 8 d = false := by simpa using hb
      refine go_t (by rw [hf]; rfl) ?_
      exact ⟨_, rfl, fun d' hd' => k2 hf H1 d' s1 hd'⟩
/-- an operation in tuples -/
def opD (d : D) : D := .tuple [(items d).getD 0 .none, .tuple (items ((items d).getD 1 .none))]
theorem table_is {s lo hi : Int} {d : D} (h : isTable s lo hi d = true) : isSq d = true ∧ ∃ (n : Int) (d1 : D), items d = [.int n, d1] ∧ lo ≤ n ∧ n ≤ hi ∧ isSq d1 = true ∧ ((items d1).length : Int) = pow' s n.toNat ∧ (items d1).all (isB s) = true := by
  unfold isTable at h
  simp only [Bool.and_eq_true] at h
  obtain ⟨h1, h2, h3, h4⟩ := h
  unfold isRow at h1
  simp only [Bool.and_eq_true, decide_eq_true_eq] at h1
  obtain ⟨d0, d1, hit⟩ : ∃ d0 d1, items d = [d0, d1] := by
    match items d, (show (items d).length = 2 by omega) with
    | [a, b], _ => exact ⟨a, b, rfl⟩
  rw [hit] at h2 h3 h4
  unfold isBt at h2
  simp only [Bool.and_eq_true, decide_eq_true_eq] at h2
  obtain ⟨h21, h22, h23⟩ := h2
  cases d0 with
  | int n =>
    unfold isRow at h3
    simp only [Bool.and_eq_true, decide_eq_true_eq] at h3
    exact ⟨h1.1, n, d1, hit, h22, h23, h3.1, h3.2, h4⟩
  | none => cases h21
  | bool _ => cases h21
  | str _ => cases h21
  | list _ => cases h21
  | tuple _ => cases h21
  | dict _ => cases h21
def spNeedOp (K : PySem.W.Frag) (cO cS : Addr) : Sp := fun vs H Q E => ∃ (vz v : V) (dz d : D), vs = [vz, v] ∧ Dp K H vz dz ∧ Dp K H v d ∧ (isBt 2 8 dz = false → Thr cS "word" (.str "size") H E) ∧
  (isBt 2 8 dz = true → isTable (intV dz) 1 3 d = false → Thr cO "at" (.int (-1)) H E) ∧
  (isBt 2 8 dz = true → isTable (intV dz) 1 3 d = true → ∀ H' v', Same H H' → Dp K H' v' (opD d) → Q v' H')
theorem scNeedOp : FnScope ["size", "value"] ["size", "value"] (defScope (top 24)) := ⟨rfl, rfl, rfl, by decide +kernel, rfl, by decide +kernel, by decide +kernel⟩
abbrev sNeedOp : Stmt := top 24
theorem bt_int {a b : Int} {d : D} (h : isBt a b d = true) : ∃ i, d = .int i ∧ a ≤ i ∧ i ≤ b := by
  unfold isBt at h
  simp only [Bool.and_eq_true, decide_eq_true_eq] at h
  cases d with
  | int i => exact ⟨i, rfl, h.2.1, h.2.2⟩
  | none => cases h.1
  | bool _ => cases h.1
  | str _ => cases h.1
  | list _ => cases h.1
  | tuple _ => cases h.1
  | dict _ => cases h.1
/-- tuple(x) of a list or a tuple -/
theorem kTup_sq {H : Hp} {v : V} {d : D} {Q : VK} (h : Dp K H v d) (hs : isSq d = true) (k : ∀ H' v', Same H H' → Dp K H' v' (.tuple (items d)) → Q v' H') : kTup K v H Q := by
  obtain ⟨a, xs, rfl, q, r⟩ := dp_seq h hs
  rcases q with q | q
  · exact .inl ⟨a, xs, rfl, q, fun t ht => k _ _ (same_new ht) (.tup (SqT.of upd_same) (dpAll_same (same_new ht) r))⟩
  · exact .inr ⟨a, xs, rfl, q, k _ _ (Same.refl H) (.tup q r)⟩
theorem ok_needOp {f fS fO : Addr} {fd fdS fdO : FuncData} (F : Fun K "need_operation" "need_operation" sNeedOp f fd) (Z : Bi mg) (T : Ers K mg B cB iB cO iO cV iV cS iS) (FS : At K mg "need_size" sNeedSize fS fdS ["value"])
    (GS : FnOk P w K mg base (L2.CX P w) 4 fS fdS ["value"] (spNeedSize K cS)) (FO : At K mg "is_operation" sOper fO fdO ["size", "value"]) (GO : FnOk P w K mg base CX0 5 fO fdO ["size", "value"] (spOper K)) :
    FnOk P w K mg base (L2.CX P w) 6 f fd ["size", "value"] (spNeedOp K cO cS) := by
  refine F.okX scNeedOp (fun vs H Q E h => ?_) (fun cdv A outer s H vs Q E hr h => ?_)
  · obtain ⟨vz, v, dz, d, rfl, _⟩ := h
    rfl
  · obtain ⟨vz, v, dz, d, rfl, hz, hd, k1, k2, k3⟩ := h
    refine ⟨_, pss_cons (ps_expr (pe_callS GS (hr.mono (by decide)) rfl FS.g FS.F.kp FS.b (fun σ => passAt (takes_of rfl rfl rfl rfl) σ) (by exact (pa_cons (pv 0) pa_nil))))
      (pss_cons (ps_if (pt_not (pt_val (pe_call GO hr rfl FO.g FO.F.kp FO.b .nil pass0 (by exact (pa_cons (pv 0) (pa_cons (pv 1) pa_nil))))))
        (pss_one (ps_err rfl T.o.T T.o.U hr (takes_of rfl rfl rfl rfl) (by exact (pa_cons (pe_un un_neg pe_int) pa_nil)))) pss_nil)
      (pss_one (ps_ret (pe_tup (by exact (pa_cons (pe_ix ix_seq (pv 1) pe_int (fun _ _ => rfl)) (pa_cons (pe_tupleOf (by rfl) Z.tuple (pe_ix ix_seq (pv 1) pe_int (fun _ _ => rfl))) pa_nil))))))), ?_⟩
    refine ⟨_, rfl, vz, dz, rfl, hz, fun hb H1 s1 => ?_, k1⟩
    obtain ⟨i, rfl, i2, i8⟩ := bt_int hb
    obtain rfl : vz = .int i := by cases hz; rfl
    refine ⟨_, rfl, _, rfl, i, v, d, rfl, by omega, i8, dp_same s1 hd, fun H2 s2 => ⟨_, rfl, ?_⟩⟩
    have s02 := s1.trans s2
    by_cases ht : isTable i 1 3 d = true
    · refine go_f (by rw [ht]; rfl) ?_
      obtain ⟨hsq, n, d1, hit, n1, n3, hs1, _, _⟩ := table_is ht
      have e0 : (items d)[0]? = some (.int n) := by rw [hit]; rfl
      have e1 : (items d)[1]? = some d1 := by rw [hit]; rfl
      obtain ⟨u0, hu0, kk0⟩ := ixS (i := 0) (dp_same s02 hd) hsq e0
      obtain ⟨u1, hu1, kk1⟩ := ixS (i := 1) (dp_same s02 hd) hsq e1
      refine ⟨_, rfl, kk0 _ ⟨_, rfl, kk1 _ (kTup_sq hu1 hs1 fun H3 v3 s3 d3 => ⟨(by show 2 ≤ sizeLine; decide), fun t ht2 => ?_⟩)⟩⟩
      have s4 := same_new (o := .tup [u0, v3]) ht2
      refine k3 hb ht _ _ ((s02.trans s3).trans s4) ?_
      unfold opD
      rw [hit]
      exact .tup (SqT.of upd_same) (.cons (dp_same (s3.trans s4) hu0) (.cons (dp_same s4 d3) .nil))
    · have hf : isTable i 1 3 d = false := by simpa using ht
      refine go_t (by rw [hf]; rfl) ?_
      exact ⟨_, rfl, _, rfl, fun d' hd' => k2 hb hf H2 d' s02 hd'⟩
end
end K01
/-! held values, the held table, the settled value. -/
namespace K01
open PySem L2 FX SQ
def isNo : D → Bool | .none => true | _ => false
def okH (s : Int) (x : D) : Bool := isNo x || isB s x
theorem non_dp {K : PySem.W.Frag} {H : Hp} {v : V} {d : D} (h : Dp K H v d) : decide (v = V.non) = isNo d := by
  cases h <;> rfl
theorem or_f {a b : Bool} (h : a = false) : (a || b) = b := by rw [h]; rfl
/-- an operation of n places with the answers as -/
structure OpIs (s n : Nat) (as : List Nat) (d : D) : Prop where
  sq : isSq d = true
  it : ∃ d1, items d = [nD n, d1] ∧ isSq d1 = true ∧ items d1 = as.map nD
  n1 : 1 ≤ n
  n3 : n ≤ 3
  len : as.length = s ^ n
  lt : ∀ a ∈ as, a < s
structure HeldIs (s n : Nat) (os : List (Option Nat)) (d : D) : Prop where
  sq : isSq d = true
  it : items d = os.map oD
  len : os.length = n
  lt : ∀ m, some m ∈ os → m < s
theorem pow_nat (s : Nat) : ∀ n : Nat, pow' (s : Int) n = ((s ^ n : Nat) : Int)
  | 0 => rfl
  | n + 1 => by
    show pow' s n * s = _
    rw [pow_nat s n, Nat.pow_succ, Int.natCast_mul]
theorem isB_nat {s a : Nat} : isB (s : Int) (nD a) = decide (a < s) := by
  show (decide (0 ≤ (a : Int)) && decide ((a : Int) < (s : Int))) = decide (a < s)
  rw [decide_eq_true (show 0 ≤ (a : Int) by omega), Bool.true_and]
  by_cases h : a < s
  · rw [decide_eq_true h]
    exact decide_eq_true (by omega)
  · rw [decide_eq_false h]
    exact decide_eq_false (by omega)
theorem OpIs.table {s n : Nat} {as : List Nat} {d : D} (h : OpIs s n as d) : isTable s 1 3 d = true := by
  obtain ⟨d1, e, q1, e1⟩ := h.it
  have h1 : isRow 2 d = true := by
    unfold isRow
    rw [h.sq, e]
    rfl
  have h2 : isBt 1 3 (nD n) = true := by
    show (true && (decide ((1 : Int) ≤ (n : Int)) && decide ((n : Int) ≤ 3))) = true
    rw [decide_eq_true (show (1 : Int) ≤ (n : Int) by have := h.n1; omega), decide_eq_true (show (n : Int) ≤ 3 by have := h.n3; omega)]
    rfl
  have h3 : isRow (pow' s n) d1 = true := by
    unfold isRow
    rw [q1, e1, List.length_map, h.len, pow_nat]
    simp
  have h4 : (items d1).all (isB s) = true := by
    rw [e1, List.all_map, List.all_eq_true]
    intro a ha
    show isB s (nD a) = true
    rw [isB_nat]
    exact decide_eq_true (h.lt a ha)
  unfold isTable
  rw [and_t h1, e]
  show (isBt 1 3 (nD n) && (isRow (pow' s n) d1 && (items d1).all (isB s))) = true
  rw [and_t h2, and_t h3, h4]
theorem OpIs.op {s n : Nat} {as : List Nat} {d : D} (h : OpIs s n as d) : opD d = .tuple [nD n, .tuple (as.map nD)] := by
  obtain ⟨d1, e, q1, e1⟩ := h.it
  unfold opD
  rw [e]
  show PyData.tuple [nD n, .tuple (items d1)] = _
  rw [e1]
theorem HeldIs.row {s n : Nat} {os : List (Option Nat)} {d : D} (h : HeldIs s n os d) : isRow n d = true := by
  unfold isRow
  rw [h.sq, h.it, List.length_map, h.len]
  simp
theorem HeldIs.ok {s n : Nat} {os : List (Option Nat)} {d : D} (h : HeldIs s n os d) : ∀ (j : Nat) y, (items d)[j]? = some y → okH s y = true := by
  intro j y hy
  have hm := List.mem_of_getElem? hy
  rw [h.it] at hm
  obtain ⟨o, ho, rfl⟩ := List.mem_map.mp hm
  cases o with
  | none => rfl
  | some m =>
    show (isNo (nD m) || isB s (nD m)) = true
    rw [isB_nat, decide_eq_true (h.lt m ho)]
    rfl
section
variable {P : Program} {w : World} {K : PySem.W.Frag} {mg : Str → Option Value} {base : Heap} {B cB iB cO iO cV iV cS iS : Addr}
abbrev sNeedHeld : Stmt := top 26
def spNeedHeld (K : PySem.W.Frag) (cV : Addr) : Sp := fun vs H Q E => ∃ (s p : Int) (v : V) (d : D), vs = [.int s, .int p, v] ∧ Dp K H v d ∧ (isRow p d = false → Thr cV "at" (.int (-1)) H E) ∧
  (isRow p d = true → ∀ (i : Nat) x, (items d)[i]? = some x → okH s x = false → (∀ j : Nat, j < i → ∀ y, (items d)[j]? = some y → okH s y = true) → Thr cV "at" (.int (i : Nat)) H E) ∧
  (isRow p d = true → (∀ (j : Nat) y, (items d)[j]? = some y → okH s y = true) → ∀ H', Same H H' → Q .non H')
abbrev NNeedHeld : List Str := ["size", "places", "held", "at", "value"]
theorem scNeedHeld : FnScope NNeedHeld ["size", "places", "held"] (defScope sNeedHeld) := ⟨rfl, rfl, rfl, by decide +kernel, rfl, by decide +kernel, by decide +kernel⟩
theorem ok_needHeld {f fR fL : Addr} {fd fdR fdL : FuncData} (F : Fun K "need_held" "need_held" sNeedHeld f fd) (Z : Bi mg) (T : Ers K mg B cB iB cO iO cV iV cS iS) (FR : At K mg "is_row_of" sRowOf fR fdR ["many", "value"]) (GR : FnOk P w K mg base CX0 2 fR fdR ["many", "value"] (spB1 K isRow))
    (FL : At K mg "is_below" sBelow fL fdL ["many", "value"]) (GL : FnOk P w K mg base CX0 3 fL fdL ["many", "value"] (spB1 K isB)) :
    FnOk P w K mg base (L2.CX P w) 4 f fd ["size", "places", "held"] (spNeedHeld K cV) := by
  refine F.okX scNeedHeld (fun vs H Q E h => ?_) (fun cdv A outer s H vs Q E hr h => ?_)
  · obtain ⟨s, p, v, d, rfl, _⟩ := h
    rfl
  · obtain ⟨s, p, v, d, rfl, hd, k1, k2, k3⟩ := h
    refine ⟨_, pss_cons (ps_if (pt_not (pt_val (pe_call GR (hr.mono (by decide)) rfl FR.g FR.F.kp FR.b .nil pass0 (by exact (pa_cons (pv 1) (pa_cons (pv 2) pa_nil))))))
        (pss_one (ps_err rfl T.v.T T.v.U hr (takes_of rfl rfl rfl rfl) (by exact (pa_cons (pe_un un_neg pe_int) pa_nil)))) pss_nil)
      (pss_one (ps_for (passes_of rfl) rfl (pi_enum2 (by rfl) Z.enumerate (pa_cons (pv 2) pa_nil)) (pg_tup rfl (pgs_cons (pg_name (i := 3) scNeedHeld.nd rfl (Or.inl rfl)) (pgs_cons (pg_name (i := 4) scNeedHeld.nd rfl (Or.inl rfl)) pgs_nil)))
        (pss_one (ps_if (PW.pt (pw_and (pt_cmpR op_notN (pv 4) pe_non (nomark _)) (pw_and1 (pt_not (pt_val (pe_call GL hr rfl FL.g FL.F.kp FL.b .nil pass0 (by exact (pa_cons (pv 0) (pa_cons (pv 4) pa_nil)))))))))
          (pss_one (ps_err rfl T.v.T T.v.U hr (takes_of rfl rfl rfl rfl) (by exact (pa_cons (pv 3) pa_nil)))) pss_nil)))), ?_⟩
    refine ⟨_, rfl, _, rfl, p, v, d, rfl, hd, fun H1 s1 => ⟨_, rfl, ?_⟩⟩
    by_cases hrow : isRow p d = true
    case neg =>
      have hf : isRow p d = false := by simpa using hrow
      refine go_t (by rw [hf]; rfl) ?_
      exact ⟨_, rfl, _, rfl, fun d' hd' => k1 hf H1 d' s1 hd'⟩
    refine go_f (by rw [hrow]; rfl) ?_
    have hsq : isSq d = true := by
      unfold isRow at hrow
      simp only [Bool.and_eq_true] at hrow
      exact hrow.1
    obtain ⟨a, xs, rfl, q, r⟩ := dp_seq (dp_same s1 hd) hsq
    obtain ⟨kd, qk⟩ : ∃ kd, SqK K H1 kd a xs := q.elim (fun q => ⟨.L, q⟩) fun q => ⟨.T, q⟩
    have lx : xs.length = (items d).length := dpAll_len r
    refine ⟨_, rfl, a, xs, kd, rfl, qk, for_it (walk_enum2 (k := kd) (a := a) (xs := xs) (n := xs.length) rfl)
      (fun i σ H' => ∃ u1 u2 : Option V, σ = [some (.int s), some (.int p), some (.ref a), u1, u2] ∧ Same H1 H' ∧ ∀ j, j < i → ∀ y, (items d)[j]? = some y → okH s y = true)
      ⟨none, none, rfl, Same.refl H1, fun j hj => by omega⟩ (fun i σ H' _ ⟨_, _, _, s2, _⟩ => sqK_same s2 qk) ?_ ?_⟩
    · rintro i x σ H2 H3 hi ⟨u1, u2, rfl, s2, hj⟩ ⟨t, x1, x2, rfl, ht, rfl, hx1, hx2⟩
      obtain rfl : x1 = .int (i : Nat) := (Option.some.inj hx1).symm
      obtain ⟨dx, hdx, hxd⟩ := dpAll_get r hx2
      have s3 := same_new (o := .tup [.int (i : Nat), x2]) ht
      refine ⟨t, _, rfl, SqT.of upd_same, rfl, _, _, rfl, _, _, rfl, rfl, _, rfl, rfl, _, rfl, ?_⟩
      have hn := non_dp hxd
      have ok : okH s dx = true → Same H2 (upd H2 t (.tup [.int (i : Nat), x2])) → ∀ j, j < i + 1 → ∀ y, (items d)[j]? = some y → okH s y = true := fun ho _ j hj' y hy => by
        by_cases e : j = i
        · subst e
          rw [hdx] at hy
          cases hy
          exact ho
        · exact hj j (by omega) y hy
      by_cases hno : isNo dx = true
      · rw [hno] at hn
        refine go_f (by rw [hn]; rfl) ?_
        refine go_f rfl ?_
        exact ⟨_, _, rfl, s2.trans s3, ok (by unfold okH; rw [hno]; rfl) s3⟩
      · have hno' : isNo dx = false := by simpa using hno
        rw [hno'] at hn
        refine go_t (by rw [hn]; rfl) ?_
        refine ⟨_, rfl, _, rfl, s, x2, dx, rfl, dp_same (s2.trans s3) hxd, fun H4 s4 => ⟨_, rfl, ?_⟩⟩
        by_cases hb : isB s dx = true
        · refine go_f (by rw [hb]; rfl) ?_
          exact ⟨_, _, rfl, (s2.trans s3).trans s4, ok (by unfold okH; rw [hb, hno']; rfl) s3⟩
        · have hb' : isB s dx = false := by simpa using hb
          refine go_t (by rw [hb']; rfl) ?_
          refine ⟨_, rfl, _, rfl, fun d' hd' => ?_⟩
          exact k2 hrow i dx hdx (by unfold okH; rw [or_f hno', hb']) hj H4 d' (((s1.trans s2).trans s3).trans s4) hd'
    · rintro σ H2 ⟨u1, u2, rfl, s2, hj⟩
      refine k3 hrow (fun j y hy => hj j ?_ y hy) H2 (s1.trans s2)
      rw [lx]
      exact (List.getElem?_eq_some_iff.mp hy).1
end
end K01
/-! books. -/
namespace K01
open PySem L2 FX SQ
theorem gOr_sq {K : PySem.W.Frag} {H : Hp} {σ : L2.St} {Q : L2.St → Hp → Prop} {t : TGs} {n : Nat} {a : Addr} {xs : List V} (q : SqL K H a xs ∨ SqT K H a xs) (l : xs.length = n) (h : t xs σ H Q) : gOr (gLst K n t) (gTup K n t) (.ref a) σ H Q :=
  q.elim (fun q => .inl ⟨a, xs, rfl, q, l, h⟩) fun q => .inr ⟨a, xs, rfl, q, l, h⟩
def okBook (d : D) : Bool := isRow 2 d && (isBt 2 8 ((items d).getD 0 .none) && (isSq ((items d).getD 1 .none) && decide ((items ((items d).getD 1 .none)).length ≤ 8)))
section
variable {P : Program} {w : World} {K : PySem.W.Frag} {mg : Str → Option Value} {base : Heap} {B cB iB cO iO cV iV cS iS : Addr}
abbrev sNeedBook : Stmt := top 25
def spNeedBook (K : PySem.W.Frag) (cB : Addr) : Sp := fun vs H Q E => ∃ (v : V) (d : D), vs = [v] ∧ Dp K H v d ∧ (okBook d = false → Thr cB "at" (.int (-1)) H E) ∧
  (okBook d = true → ∀ (s : Int) d1, items d = [.int s, d1] → (∀ (i : Nat) x, (items d1)[i]? = some x → isTable s 1 3 x = false → (∀ j : Nat, j < i → ∀ y, (items d1)[j]? = some y → isTable s 1 3 y = true) → Thr cB "at" (.int (i : Nat)) H E) ∧
    ((∀ (j : Nat) y, (items d1)[j]? = some y → isTable s 1 3 y = true) → ∀ H' v', Same H H' → Dp K H' v' (.tuple [.int s, .tuple ((items d1).map opD)]) → Q v' H'))
abbrev NBook : List Str := ["value", "at", "operation", "places", "answers"]
theorem scBook : FnScope NBook ["value"] (defScope sNeedBook) := ⟨rfl, rfl, rfl, by decide +kernel, rfl, by decide +kernel, by decide +kernel⟩
theorem ok_book {f fR fZ fS fO : Addr} {fd fdR fdZ fdS fdO : FuncData} (F : Fun K "need_book" "need_book" sNeedBook f fd) (Z : Bi mg) (T : Ers K mg B cB iB cO iO cV iV cS iS) (FR : At K mg "is_row_of" sRowOf fR fdR ["many", "value"]) (GR : FnOk P w K mg base CX0 2 fR fdR ["many", "value"] (spB1 K isRow))
    (FZ : At K mg "is_size" sSize fZ fdZ ["value"]) (GZ : FnOk P w K mg base CX0 3 fZ fdZ ["value"] (spB K (isBt 2 8))) (FS : At K mg "is_sequence" sSequence fS fdS ["value"]) (GS : FnOk P w K mg base CX0 1 fS fdS ["value"] (spB K isSq))
    (FO : At K mg "is_operation" sOper fO fdO ["size", "value"]) (GO : FnOk P w K mg base CX0 5 fO fdO ["size", "value"] (spOper K)) :
    FnOk P w K mg base (L2.CX P w) 6 f fd ["value"] (spNeedBook K cB) := by
  refine F.okX scBook (fun vs H Q E h => ?_) (fun cdv A outer s H vs Q E hr h => ?_)
  · obtain ⟨v, d, rfl, _⟩ := h
    rfl
  · obtain ⟨v, d, rfl, hd, k1, k2⟩ := h
    refine ⟨_, pss_cons (ps_if (PW.pt (pw_or (pt_not (pt_val (pe_call GR (hr.mono (by decide)) rfl FR.g FR.F.kp FR.b .nil pass0 (by exact (pa_cons pe_int (pa_cons (pv 0) pa_nil))))))
          (pw_or (pt_not (pt_val (pe_call GZ (hr.mono (by decide)) rfl FZ.g FZ.F.kp FZ.b .nil pass0 (by exact (pa_cons (pe_ix ix_seq (pv 0) pe_int (fun _ _ => rfl)) pa_nil)))))
          (pw_or (pt_not (pt_val (pe_call GS (hr.mono (by decide)) rfl FS.g FS.F.kp FS.b .nil pass0 (by exact (pa_cons (pe_ix ix_seq (pv 0) pe_int (fun _ _ => rfl)) pa_nil)))))
          (pw_or1 (pt_cmpR op_gt (pe_callB call_len_seq (by rfl) Z.len PySem.boot_len (pa_cons (pe_ix ix_seq (pv 0) pe_int (fun _ _ => rfl)) pa_nil)) pe_int (nomark _)))))))
        (pss_one (ps_err rfl T.b.T T.b.U hr (takes_of rfl rfl rfl rfl) (by exact (pa_cons (pe_un un_neg pe_int) pa_nil)))) pss_nil)
      (pss_cons (ps_for (passes_of rfl) rfl (pi_enum2 (by rfl) Z.enumerate (pa_cons (pe_ix ix_seq (pv 0) pe_int (fun _ _ => rfl)) pa_nil)) (pg_tup rfl (pgs_cons (pg_name (i := 1) scBook.nd rfl (Or.inl rfl)) (pgs_cons (pg_name (i := 2) scBook.nd rfl (Or.inl rfl)) pgs_nil)))
        (pss_one (ps_if (pt_not (pt_val (pe_call GO hr rfl FO.g FO.F.kp FO.b .nil pass0 (by exact (pa_cons (pe_ix ix_seq (pv 0) pe_int (fun _ _ => rfl)) (pa_cons (pv 2) pa_nil))))))
          (pss_one (ps_err rfl T.b.T T.b.U hr (takes_of rfl rfl rfl rfl) (by exact (pa_cons (pv 1) pa_nil)))) pss_nil)))
      (pss_one (ps_ret (pe_tup (by exact (pa_cons (pe_ix ix_seq (pv 0) pe_int (fun _ _ => rfl)) (pa_cons (pe_tupleF (by rfl) Z.tuple
        (pe_lc (own := [("places", 3), ("answers", 4)]) (g := gOr (gLst K 2 (gCons (gName 3) (gCons (gName 4) gNil))) (gTup K 2 (gCons (gName 3) (gCons (gName 4) gNil)))) (tt := tYes) (wi := iSq K (tOp (rIx K) (tVar 0) (tC (.int 1))))
          (te := tTup (tCons (tVar 3) (tCons (tThen (tVar 4) (kTup K)) tNil))) rfl scBook.nd (pi_sq (pe_ix ix_seq (pv 0) pe_int (fun _ _ => rfl))) (blkOk_by (N := NBook) (sc := defScope sNeedBook) (by decide +kernel))
          (fun _ _ _ _ _ => pg_or2 (pg_lst rfl (pgs_cons (pg_name (i := 3) scBook.nd rfl (Or.inl rfl)) (pgs_cons (pg_name (i := 4) scBook.nd rfl (Or.inl rfl)) pgs_nil))) (pg_tup rfl (pgs_cons (pg_name (i := 3) scBook.nd rfl (Or.inl rfl)) (pgs_cons (pg_name (i := 4) scBook.nd rfl (Or.inl rfl)) pgs_nil)))) (fun _ _ _ _ _ => pts_nil)
          (fun _ _ _ _ _ => pe_tup (pa_cons (pv 3) (pa_cons (pe_tupleOf (by rfl) Z.tuple (pv 4)) pa_nil))))) pa_nil))))))), ?_⟩
    refine ⟨_, rfl, 2, v, d, rfl, hd, fun H1 s1 => ⟨_, rfl, ?_⟩⟩
    by_cases hrow : isRow 2 d = true
    case neg =>
      have hf : isRow 2 d = false := by simpa using hrow
      refine go_t (by rw [hf]; rfl) ?_
      refine go_t rfl ?_
      exact ⟨_, rfl, _, rfl, fun d' hd' => k1 (and_f hf) H1 d' s1 hd'⟩
    refine go_f (by rw [hrow]; rfl) ?_
    have hsq : isSq d = true := by
      unfold isRow at hrow
      simp only [Bool.and_eq_true] at hrow
      exact hrow.1
    obtain ⟨d0, d1, hit⟩ : ∃ d0 d1, items d = [d0, d1] := by
      have hl2 : (items d).length = 2 := by
        unfold isRow at hrow
        simp only [Bool.and_eq_true, decide_eq_true_eq] at hrow
        omega
      match items d, hl2 with
      | [a, b], _ => exact ⟨a, b, rfl⟩
    have e0 : (items d)[0]? = some d0 := by rw [hit]; rfl
    have e1 : (items d)[1]? = some d1 := by rw [hit]; rfl
    have eB : okBook d = (isBt 2 8 d0 && (isSq d1 && decide ((items d1).length ≤ 8))) := by
      unfold okBook
      rw [and_t hrow, hit]
      rfl
    obtain ⟨u0, hu0, kk0⟩ := ixS (i := 0) (dp_same s1 hd) hsq e0
    refine ⟨_, rfl, kk0 _ ⟨u0, d0, rfl, hu0, fun H2 s2 => ⟨_, rfl, ?_⟩⟩⟩
    have s02 := s1.trans s2
    by_cases hbt : isBt 2 8 d0 = true
    case neg =>
      have hf : isBt 2 8 d0 = false := by simpa using hbt
      refine go_t (by rw [hf]; rfl) ?_
      refine go_t rfl ?_
      exact ⟨_, rfl, _, rfl, fun d' hd' => k1 (by rw [eB]; exact and_f hf) H2 d' s02 hd'⟩
    refine go_f (by rw [hbt]; rfl) ?_
    rw [and_t hbt] at eB
    obtain ⟨s, rfl, i2, i8⟩ := bt_int hbt
    obtain ⟨u1, hu1, kk1⟩ := ixS (i := 1) (dp_same s02 hd) hsq e1
    refine ⟨_, rfl, kk1 _ ⟨u1, d1, rfl, hu1, fun H3 s3 => ⟨_, rfl, ?_⟩⟩⟩
    have s03 := s02.trans s3
    by_cases hs1 : isSq d1 = true
    case neg =>
      have hf : isSq d1 = false := by simpa using hs1
      refine go_t (by rw [hf]; rfl) ?_
      refine go_t rfl ?_
      exact ⟨_, rfl, _, rfl, fun d' hd' => k1 (by rw [eB]; exact and_f hf) H3 d' s03 hd'⟩
    refine go_f (by rw [hs1]; rfl) ?_
    rw [and_t hs1] at eB
    obtain ⟨u1', hu1', kk1'⟩ := ixS (i := 1) (dp_same s03 hd) hsq e1
    obtain ⟨a, xs, rfl, q, r⟩ := dp_seq hu1' hs1
    have lx : xs.length = (items d1).length := dpAll_len r
    refine ⟨_, rfl, kk1' _ ⟨a, xs, rfl, q, _, _, rfl, rfl, _, rfl, ?_⟩⟩
    rw [lx]
    by_cases h8 : (items d1).length ≤ 8
    case neg =>
      refine go_t (decide_eq_true (by omega)) ?_
      exact ⟨_, rfl, _, rfl, fun d' hd' => k1 (by rw [eB]; exact decide_eq_false h8) H3 d' s03 hd'⟩
    refine go_f (decide_eq_false (by omega)) ?_
    have ok : okBook d = true := by rw [eB]; exact decide_eq_true h8
    obtain ⟨k2a, k2b⟩ := k2 ok s d1 hit
    obtain ⟨kd, qk⟩ : ∃ kd, SqK K H3 kd a xs := q.elim (fun q => ⟨.L, q⟩) fun q => ⟨.T, q⟩
    refine ⟨_, rfl, kk1' _ ⟨a, xs, kd, rfl, qk, for_it (walk_enum2 (k := kd) (a := a) (xs := xs) (n := xs.length) rfl)
      (fun i σ H' => ∃ u1 u2 : Option V, σ = [some v, u1, u2, none, none] ∧ Same H3 H' ∧ ∀ j : Nat, j < i → ∀ y, (items d1)[j]? = some y → isTable s 1 3 y = true)
      ⟨none, none, rfl, Same.refl H3, fun j hj => by omega⟩ (fun i σ H' _ ⟨_, _, _, s2, _⟩ => sqK_same s2 qk) ?_ ?_⟩⟩
    · rintro i x σ H4 H5 hi ⟨w1, w2, rfl, s4, hj⟩ ⟨t, x1, x2, rfl, ht, rfl, hx1, hx2⟩
      obtain rfl : x1 = .int (i : Nat) := (Option.some.inj hx1).symm
      obtain ⟨dx, hdx, hxd⟩ := dpAll_get r hx2
      have s5 := same_new (o := .tup [.int (i : Nat), x2]) ht
      have s05 := s03.trans (s4.trans s5)
      obtain ⟨u0', hu0', kk0'⟩ := ixS (i := 0) (dp_same s05 hd) hsq e0
      obtain rfl : u0' = .int s := by cases hu0'; rfl
      refine ⟨t, _, rfl, SqT.of upd_same, rfl, _, _, rfl, _, _, rfl, rfl, _, rfl, kk0' _ ⟨_, rfl, s, x2, dx, rfl, by omega, i8, dp_same (s4.trans s5) hxd, fun H6 s6 => ⟨_, rfl, ?_⟩⟩⟩
      by_cases hb : isTable s 1 3 dx = true
      · refine go_f (by rw [hb]; rfl) ?_
        refine ⟨_, _, rfl, (s4.trans s5).trans s6, fun j hj' y hy => ?_⟩
        by_cases e : j = i
        · subst e
          rw [hdx] at hy
          cases hy
          exact hb
        · exact hj j (by omega) y hy
      · have hb' : isTable s 1 3 dx = false := by simpa using hb
        refine go_t (by rw [hb']; rfl) ?_
        exact ⟨_, rfl, _, rfl, fun d' hd' => k2a i dx hdx hb' hj H6 d' (s05.trans s6) hd'⟩
    · rintro σ H4 ⟨w1, w2, rfl, s4, hj⟩
      have all : ∀ (j : Nat) y, (items d1)[j]? = some y → isTable s 1 3 y = true := fun j y hy => hj j (by rw [lx]; exact (List.getElem?_eq_some_iff.mp hy).1) y hy
      have s04 := s03.trans s4
      obtain ⟨u0', hu0', kk0'⟩ := ixS (i := 0) (dp_same s04 hd) hsq e0
      obtain rfl : u0' = .int s := by cases hu0'; rfl
      obtain ⟨u2, hu2, kk2⟩ := ixS (i := 1) (dp_same s04 hd) hsq e1
      obtain ⟨a2, x2s, rfl, q2, r2⟩ := dp_seq hu2 hs1
      obtain ⟨kd2, qk2⟩ : ∃ kd, SqK K H4 kd a2 x2s := q2.elim (fun q => ⟨.L, q⟩) fun q => ⟨.T, q⟩
      have lx2 : x2s.length = (items d1).length := dpAll_len r2
      refine ⟨_, rfl, kk0' _ (iSq_of (kd := kd2) (fun Q kq => ⟨_, rfl, kk2 Q kq⟩) qk2 fun D hD => walk_it (walk_sq (n := x2s.length) rfl) (fun i H' => Same H4 H' ∧ Grow K H' D (((items d1).take i).map opD)) ⟨same_new hD, Grow.nil⟩ (fun i H' _ p => sqK_same p.1 qk2) ?_ ?_)⟩
      · rintro i x _ H5 hi ⟨s5, g5⟩ ⟨rfl, hx⟩
        obtain ⟨dx, hdx, hxd⟩ := dpAll_get r2 hx
        obtain ⟨hsx, n, dx1, hitx, _, _, hsx1, _, _⟩ := table_is (all i dx hdx)
        obtain ⟨ax, xx, rfl, qx, rx⟩ := dp_seq hxd hsx
        rw [hitx] at rx
        obtain ⟨y0, y1, rfl, hy0, hy1⟩ : ∃ y0 y1, xx = [y0, y1] ∧ Dp K H4 y0 (.int n) ∧ Dp K H4 y1 dx1 := by
          cases rx with
          | cons h0 r => cases r with
            | cons h1 r => cases r with
              | nil => exact ⟨_, _, rfl, h0, h1⟩
        have qx5 : SqL K H5 ax [y0, y1] ∨ SqT K H5 ax [y0, y1] := qx.elim (fun q => .inl (s5.seq q)) fun q => .inr (seqT s5 q)
        obtain ⟨a1, x1s, rfl, q1, r1⟩ := dp_seq hy1 hsx1
        obtain ⟨acc, eD, _⟩ := id g5
        have lacc := g5.len eD
        rw [List.length_map, List.length_take] at lacc
        have et : ((items d1).take (i + 1)).map opD = (((items d1).take i).map opD) ++ [opD dx] := by
          rw [take_more hdx, List.map_append]
          rfl
        have eo : opD dx = .tuple [.int n, .tuple (items dx1)] := by
          unfold opD
          rw [hitx]
          rfl
        have fin : ∀ (H6 : Hp) (v6 : V), Same H5 H6 → H6 D = some (.lst acc) → Dp K (off H6 D) v6 (.tuple (items dx1)) → ∀ t, H6 t = none →
            ∃ acc, (upd H6 t (.tup [y0, v6])) D = some (.lst acc) ∧ acc.length < sizeLine ∧ (Same H4 (upd (upd H6 t (.tup [y0, v6])) D (.lst (acc ++ [.ref t]))) ∧ Grow K (upd (upd H6 t (.tup [y0, v6])) D (.lst (acc ++ [.ref t]))) D (((items d1).take (i + 1)).map opD)) := by
          intro H6 v6 s6 eD6 d6 t ht
          have nt : D ≠ t := ne_of_none eD6 ht
          have s7 := same_new (o := .tup [y0, v6]) ht
          refine ⟨acc, by rw [upd_ne nt]; exact eD6, by rw [lacc, sizeLine_eq]; omega, same_of ((s5.trans s6).trans s7) hD, ?_⟩
          rw [et, eo]
          refine ((g5.keep s6).keep s7).put (by rw [upd_ne nt]; exact eD6) ?_
          exact .tup (SqT.of (by rw [off_ne (Ne.symm nt), upd_same])) (.cons (dp_off hy0 ((s5.trans s6).trans s7) hD) (.cons (dp_same (off_mono fun c o _ e => s7 c o e) d6) .nil))
        refine gOr_sq qx5 rfl ⟨_, _, rfl, _, _, rfl, rfl, rfl, ?_⟩
        refine ⟨_, rfl, _, rfl, ?_⟩
        rcases q1 with q1 | q1
        · refine .inl ⟨a1, x1s, rfl, s5.seq q1, fun t2 ht2 => ⟨(by show 2 ≤ sizeLine; decide), ?_⟩⟩
          have n2 : D ≠ t2 := ne_of_none eD ht2
          have s6 := same_new (o := .tup x1s) ht2
          exact fin _ (.ref t2) s6 (by rw [upd_ne n2]; exact eD) (.tup (SqT.of (by rw [off_ne (Ne.symm n2), upd_same])) (dpAll_same (fun c o e => by
            rw [off_ne (ne_of_none e hD)]
            exact s6 _ _ (s5 _ _ e)) r1))
        · exact .inr ⟨a1, x1s, rfl, seqT s5 q1, (by show 2 ≤ sizeLine; decide), fin H5 (.ref a1) (Same.refl H5) eD (dp_off (.tup q1 r1) s5 hD)⟩
      · rintro H5 ⟨s5, g5⟩
        rw [lx2, List.take_length] at g5
        obtain ⟨vs, e3, d3⟩ := id g5
        refine ⟨D, vs, rfl, SqL.of e3, fun q o hq ho => ⟨(by show 2 ≤ sizeLine; decide), fun t ht => ?_⟩⟩
        have s6 := same_new (o := .frz o (.tup vs)) hq
        have s7 := same_new (o := .tup [.int s, .ref q]) ht
        refine k2b all _ _ (((s04.trans s5).trans s6).trans s7) ?_
        exact .tup (SqT.of upd_same) (.cons (.int s) (.cons (dp_same s7 (.tup (.inl (.inr ⟨o, upd_same⟩)) (dpAll_same (off_le.trans s6) d3))) .nil))
end
end K01
/-! the held table, the settled value. -/
namespace K01
open PySem L2 FX SQ
def Scen (K : PySem.W.Frag) (cO cV cS : Addr) (OK : Nat → Nat → List Nat → List (Option Nat) → Prop) (H : Hp) (E : XK) (vh : V) (dz dp dh : D) : Prop :=
  (isBt 2 8 dz = false ∧ Thr cS "word" (.str "size") H E) ∨ ∃ s : Nat, dz = nD s ∧ 2 ≤ s ∧ s ≤ 8 ∧
    ((isTable s 1 3 dp = false ∧ Thr cO "at" (.int (-1)) H E) ∨ ∃ (n : Nat) (as : List Nat), OpIs s n as dp ∧
      ((isRow n dh = false ∧ Thr cV "at" (.int (-1)) H E) ∨
       (isRow n dh = true ∧ ∃ (i : Nat) (x : D), (items dh)[i]? = some x ∧ okH s x = false ∧ (∀ j : Nat, j < i → ∀ y, (items dh)[j]? = some y → okH s y = true) ∧ Thr cV "at" (.int (i : Nat)) H E) ∨
       ∃ os, HeldIs s n os dh ∧ (∀ ds, dh = .tuple ds → Nd K H vh) ∧ OK s n as os))
def cntN (os : List (Option Nat)) : Nat := os.countP fun o => o.isNone
theorem bt_nat {s : Nat} (h2 : 2 ≤ s) (h8 : s ≤ 8) : isBt 2 8 (nD s) = true := by
  show (true && (decide ((2 : Int) ≤ (s : Int)) && decide ((s : Int) ≤ 8))) = true
  rw [decide_eq_true (show (2 : Int) ≤ (s : Int) by omega), decide_eq_true (show (s : Int) ≤ 8 by omega)]
  rfl
theorem heldV_of {K : PySem.W.Frag} {H : Hp} {v : V} {d : D} {os : List (Option Nat)} {s n : Nat} (h : HeldIs s n os d) (hd : Dp K H v d) (nd : ∀ ds, d = .tuple ds → Nd K H v) : HeldV K H v (os.map oD) := by
  have hs := h.sq
  have hi := h.it
  cases d with
  | list ds =>
    have : ds = os.map oD := hi
    subst this
    exact .inl hd
  | tuple ds =>
    have : ds = os.map oD := hi
    subst this
    exact .inr ⟨hd, nd _ rfl⟩
  | none => cases hs
  | bool _ => cases hs
  | int _ => cases hs
  | str _ => cases hs
  | dict _ => cases hs
section
variable {P : Program} {w : World} {K : PySem.W.Frag} {mg : Str → Option Value} {base : Heap} {B cB iB cO iO cV iV cS iS : Addr}
abbrev sHT : Stmt := top 27
abbrev sSettled : Stmt := top 28
def spHT (K : PySem.W.Frag) (cO cV cS : Addr) : Sp := fun vs H Q E => ∃ (vz vp vh : V) (dz dp dh : D), vs = [vz, vp, vh] ∧ Dp K H vz dz ∧ Dp K H vp dp ∧ Dp K H vh dh ∧
  Scen K cO cV cS (fun s n as os => ∀ H' t va, Same H H' → H' t = some (.tup [.int (cntN os : Nat), va]) → Dp K H' va (.tuple ((heldAns s as os).map nD)) → Nd K H' va → Q (.ref t) H') H E vh dz dp dh
abbrev NHT : List Str := ["size", "operation", "held", "places", "answers"]
theorem scHT : FnScope NHT ["size", "operation", "held"] (defScope sHT) := ⟨rfl, rfl, rfl, by decide +kernel, rfl, by decide +kernel, by decide +kernel⟩
theorem ok_HT {f fO fH fM fA : Addr} {fd fdO fdH fdM fdA : FuncData} (F : Fun K "held_table" "held_table" sHT f fd) (Z : Bi mg) (FO : At K mg "need_operation" sNeedOp fO fdO ["size", "value"]) (GO : FnOk P w K mg base (L2.CX P w) 6 fO fdO ["size", "value"] (spNeedOp K cO cS))
    (FH : At K mg "need_held" sNeedHeld fH fdH ["size", "places", "held"]) (GH : FnOk P w K mg base (L2.CX P w) 4 fH fdH ["size", "places", "held"] (spNeedHeld K cV))
    (FM : At K mg "left_many" sHeldN fM fdM ["held"]) (FA : At K mg "held_answers" sHeldA fA fdA ["answers", "sizes", "held"]) (GA : FnOk P w K mg base CX0 2 fA fdA ["answers", "sizes", "held"] (spHeldA K)) :
    FnOk P w K mg base (L2.CX P w) 7 f fd ["size", "operation", "held"] (spHT K cO cV cS) := by
  have GM : FnOk P w K mg base CX0 1 fM fdM ["held"] (spHeldN K) := ok_heldN FM.F Z
  refine F.okX scHT (fun vs H Q E h => ?_) (fun cdv A outer s H vs Q E hr h => ?_)
  · obtain ⟨vz, vp, vh, dz, dp, dh, rfl, _⟩ := h
    rfl
  · obtain ⟨vz, vp, vh, dz, dp, dh, rfl, hz, hp, hh, sc⟩ := h
    refine ⟨_, pss_cons (ps_asg (pe_callS GO (hr.mono (by decide)) rfl FO.g FO.F.kp FO.b (fun σ => passAt (takes_of rfl rfl rfl rfl) σ) (by exact (pa_cons (pv 0) (pa_cons (pv 1) pa_nil)))) (pg_tup rfl (pgs_cons (pg_name (i := 3) scHT.nd rfl (Or.inl rfl)) (pgs_cons (pg_name (i := 4) scHT.nd rfl (Or.inl rfl)) pgs_nil))))
      (pss_cons (ps_expr (pe_callS GH (hr.mono (by decide)) rfl FH.g FH.F.kp FH.b (fun σ => passAt (takes_of rfl rfl rfl rfl) σ) (by exact (pa_cons (pv 0) (pa_cons (pv 3) (pa_cons (pv 2) pa_nil))))))
      (pss_one (ps_ret (pe_tup (by exact (pa_cons (pe_call GM (hr.mono (by decide)) rfl FM.g FM.F.kp FM.b .nil pass0 (by exact (pa_cons (pv 2) pa_nil)))
        (pa_cons (pe_call GA (hr.mono (by decide)) rfl FA.g FA.F.kp FA.b .nil pass0 (by exact (pa_cons (pv 4) (pa_cons (pe_op op_rep (pe_lst (by exact (pa_cons (pv 0) pa_nil))) (pv 3)) (pa_cons (pv 2) pa_nil))))) pa_nil))))))), ?_⟩
    refine ⟨_, rfl, _, rfl, vz, vp, dz, dp, rfl, hz, hp, fun e1 => ?_, fun e1 e2 => ?_, fun e1 e2 H1 v1 s1 d1 => ?_⟩
    · rcases sc with ⟨_, k⟩ | ⟨s, rfl, s2, s8, _⟩
      · exact k
      · rw [bt_nat s2 s8] at e1
        cases e1
    · rcases sc with ⟨e, k⟩ | ⟨s, rfl, s2, s8, ⟨_, k⟩ | ⟨n, as, O, _⟩⟩
      · rw [e] at e1
        cases e1
      · exact k
      · rw [show isTable (intV (nD s)) 1 3 dp = isTable s 1 3 dp from rfl, O.table] at e2
        cases e2
    · rcases sc with ⟨e, k⟩ | ⟨s, rfl, s2, s8, ⟨e, k⟩ | ⟨n, as, O, sc⟩⟩
      · rw [e] at e1
        cases e1
      · rw [show isTable (intV (nD s)) 1 3 dp = isTable s 1 3 dp from rfl, e] at e2
        cases e2
      obtain rfl : vz = .int (s : Int) := by cases hz; rfl
      rw [O.op] at d1
      obtain ⟨ap, xp, rfl, qp, rp⟩ := dp_tup d1
      obtain ⟨va, rfl, da⟩ : ∃ va, xp = [.int (n : Int), va] ∧ Dp K H1 va (.tuple (as.map nD)) := by
        cases rp with
        | cons h0 r => cases r with
          | cons h1 r => cases r with
            | nil =>
              cases h0
              exact ⟨_, rfl, h1⟩
      refine ⟨ap, _, rfl, qp, rfl, _, _, rfl, _, _, rfl, rfl, ?_⟩
      refine ⟨_, rfl, _, rfl, _, rfl, s, n, vh, dh, rfl, dp_same s1 hh, fun e => ?_, fun e i x hx hb hj => ?_, fun e hall H2 s2' => ?_⟩
      · rcases sc with ⟨_, k⟩ | ⟨e', _⟩ | ⟨os, hd, _⟩
        · exact k.same s1
        · rw [e'] at e
          cases e
        · rw [hd.row] at e
          cases e
      · rcases sc with ⟨e', _⟩ | ⟨_, i', x', hx', hb', hj', k⟩ | ⟨os, hd, _⟩
        · rw [e'] at e
          cases e
        · have : i = i' := by
            rcases Nat.lt_trichotomy i i' with h | h | h
            · rw [hj' i h x hx] at hb
              cases hb
            · exact h
            · rw [hj i' h x' hx'] at hb'
              cases hb'
          subst this
          exact k.same s1
        · rw [hd.ok i x hx] at hb
          cases hb
      · rcases sc with ⟨e', _⟩ | ⟨_, i', x', hx', hb', hj', k⟩ | ⟨os, hd, nd, k⟩
        · rw [e'] at e
          cases e
        · rw [hall i' x' hx'] at hb'
          cases hb'
        have s02 := s1.trans s2'
        have hv : HeldV K H2 vh (os.map oD) := (heldV_of hd hh nd).same s02
        refine ⟨_, rfl, vh, os, rfl, hv, ?_⟩
        have o3 := O.n3
        refine ⟨_, rfl, _, rfl, (by show 1 ≤ sizeLine; decide), fun l hl => ⟨_, rfl, l, _, _, rfl, rfl, upd_same, by omega, by omega, ?_, fun p hp => ⟨_, rfl, ?_⟩⟩⟩
        · rw [Int.toNat_natCast, sizeLine_eq]
          show 1 * n ≤ _
          omega
        have er : (List.replicate (n : Int).toNat [V.int (s : Int)]).flatten = (List.replicate n s).map fun n : Nat => V.int n := by
          rw [Int.toNat_natCast]
          have : ∀ n : Nat, (List.replicate n [V.int (s : Int)]).flatten = (List.replicate n s).map fun n : Nat => V.int n := fun n => by
            induction n with
            | zero => rfl
            | succ n ih =>
              rw [List.replicate_succ, List.flatten_cons, ih]
              rfl
          exact this n
        rw [er]
        have s3 := (same_new (o := .lst [V.int (s : Int)]) hl).trans (same_new (o := .lst ((List.replicate n s).map fun n : Nat => V.int n)) hp)
        refine ⟨va, .ref p, vh, s, as, os, rfl, dp_same (s2'.trans s3) da, ?_, hv.same s3, by rw [hd.len]; omega, s8, hd.lt, by rw [hd.len]; exact O.len, fun H3 v3 s4 d3 nd3 => ⟨(by show 2 ≤ sizeLine; decide), fun t ht => ?_⟩⟩
        · rw [hd.len]
          exact .lst (SqL.of upd_same) (dpAll_mkn _)
        have s5 := same_new (o := .tup [.int (os.countP fun o => o.isNone : Nat), v3]) ht
        refine k _ t v3 ((s02.trans s3).trans (s4.trans s5)) ?_ (dp_same s5 d3) (nd3.same s5)
        rw [upd_same]
        rfl
/-- the settled answer -/
def settV (s : Nat) (as : List Nat) (os : List (Option Nat)) : V := if alike (heldAns s as os) = true then .int ((heldAns s as os).headD 0 : Nat) else .non
theorem rowsN_ne (css : List (List Nat)) (hc : ∀ c ∈ css, c ≠ []) : rowsN css ≠ [] := by
  suffices h : ∀ acc : List (List Nat), acc ≠ [] → css.foldl stepN acc ≠ [] from h [[]] (by simp)
  induction css with
  | nil => exact fun acc h => h
  | cons c css ih =>
    intro acc h
    refine ih (fun c' h' => hc c' (List.mem_cons_of_mem _ h')) (stepN acc c) ?_
    have h1 := hc c (List.mem_cons_self ..)
    cases acc with
    | nil => exact absurd rfl h
    | cons r acc =>
      cases c with
      | nil => exact absurd rfl h1
      | cons x c => simp [stepN]
theorem heldAns_ne {s : Nat} (hs : 1 ≤ s) (as : List Nat) (os : List (Option Nat)) : heldAns s as os ≠ [] := by
  unfold heldAns
  intro h
  refine rowsN_ne (os.map (choiceN s)) (fun c hc => ?_) (List.map_eq_nil_iff.mp h)
  obtain ⟨o, ho, rfl⟩ := List.mem_map.mp hc
  cases o with
  | none =>
    intro e
    have := congrArg List.length e
    rw [show (choiceN s none).length = s from List.length_range] at this
    simp at this
    omega
  | some n => exact List.cons_ne_nil _ _
def spSett (K : PySem.W.Frag) (cO cV cS : Addr) : Sp := fun vs H Q E => ∃ (vz vp vh : V) (dz dp dh : D), vs = [vz, vp, vh] ∧ Dp K H vz dz ∧ Dp K H vp dp ∧ Dp K H vh dh ∧
  Scen K cO cV cS (fun s n as os => ∀ H', Same H H' → Q (settV s as os) H') H E vh dz dp dh
abbrev NSett : List Str := ["size", "operation", "held", "_", "answers"]
theorem scSett : FnScope NSett ["size", "operation", "held"] (defScope sSettled) := ⟨rfl, rfl, rfl, by decide +kernel, rfl, by decide +kernel, by decide +kernel⟩
theorem Scen.mono {OK OK' : Nat → Nat → List Nat → List (Option Nat) → Prop} {H : Hp} {E : XK} {vh : V} {dz dp dh : D} (sc : Scen K cO cV cS OK H E vh dz dp dh) (h : ∀ s n as os, 2 ≤ s → OK s n as os → OK' s n as os) : Scen K cO cV cS OK' H E vh dz dp dh := by
  rcases sc with sc | ⟨s, e, s2, s8, sc | ⟨n, as, O, sc | sc | ⟨os, hd, nd, k⟩⟩⟩
  · exact .inl sc
  · exact .inr ⟨s, e, s2, s8, .inl sc⟩
  · exact .inr ⟨s, e, s2, s8, .inr ⟨n, as, O, .inl sc⟩⟩
  · exact .inr ⟨s, e, s2, s8, .inr ⟨n, as, O, .inr (.inl sc)⟩⟩
  · exact .inr ⟨s, e, s2, s8, .inr ⟨n, as, O, .inr (.inr ⟨os, hd, nd, h s n as os s2 k⟩)⟩⟩
theorem ok_sett {f fT fA : Addr} {fd fdT fdA : FuncData} (F : Fun K "settled_value" "settled_value" sSettled f fd) (Z : Bi mg) (FT : At K mg "held_table" sHT fT fdT ["size", "operation", "held"]) (GT : FnOk P w K mg base (L2.CX P w) 7 fT fdT ["size", "operation", "held"] (spHT K cO cV cS))
    (FA : At K mg "is_alike" sAlike fA fdA ["row"]) : FnOk P w K mg base (L2.CX P w) 8 f fd ["size", "operation", "held"] (spSett K cO cV cS) := by
  have GA : FnOk P w K mg base CX0 1 fA fdA ["row"] (spAlike K) := ok_alike FA.F Z
  refine F.okX scSett (fun vs H Q E h => ?_) (fun cdv A outer s H vs Q E hr h => ?_)
  · obtain ⟨vz, vp, vh, dz, dp, dh, rfl, _⟩ := h
    rfl
  · obtain ⟨vz, vp, vh, dz, dp, dh, rfl, hz, hp, hh, sc⟩ := h
    refine ⟨_, pss_cons (ps_asg (pe_callS GT hr rfl FT.g FT.F.kp FT.b (fun σ => passAt (takes_of rfl rfl rfl rfl) σ) (by exact (pa_cons (pv 0) (pa_cons (pv 1) (pa_cons (pv 2) pa_nil))))) (pg_tup rfl (pgs_cons (pg_name (i := 3) scSett.nd rfl (Or.inl rfl)) (pgs_cons (pg_name (i := 4) scSett.nd rfl (Or.inl rfl)) pgs_nil))))
      (pss_one (ps_ret (pe_ifExp (pt_val (pe_call GA (hr.mono (by decide)) rfl FA.g FA.F.kp FA.b .nil pass0 (by exact (pa_cons (pv 4) pa_nil)))) (pe_ix ix_tup (pv 4) pe_int (fun _ _ => rfl)) pe_non))), ?_⟩
    refine ⟨_, rfl, _, rfl, _, rfl, vz, vp, vh, dz, dp, dh, rfl, hz, hp, hh, sc.mono fun s n as os s2 k H1 t va s1 ht da nd => ?_⟩
    refine ⟨t, _, rfl, SqT.of ht, rfl, _, _, rfl, _, _, rfl, rfl, ?_⟩
    have kk := k H1 s1
    have ne := heldAns_ne (s := s) (by omega) as os
    unfold settV at kk
    generalize heldAns s as os = ns at *
    refine ⟨_, rfl, va, ns, rfl, da, nd, ne, _, rfl, ?_⟩
    by_cases ha : alike ns = true
    · rw [if_pos ha] at kk
      refine go_t ha ?_
      obtain ⟨a, xs, rfl, q, r⟩ := dp_tup da
      cases ns with
      | nil => exact absurd rfl ne
      | cons n0 nr =>
        cases r with
        | cons h0 r =>
          cases h0
          exact ⟨_, rfl, a, _, _, _, rfl, rfl, q, atI_nat (j := 0) rfl, kk⟩
    · rw [if_neg ha] at kk
      exact go_f (by simpa using ha) kk
end
end K01
/-! The draws. -/
namespace K01
open PySem L2 FX
section
variable {P : Program} {w : World} {K : PySem.W.Frag} {mg : Str → Option Value} {base : Heap}
abbrev sBox : Stmt := top 30
abbrev sTake : Stmt := top 31
abbrev sPick : Stmt := top 32
/-- three ints at p -/
def Box (H : Hp) (p : Addr) : Prop := ∃ x y z : Int, H p = some (.lst [.int x, .int y, .int z])
/-- all but p as it was -/
def But (p : Addr) (H H' : Hp) : Prop := ∀ c o, H c = some o → c ≠ p → H' c = some o
theorem But.refl (p : Addr) (H : Hp) : But p H H := fun _ _ e _ => e
theorem But.trans {p : Addr} {H H1 H2 : Hp} (a : But p H H1) (b : But p H1 H2) : But p H H2 := fun c o e n => b c o (a c o e n) n
theorem But.put {p : Addr} {H H1 : Hp} {o : HO} (a : But p H H1) : But p H (upd H1 p o) := fun c u e n => by
  rw [upd_ne n]
  exact a c u e n
def spTake : Sp := fun vs H Q _ => ∃ (p : Addr) (m : Int), vs = [.ref p, .int m] ∧ 0 < m ∧ m < 1000 ∧ Box H p ∧ ∀ (H' : Hp) (d : Int), But p H H' → Box H' p → 0 ≤ d → d < m → Q (.int d) H'
theorem scT : FnScope ["box", "many", "digit", "raw"] ["box", "many"] (defScope sTake) := ⟨rfl, rfl, rfl, by decide +kernel, rfl, by decide +kernel, by decide +kernel⟩
theorem ok_take {f : Addr} {fd : FuncData} (F : Fun K "_law_take" "_law_take" sTake f fd) (Z : Bi mg) : FnOk P w K mg base CX0 1 f fd ["box", "many"] spTake := by
  refine F.ok scT (fun vs H Q E h => ?_) (fun cdv A outer s H vs Q E hr h => ?_)
  · obtain ⟨p, m, rfl, _⟩ := h
    rfl
  · obtain ⟨p, m, rfl, m0, m1, ⟨x, y, z, hb⟩, k⟩ := h
    refine ⟨_, pss_cons (ps_if (pt_cmpR op_gt (pe_ix ix_list (pv 0) pe_int (fun _ _ => rfl)) pe_int (nomark _))
        (pss_cons (ps_set (i := 2) scT.nd rfl (Or.inl rfl) (pe_op op_mod (pe_callTy call_int1 (by rfl) Z.int (by decide +kernel) (pa_cons (pe_ix ix_list (pv 0) pe_int (fun _ _ => rfl)) pa_nil)) (pv 1)))
        (pss_cons (ps_asg (pe_op op_fdiv (pe_ix ix_list (pv 0) pe_int (fun _ _ => rfl)) (pv 1)) (pg_sub (pv 0) pe_int set_list))
        (pss_one (ps_ret (pv 2))))) pss_nil)
      (pss_cons (ps_asg (pe_op op_add (pe_ix ix_list (pv 0) pe_int (fun _ _ => rfl)) pe_int) (pg_sub (pv 0) pe_int set_list))
      (pss_cons (ps_set (i := 3) scT.nd rfl (Or.inl rfl) (pe_op op_mod (pe_callTy call_int1 (by rfl) Z.int (by decide +kernel) (pa_cons
          (pe_op op_add (pe_op op_mul (pe_op op_add (pe_ix ix_list (pv 0) pe_int (fun _ _ => rfl)) (pe_op op_mul pe_int (pe_ix ix_list (pv 0) pe_int (fun _ _ => rfl)))) pe_int) pe_int) pa_nil)) pe_int))
      (pss_cons (ps_asg (pe_op op_add (pe_op op_mod (pe_callTy call_int1 (by rfl) Z.int (by decide +kernel) (pa_cons (pe_op op_add (pe_op op_mul (pv 3) pe_int) pe_int) pa_nil)) pe_int) pe_int) (pg_sub (pv 0) pe_int set_list))
      (pss_one (ps_ret (pe_op op_mod (pe_callTy call_int1 (by rfl) Z.int (by decide +kernel) (pa_cons
          (pe_op op_fdiv (pe_op op_add (pe_op op_mul (pv 3) pe_int) (pe_ix ix_list (pv 0) pe_int (fun _ _ => rfl))) pe_int) pa_nil)) (pv 1))))))), ?_⟩
    refine ⟨_, rfl, p, _, _, _, rfl, rfl, SqL.of hb, atI_nat (j := 0) rfl, _, _, rfl, rfl, _, rfl, ?_⟩
    by_cases hx : 0 < x
    · refine go_t (decide_eq_true hx) ?_
      refine ⟨_, rfl, p, _, _, _, rfl, rfl, SqL.of hb, atI_nat (j := 0) rfl, .inl ⟨_, rfl, ?_⟩⟩
      refine ⟨_, rfl, _, _, rfl, rfl, m0, ?_⟩
      refine ⟨_, rfl, p, _, _, _, rfl, rfl, SqL.of hb, atI_nat (j := 0) rfl, _, rfl, _, _, rfl, rfl, ⟨m0, by omega⟩, ?_⟩
      refine ⟨_, rfl, p, _, _, 0, rfl, rfl, hb, rfl, ?_⟩
      exact ⟨_, rfl, k _ _ (But.refl p H).put ⟨_, _, _, upd_same⟩ (Int.emod_nonneg _ (by omega)) (Int.emod_lt_of_pos _ m0)⟩
    · refine go_f (decide_eq_false hx) ?_
      refine ⟨_, rfl, p, _, _, _, rfl, rfl, SqL.of hb, atI_nat (j := 2) rfl, _, _, rfl, rfl, ?_⟩
      refine ⟨_, rfl, p, _, _, 2, rfl, rfl, hb, rfl, ?_⟩
      have hb2 : upd H p (.lst [.int x, .int y, .int (z + 1)]) p = some (.lst [.int x, .int y, .int (z + 1)]) := upd_same
      refine ⟨_, rfl, p, _, _, _, rfl, rfl, SqL.of hb2, atI_nat (j := 1) rfl, ?_⟩
      refine ⟨_, rfl, p, _, _, _, rfl, rfl, SqL.of hb2, atI_nat (j := 2) rfl, ?_⟩
      refine ⟨_, _, rfl, rfl, .inl ⟨by decide, by decide⟩, _, _, rfl, rfl, _, _, rfl, rfl, .inr ⟨by decide, by decide⟩, _, _, rfl, rfl, .inl ⟨_, rfl, ?_⟩⟩
      refine ⟨_, _, rfl, rfl, (by show (0 : Int) < 2147483563; decide), ?_⟩
      refine ⟨_, rfl, _, _, rfl, rfl, .inr ⟨by decide, by decide⟩, _, _, rfl, rfl, .inl ⟨_, rfl, ?_⟩⟩
      refine ⟨_, _, rfl, rfl, (by show (0 : Int) < 2147483629; decide), _, _, rfl, rfl, ?_⟩
      refine ⟨_, rfl, p, _, _, 1, rfl, rfl, hb2, rfl, ?_⟩
      refine ⟨_, rfl, _, _, rfl, rfl, .inr ⟨by decide, by decide⟩, _, rfl, p, _, _, _, rfl, rfl, SqL.of upd_same, atI_nat (j := 1) rfl, _, _, rfl, rfl, ?_⟩
      refine ⟨_, _, rfl, rfl, ⟨by decide, by decide⟩, .inl ⟨_, rfl, ?_⟩⟩
      exact ⟨_, rfl, _, _, rfl, rfl, m0, k _ _ ((But.refl p H).put).put ⟨_, _, _, upd_same⟩ (Int.emod_nonneg _ (by omega)) (Int.emod_lt_of_pos _ m0)⟩
/-- one of the things of a list -/
def spPick (K : PySem.W.Frag) : Sp := fun vs H Q _ => ∃ (p l : Addr) (xs : List V), vs = [.ref p, .ref l] ∧ l ≠ p ∧ Box H p ∧ H l = some (.lst xs) ∧ 0 < xs.length ∧ xs.length < 1000 ∧ ∀ (H' : Hp) (v : V), But p H H' → Box H' p → v ∈ xs → Q v H'
theorem scP : FnScope ["box", "some"] ["box", "some"] (defScope sPick) := ⟨rfl, rfl, rfl, by decide +kernel, rfl, by decide +kernel, by decide +kernel⟩
theorem ok_pick {f ft : Addr} {fd fdt : FuncData} (F : Fun K "_law_pick" "_law_pick" sPick f fd) (Z : Bi mg) (Ft : At K mg "_law_take" sTake ft fdt ["box", "many"]) : FnOk P w K mg base CX0 2 f fd ["box", "some"] (spPick K) := by
  have Gt : FnOk P w K mg base CX0 1 ft fdt ["box", "many"] spTake := ok_take Ft.F Z
  refine F.ok scP (fun vs H Q E h => ?_) (fun cdv A outer s H vs Q E hr h => ?_)
  · obtain ⟨p, l, xs, rfl, _⟩ := h
    rfl
  · obtain ⟨p, l, xs, rfl, npl, hb, hl, n0, n1, k⟩ := h
    refine ⟨_, pss_one (ps_ret (pe_ix ix_list (pv 1) (pe_call Gt hr rfl Ft.g Ft.F.kp Ft.b .nil pass0 (by exact (pa_cons (pv 0) (pa_cons (pe_callB call_len_seq (by rfl) Z.len PySem.boot_len (pa_cons (pv 1) pa_nil)) pa_nil)))) (fun _ _ => rfl))), ?_⟩
    refine ⟨_, rfl, _, rfl, _, rfl, l, xs, rfl, .inl (SqL.of hl), p, _, rfl, by omega, by omega, hb, fun H' d bt hb' d0 d1 => ?_⟩
    obtain ⟨j, rfl⟩ : ∃ j : Nat, d = (j : Int) := ⟨d.toNat, by omega⟩
    have hj : j < xs.length := by omega
    exact ⟨l, xs, _, _, rfl, rfl, SqL.of (bt l _ hl npl), atI_nat (List.getElem?_eq_getElem hj), k H' _ bt hb' (List.getElem_mem hj)⟩
def spBox (K : PySem.W.Frag) : Sp := fun vs H Q _ => ∃ (a : Addr) (k : Int) (ns : List Int), vs = [.ref a, .int k] ∧ 0 ≤ k ∧ SqL K H a (ns.map V.int) ∧ ∀ (H' : Hp) (p : Addr), Same H H' → H p = none → Box H' p → Q (.ref p) H'
theorem get_int {ns : List Int} {j : Nat} (h : j < ns.length) : (ns.map V.int)[j]? = some (V.int ns[j]) := by
  rw [List.getElem?_map, List.getElem?_eq_getElem h]
  rfl
theorem pick2 (c : Int) (y : Bool) : atI [V.int 0, V.int c] (if y = true then 1 else 0) = some (V.int (if y = true then c else 0)) := by
  cases y <;> rfl
theorem upd_gone {H : Hp} {l p : Addr} {o : HO} (h : upd H l o p = none) : H p = none := by
  by_cases e : p = l
  · rw [e, upd_same] at h
    cases h
  · rw [upd_ne e] at h
    exact h
theorem scB : FnScope ["script", "k", "cell"] ["script", "k"] (defScope sBox) := ⟨rfl, rfl, rfl, by decide +kernel, rfl, by decide +kernel, by decide +kernel⟩
theorem ok_box {f : Addr} {fd : FuncData} (F : Fun K "_law_box" "_law_box" sBox f fd) (Z : Bi mg) : FnOk P w K mg base CX0 1 f fd ["script", "k"] (spBox K) := by
  refine F.ok scB (fun vs H Q E h => ?_) (fun cdv A outer s H vs Q E hr h => ?_)
  · obtain ⟨a, k, ns, rfl, _⟩ := h
    rfl
  · obtain ⟨a, k, ns, rfl, k0, hS, kk⟩ := h
    refine ⟨_, pss_cons (ps_set (i := 2) scB.nd rfl (Or.inl rfl) (pe_op op_add (pe_op op_mul pe_int (pv 1)) pe_int))
      (pss_cons (ps_if (pt_cmpR op_lt (pv 1) (pe_callB call_len_seq (by rfl) Z.len PySem.boot_len (pa_cons (pv 0) pa_nil)) (nomark _))
        (pss_one (ps_set (i := 2) scB.nd rfl (Or.inl rfl) (pe_callB call_abs (by rfl) Z.abs (by decide +kernel) (pa_cons (pe_ix ix_list (pv 0) (pv 1) (fun _ _ => rfl)) pa_nil))))
        (pss_one (ps_if (pt_cmpR op_gt (pe_callB call_len_seq (by rfl) Z.len PySem.boot_len (pa_cons (pv 0) pa_nil)) pe_int (nomark _))
          (pss_one (ps_set (i := 2) scB.nd rfl (Or.inl rfl) (pe_op op_add (pv 2) (pe_op op_mul (pe_op op_mod (pe_callTy call_int1 (by rfl) Z.int (by decide +kernel) (pa_cons
            (pe_callB call_abs (by rfl) Z.abs (by decide +kernel) (pa_cons (pe_ix ix_list (pv 0) (pe_op op_mod (pe_callTy call_int1 (by rfl) Z.int (by decide +kernel) (pa_cons (pv 1) pa_nil))
              (pe_callB call_len_seq (by rfl) Z.len PySem.boot_len (pa_cons (pv 0) pa_nil))) (fun _ _ => rfl)) pa_nil)) pa_nil)) pe_int) pe_int)))) pss_nil)))
      (pss_one (ps_ret (pe_lst (by exact (pa_cons (pe_ix ix_list (pe_lst (by exact (pa_cons pe_int (pa_cons (pv 2) pa_nil)))) (pe_callTy call_int1 (by rfl) Z.int (by decide +kernel) (pa_cons (pe_cmpR op_ge (pv 2) (pe_op op_pow pe_int pe_int) (nomark _)) pa_nil)) (fun _ _ => rfl))
        (pa_cons (pe_op op_add (pe_op op_mod (pe_callTy call_int1 (by rfl) Z.int (by decide +kernel) (pa_cons (pe_op op_add (pe_op op_mul (pe_op op_mod (pe_callTy call_int1 (by rfl) Z.int (by decide +kernel) (pa_cons (pv 2) pa_nil)) pe_int) pe_int)
          (pe_op op_mul pe_int (pv 1))) pa_nil)) pe_int) pe_int) (pa_cons pe_int pa_nil)))))))), ?_⟩
    refine ⟨_, rfl, _, _, rfl, rfl, .inl ⟨by decide, by decide⟩, _, _, rfl, rfl, ?_⟩
    refine ⟨_, rfl, _, rfl, a, _, rfl, .inl hS, _, _, rfl, rfl, _, rfl, ?_⟩
    rw [List.length_map]
    by_cases h1 : k < (ns.length : Int)
    · refine go_t (decide_eq_true h1) ?_
      obtain ⟨j, rfl⟩ : ∃ j : Nat, k = (j : Int) := ⟨k.toNat, by omega⟩
      refine ⟨_, rfl, _, rfl, a, _, _, _, rfl, rfl, hS, atI_nat (get_int (by omega)), _, rfl, ?_⟩
      refine ⟨_, rfl, (by show 2 ≤ sizeLine; decide), fun l hl => ?_⟩
      refine ⟨_, rfl, _, _, rfl, rfl, ⟨by decide, by decide, by decide⟩, _, _, rfl, rfl, .inr ⟨_, rfl, ?_⟩⟩
      refine ⟨l, _, _, _, rfl, rfl, SqL.of upd_same, pick2 _ _, ?_⟩
      refine ⟨_, rfl, .inl ⟨_, rfl, _, _, rfl, rfl, (by show (0 : Int) < 2147483629; decide), _, _, rfl, rfl, .inr ⟨by decide, by decide⟩, ?_⟩⟩
      refine ⟨_, rfl, _, _, rfl, rfl, .inl ⟨by decide, by decide⟩, _, _, rfl, rfl, .inl ⟨_, rfl, ?_⟩⟩
      refine ⟨_, _, rfl, rfl, (by show (0 : Int) < 2147483629; decide), _, _, rfl, rfl, (by show 3 ≤ sizeLine; decide), fun p hp => ?_⟩
      exact kk _ p ((same_new hl).trans (same_new hp)) (upd_gone hp) ⟨_, _, _, upd_same⟩
    · refine go_f (decide_eq_false h1) ?_
      refine ⟨_, rfl, a, _, rfl, .inl hS, _, _, rfl, rfl, _, rfl, ?_⟩
      rw [List.length_map]
      by_cases h2 : (0 : Int) < (ns.length : Int)
      · refine go_t (decide_eq_true h2) ?_
        refine ⟨_, rfl, _, rfl, _, rfl, .inl ⟨_, rfl, _, rfl, a, _, rfl, .inl hS, ?_⟩⟩
        rw [List.length_map]
        have r0 := Int.emod_nonneg k (show (ns.length : Int) ≠ 0 by omega)
        have r1 := Int.emod_lt_of_pos k h2
        obtain ⟨j, hj⟩ : ∃ j : Nat, k % (ns.length : Int) = (j : Int) := ⟨(k % (ns.length : Int)).toNat, by omega⟩
        refine ⟨_, _, rfl, rfl, h2, a, _, _, _, rfl, rfl, hS, (by show atI _ (k % (ns.length : Int)) = _; rw [hj]; exact atI_nat (get_int (by omega))), _, rfl, .inl ⟨_, rfl, ?_⟩⟩
        refine ⟨_, _, rfl, rfl, (by show (0 : Int) < 2147483629; decide), _, _, rfl, rfl, .inr ⟨by decide, by decide⟩, _, _, rfl, rfl, ?_⟩
        refine ⟨_, rfl, (by show 2 ≤ sizeLine; decide), fun l hl => ?_⟩
        refine ⟨_, rfl, _, _, rfl, rfl, ⟨by decide, by decide, by decide⟩, _, _, rfl, rfl, .inr ⟨_, rfl, ?_⟩⟩
        refine ⟨l, _, _, _, rfl, rfl, SqL.of upd_same, pick2 _ _, ?_⟩
        refine ⟨_, rfl, .inl ⟨_, rfl, _, _, rfl, rfl, (by show (0 : Int) < 2147483629; decide), _, _, rfl, rfl, .inr ⟨by decide, by decide⟩, ?_⟩⟩
        refine ⟨_, rfl, _, _, rfl, rfl, .inl ⟨by decide, by decide⟩, _, _, rfl, rfl, .inl ⟨_, rfl, ?_⟩⟩
        refine ⟨_, _, rfl, rfl, (by show (0 : Int) < 2147483629; decide), _, _, rfl, rfl, (by show 3 ≤ sizeLine; decide), fun p hp => ?_⟩
        exact kk _ p ((same_new hl).trans (same_new hp)) (upd_gone hp) ⟨_, _, _, upd_same⟩
      · refine go_f (decide_eq_false h2) ?_
        refine ⟨_, rfl, (by show 2 ≤ sizeLine; decide), fun l hl => ?_⟩
        refine ⟨_, rfl, _, _, rfl, rfl, ⟨by decide, by decide, by decide⟩, _, _, rfl, rfl, .inr ⟨_, rfl, ?_⟩⟩
        refine ⟨l, _, _, _, rfl, rfl, SqL.of upd_same, pick2 _ _, ?_⟩
        refine ⟨_, rfl, .inl ⟨_, rfl, _, _, rfl, rfl, (by show (0 : Int) < 2147483629; decide), _, _, rfl, rfl, .inr ⟨by decide, by decide⟩, ?_⟩⟩
        refine ⟨_, rfl, _, _, rfl, rfl, .inl ⟨by decide, by decide⟩, _, _, rfl, rfl, .inl ⟨_, rfl, ?_⟩⟩
        refine ⟨_, _, rfl, rfl, (by show (0 : Int) < 2147483629; decide), _, _, rfl, rfl, (by show 3 ≤ sizeLine; decide), fun p hp => ?_⟩
        exact kk _ p ((same_new hl).trans (same_new hp)) (upd_gone hp) ⟨_, _, _, upd_same⟩
end
end K01
/-! the law's own grid. -/
namespace K01
open PySem L2 FX SQ
abbrev sGrid : Stmt := top 33
def rowT (r : List Nat) : D := .tuple (r.map nD)
def gridN (s m : Nat) : List (List Nat) := rowsN (List.replicate m (List.range s))
theorem gridN_succ (s m : Nat) : gridN s (m + 1) = stepN (gridN s m) (List.range s) := by
  unfold gridN rowsN
  rw [List.replicate_succ', List.foldl_append]
  rfl
theorem stepN_len (R : List (List Nat)) (c : List Nat) : (stepN R c).length = R.length * c.length := by
  unfold stepN
  induction R with
  | nil => simp
  | cons r R ih => rw [List.flatMap_cons, List.length_append, List.length_map, ih, List.length_cons, Nat.add_mul, Nat.one_mul, Nat.add_comm]
theorem gridN_len (s : Nat) : ∀ m : Nat, (gridN s m).length = s ^ m
  | 0 => rfl
  | m + 1 => by rw [gridN_succ, stepN_len, gridN_len s m, List.length_range, Nat.pow_succ]
theorem gridN_row {s m : Nat} : ∀ r ∈ gridN s m, r.length = m ∧ ∀ x ∈ r, x < s := by
  intro r hr
  refine ⟨?_, ?_⟩
  · have := rowsN_len (List.replicate m (List.range s)) r hr
    rw [this, List.length_replicate]
  · exact rowsN_lt (List.replicate m (List.range s)) (fun c hc x hx => by
      rw [List.eq_of_mem_replicate hc] at hx
      exact List.mem_range.mp hx) r hr
theorem rows_off {K : PySem.W.Frag} {H : Hp} {L : Addr} {acc : List V} (e : H L = some (.lst acc)) : ∀ {vs : List V} {rs : List (List Nat)}, DpAll K H vs (rs.map rowT) → DpAll K (off H L) vs (rs.map rowT) := by
  intro vs rs
  have flat : ∀ {vs : List V} {ns : List Nat}, DpAll K H vs (ns.map nD) → DpAll K (off H L) vs (ns.map nD) := by
    intro vs ns
    induction ns generalizing vs with
    | nil =>
      intro h
      cases h
      exact .nil
    | cons n ns ih =>
      intro h
      cases h with
      | cons h r =>
        cases h
        exact .cons (.int _) (ih r)
  induction rs generalizing vs with
  | nil =>
    intro h
    cases h
    exact .nil
  | cons r rs ih =>
      intro h
      cases h with
      | cons h t =>
        obtain ⟨a, xs, rfl, q, rr⟩ := dp_tup h
        refine .cons (.tup ?_ (flat rr)) (ih t)
        rcases q with (q | ⟨o, q⟩) | q
        · have n : a ≠ L := fun z => by rw [z, e] at q; cases q
          exact .inl (.inl (by rw [off_ne n]; exact q))
        · have n : a ≠ L := fun z => by rw [z, e] at q; cases q
          exact .inl (.inr ⟨o, by rw [off_ne n]; exact q⟩)
        · exact .inr q
theorem dpAll_eqn {K : PySem.W.Frag} {H : Hp} : ∀ {vs : List V} {ns : List Nat}, DpAll K H vs (ns.map nD) → vs = ns.map fun n : Nat => V.int n := by
  intro vs ns
  induction ns generalizing vs with
  | nil =>
    intro h
    cases h
    rfl
  | cons n ns ih =>
    intro h
    cases h with
    | cons h r =>
      cases h
      rw [ih r]
      rfl
/-- a new list -/
def FreshL (K : PySem.W.Frag) (H H' : Hp) (v : V) (ds : List D) : Prop := ∃ a xs, v = .ref a ∧ H a = none ∧ H' a = some (.lst xs) ∧ DpAll K H' xs ds
theorem none_same {H H' : Hp} {a : Addr} (s : Same H H') (h : H' a = none) : H a = none := by
  cases e : H a with
  | none => rfl
  | some o =>
    rw [s a o e] at h
    cases h
theorem FreshL.dp {K : PySem.W.Frag} {H H' : Hp} {v : V} {ds : List D} (h : FreshL K H H' v ds) : Dp K H' v (.list ds) := by
  obtain ⟨a, xs, rfl, _, e, r⟩ := h
  exact .lst (SqL.of e) r
section
variable {P : Program} {w : World} {K : PySem.W.Frag} {mg : Str → Option Value} {base : Heap}
def spGrid (K : PySem.W.Frag) : Sp := fun vs H Q _ => ∃ s m : Nat, vs = [.int s, .int m] ∧ s ≤ 8 ∧ m ≤ 4 ∧ ∀ H' v, Same H H' → FreshL K H H' v ((gridN s m).map rowT) → Q v H'
abbrev NGrid : List Str := ["size", "many", "rows", "turn", "longer", "row", "value"]
theorem scGrid : FnScope NGrid ["size", "many"] (defScope sGrid) := ⟨rfl, rfl, rfl, by decide +kernel, rfl, by decide +kernel, by decide +kernel⟩
theorem ok_grid {f : Addr} {fd : FuncData} (F : Fun K "_law_grid" "_law_grid" sGrid f fd) (Z : Bi mg) : FnOk P w K mg base CX0 1 f fd ["size", "many"] (spGrid K) := by
  refine F.ok scGrid (fun vs H Q E h => ?_) (fun cdv A outer s H vs Q E hr h => ?_)
  · obtain ⟨s, m, rfl, _⟩ := h
    rfl
  · obtain ⟨s, m, rfl, s8, m4, k⟩ := h
    refine ⟨_, pss_cons (ps_set (i := 2) scGrid.nd rfl (Or.inl rfl) (pe_lst (by exact (pa_cons (pe_tup pa_nil) pa_nil))))
      (pss_cons (ps_for PassesOwn.never rfl (pi_range1 rfl Z.range (pa_cons (pv 1) pa_nil)) (pg_name (i := 3) scGrid.nd rfl (Or.inl rfl))
        (pss_cons (ps_set (i := 4) scGrid.nd rfl (Or.inl rfl) (pe_lst pa_nil))
        (pss_cons (ps_for PassesOwn.never rfl (pi_list (pv 2)) (pg_name (i := 5) scGrid.nd rfl (Or.inr rfl))
          (pss_one (ps_expr (pe_bm PySem.F.plainAttrs_list PySem.F.slot_list_extend PySem.F.type_list_extend mt_extend (pv 4) (pa_cons
            (pe_lc (own := [("value", 6)]) (g := gName 6) (tt := tYes) (wi := iRng1 (tCons (tVar 0) tNil)) (te := tOp (rCatA K) (tVar 5) (tTup (tCons (tVar 6) tNil))) rfl scGrid.nd (pi_range1 (by rfl) Z.range (pa_cons (pv 0) pa_nil)) (blkOk_by (N := NGrid) (sc := defScope sGrid) (by decide +kernel))
              (fun _ _ _ _ _ => pg_name (i := 6) scGrid.nd rfl (Or.inl rfl)) (fun _ _ _ _ _ => pts_nil) (fun _ _ _ _ _ => pe_op op_catA (pv 5) (pe_tup (pa_cons (pv 6) pa_nil)))) pa_nil)))))
        (pss_one (ps_set (i := 2) scGrid.nd rfl (Or.inl rfl) (pv 4))))))
      (pss_one (ps_ret (pv 2)))), ?_⟩
    refine ⟨(by show 0 ≤ sizeLine; decide), fun t ht => ⟨(by show 1 ≤ sizeLine; decide), fun L0 hL0 => ?_⟩⟩
    have s0 : Same H (upd (upd H t (.tup [])) L0 (.lst [.ref t])) := (same_new ht).trans (same_new hL0)
    have d0 : FreshL K H (upd (upd H t (.tup [])) L0 (.lst [.ref t])) (.ref L0) ((gridN s 0).map rowT) := ⟨L0, _, rfl, none_same (same_new ht) hL0, upd_same, .cons (.tup (SqT.of ((same_new hL0) _ _ upd_same)) .nil) .nil⟩
    refine ⟨_, rfl, m, rfl, by omega, by omega, ?_⟩
    rw [Int.toNat_natCast]
    refine for_range (n := m) (fun i σ H' => ∃ (Lv : V) (u1 u2 u3 : Option V), σ = [some (.int s), some (.int m), some Lv, u1, u2, u3, none] ∧ Same H H' ∧ FreshL K H H' Lv ((gridN s i).map rowT)) ⟨_, none, none, none, rfl, s0, d0⟩ ?_ ?_
    · rintro i σ H1 hi ⟨Lv, u1, u2, u3, rfl, s1, dL⟩
      obtain ⟨aL, xL, rfl, nL0, eL0, rL⟩ := dL
      have qL : SqL K H1 aL xL := SqL.of eL0
      have len1 : (gridN s i).length ≤ 8 ^ 4 := by
        rw [gridN_len]
        exact Nat.le_trans (Nat.pow_le_pow_left s8 _) (Nat.pow_le_pow_right (by decide) (by omega))
      have lL : xL.length = (gridN s i).length := by rw [dpAll_len rL, List.length_map]
      refine ⟨(by show 0 ≤ sizeLine; decide), fun L hL => ⟨_, rfl, aL, rfl, ⟨_, (same_new hL).seq qL⟩, ?_⟩⟩
      refine for_list (K := K) (a := aL) (xs := xL) (fun j σ H2 => ∃ u : Option V, σ = [some (.int s), some (.int m), some (.ref aL), some (.int (0 + (i : Int))), some (.ref L), u, none] ∧ Same H1 H2 ∧ Grow K H2 L (((gridN s i).take j).flatMap fun r => (List.range s).map fun x => rowT (r ++ [x])))
        ⟨u3, rfl, same_new hL, Grow.nil⟩ (fun j σ H2 _ ⟨_, _, s2, _⟩ => s2.seq qL) ?_ ?_
      · rintro j y σ H2 hj ⟨u, rfl, s2, g2⟩
        obtain ⟨dr, hr', hyd⟩ := dpAll_get rL hj
        obtain ⟨r, hrr, rfl⟩ : ∃ r, (gridN s i)[j]? = some r ∧ dr = rowT r := by
          rw [List.getElem?_map] at hr'
          cases e : (gridN s i)[j]? with
          | none =>
            rw [e] at hr'
            cases hr'
          | some c =>
            rw [e] at hr'
            exact ⟨c, rfl, (Option.some.inj hr').symm⟩
        have hjl := (List.getElem?_eq_some_iff.mp hrr).1
        obtain ⟨ar, xr, rfl, qr, rr⟩ := dp_tup (dp_same s2 hyd)
        obtain rfl := dpAll_eqn rr
        have lr := (gridN_row r (List.mem_of_getElem? hrr)).1
        obtain ⟨accL, eL, _⟩ := id g2
        have lacc := g2.len eL
        have fl := flat_len (f := fun r : List Nat => (List.range s).map fun x => rowT (r ++ [x])) (m := 8) (fun r => by rw [List.length_map, List.length_range]; exact s8) ((gridN s i).take j)
        rw [List.length_take] at fl
        refine ⟨_, rfl, .inl ⟨rfl, _, SqL.of eL⟩, _, rfl, s, rfl, by omega, by omega, ?_⟩
        rw [Int.toNat_natCast]
        refine fun D hD => walk_it walk_range (fun k H3 => Same H2 H3 ∧ Grow K H3 D (((List.range s).take k).map fun x => rowT (r ++ [x]))) ⟨same_new hD, Grow.nil⟩ (fun _ _ _ _ => trivial) ?_ ?_
        · rintro k x _ H3 hk ⟨s3, g3⟩ ⟨rfl, ex⟩
          obtain rfl : x = .int (k : Nat) := by
            rw [ex]
            show V.int (0 + (k : Int)) = _
            rw [Int.zero_add]
          refine ⟨rfl, ?_⟩
          obtain ⟨acc, eD, _⟩ := id g3
          have lD := g3.len eD
          rw [List.length_map, List.length_take] at lD
          have fin : ∀ (H4 : Hp) (p : Addr), Same H3 H4 → H4 p = some (.tup ((r.map fun n : Nat => V.int n) ++ [.int (k : Nat)])) → ∃ acc, H4 D = some (.lst acc) ∧ acc.length < sizeLine ∧ (Same H2 (upd H4 D (.lst (acc ++ [.ref p]))) ∧ Grow K (upd H4 D (.lst (acc ++ [.ref p]))) D (((List.range s).take (k + 1)).map fun x => rowT (r ++ [x]))) := by
            intro H4 p s4 ep
            have eD4 := s4 _ _ eD
            have np : p ≠ D := fun z => by rw [z, eD4] at ep; cases ep
            refine ⟨acc, eD4, by rw [lD, sizeLine_eq]; omega, same_of (s3.trans s4) hD, ?_⟩
            have hk' : (List.range s)[k]? = some k := by rw [List.getElem?_range hk]
            rw [take_more hk', List.map_append]
            refine (g3.keep s4).put eD4 (.tup (SqT.of (by rw [off_ne np]; exact ep)) ?_)
            have := dpAll_mkn (K := K) (H := off H4 D) (r ++ [k])
            rw [List.map_append] at this
            exact this
          refine ⟨_, rfl, _, rfl, (by show 1 ≤ sizeLine; decide), fun t1 ht1 => ?_⟩
          have s4 := same_new (o := .tup [.int (k : Int)]) ht1
          refine ⟨ar, t1, _, _, rfl, rfl, seqT (s3.trans s4) qr, SqT.of upd_same, by rw [List.length_map, lr, sizeLine_eq]; show i + 1 ≤ _; omega, fun e => ?_, (fun _ e => by cases e), fun _ _ p hp => ?_⟩
          · refine fin _ t1 s4 ?_
            rw [upd_same, e]
            rfl
          · refine fin _ p (s4.trans (same_new hp)) ?_
            rw [upd_same]
        · rintro H3 ⟨s3, g3⟩
          obtain ⟨zs, e3, d3⟩ := id g3
          have eL3 := s3 _ _ eL
          have lz := g3.len e3
          rw [List.length_map, List.length_take, List.length_range] at lz
          refine ⟨L, D, accL, zs, rfl, rfl, eL3, e3, by rw [lacc, lz, sizeLine_eq]; omega, ?_⟩
          have nL : H1 L = none := hL
          refine ⟨some (.ref ar), rfl, same_of (s2.trans s3) nL, accL ++ zs, upd_same, ?_⟩
          rw [off_upd, take_more hrr, List.flatMap_append]
          obtain ⟨vs, ev, dv⟩ := g2.keep s3
          rw [eL3] at ev
          cases ev
          refine dpAll_app dv ?_
          have er : ([r].flatMap fun r => (List.range s).map fun x => rowT (r ++ [x])) = ((List.range s).map fun x => r ++ [x]).map rowT := by
            simp only [List.flatMap_cons, List.flatMap_nil, List.append_nil, List.map_map]
            rfl
          rw [er]
          refine rows_off eL3 (dpAll_same (off_le (a := D)) ?_)
          have et : (List.range s).take s = List.range s := List.take_of_length_le (by rw [List.length_range]; exact Nat.le_refl _)
          rw [et] at d3
          rw [List.map_map]
          exact d3
      · rintro σ H2 ⟨u, rfl, s2, g2⟩
        refine ⟨_, rfl, _, _, _, _, rfl, s1.trans s2, ?_⟩
        rw [lL, List.take_length] at g2
        have e1 : (gridN s (i + 1)).map rowT = (gridN s i).flatMap fun r => (List.range s).map fun x => rowT (r ++ [x]) := by
          rw [gridN_succ]
          unfold stepN
          rw [List.map_flatMap]
          simp only [List.map_map]
          rfl
        rw [e1]
        obtain ⟨vs, e2, d2⟩ := g2
        exact ⟨L, vs, rfl, none_same s1 hL, e2, dpAll_same off_le d2⟩
    · rintro σ H' ⟨Lv, u1, u2, u3, rfl, s1, dL⟩
      exact ⟨_, rfl, k _ _ s1 dL⟩
end
end K01
/-! the greatest of a tuple; a drawn operation. -/
namespace SQ
open PySem PySem.Spec PyProof.Rows L2
theorem alike_ints : ∀ ns : List Nat, PySem.W.AlikeAll (ns.map fun n : Nat => PyData.int n) := fun ns =>
  ⟨fun x hx y hy => by
    obtain ⟨a, _, rfl⟩ := List.mem_map.mp hx
    obtain ⟨b, _, rfl⟩ := List.mem_map.mp hy
    rfl, fun x hx => by
    obtain ⟨a, _, rfl⟩ := List.mem_map.mp hx
    intro z
    cases z⟩
theorem depth_ints : ∀ ns : List Nat, PyData.depthAll (ns.map fun n : Nat => PyData.int n) ≤ 1
  | [] => by decide
  | n :: r => by
    have := depth_ints r
    simp [PyData.depthAll, PyData.depth]
    omega
def rMaxT (K : PySem.W.Frag) : List V → Hp → VK → Prop := fun vs H Q => ∃ (a : Addr) (ns : List Nat), vs = [.ref a] ∧ SqT K H a (ns.map fun n : Nat => V.int n) ∧ ns ≠ [] ∧ ∀ m, m ∈ ns → Q (.int (m : Nat)) H
theorem cr_maxT {X : Cx} (hc : X.calm = true) (hu : X.A.units + 65 < cLine) : CallR X (.builtin "max") (rMaxT X.K) := by
  intro pins s σ H vs us Q I r h
  obtain ⟨a, ns, rfl, hs, ne, q⟩ := h
  obtain ⟨its, rv, hl, _⟩ := I.tuple hs
  rw [Vals.ref1 r]
  cases ns with
  | nil => exact absurd rfl ne
  | cons n0 nr =>
    have dd : ∀ ns : List Nat, DpAll X.K H (ns.map fun n : Nat => V.int n) (ns.map fun n : Nat => PyData.int n) := fun ns => by
      induction ns with
      | nil => exact .nil
      | cons n ns ih => exact .cons (.int _) ih
    obtain ⟨as, hr⟩ := Dp.readsAll I _ _ its (dd (n0 :: nr)) rv
    have hd := depth_ints (n0 :: nr)
    refine PySem.W.max_tuple_data (x := .int n0) (xs := nr.map fun n : Nat => PyData.int n) (as := as) (I.ok.hd hc) hl hr (alike_ints (n0 :: nr)) (by
      have : PyData.depthAll (PyData.int n0 :: nr.map fun n : Nat => PyData.int n) ≤ 1 := hd
      omega) fun i v h' tk bs hv _ hk => ?_
    have hi : its[i]? = some v := by simpa using hv
    have hlen := rv.length
    have hil : i < (n0 :: nr).length := by
      have := (List.getElem?_eq_some_iff.mp hi).1
      rw [List.length_map] at hlen
      omega
    obtain ⟨u, hu1, hu2⟩ := rv.get (i := i) (x := .int (((n0 :: nr)[i] : Nat) : Int)) (by rw [List.getElem?_map, List.getElem?_eq_getElem hil]; rfl)
    rw [hi] at hu1
    cases hu1
    exact ⟨_, H, I.kept hk, hu2, q _ (List.getElem_mem hil)⟩
end SQ
/-! a drawn operation. -/
namespace K01
open PySem L2 FX SQ
abbrev sOpn : Stmt := top 34
/-- all but p and L as it was -/
def But2 (p L : Addr) (H H' : Hp) : Prop := ∀ c o, H c = some o → c ≠ p → c ≠ L → H' c = some o
theorem But2.off {p L : Addr} {H H' : Hp} (b : But2 p L H H') : Same (off (off H p) L) (off (off H' p) L) := fun c o e => by
  by_cases h1 : c = L
  · rw [h1, off_same] at e
    cases e
  rw [off_ne h1] at e ⊢
  by_cases h2 : c = p
  · rw [h2, off_same] at e
    cases e
  rw [off_ne h2] at e ⊢
  exact b c o e h2 h1
theorem But.off {p : Addr} {H H' : Hp} (b : But p H H') : Same (off H p) (off H' p) := off_mono fun c o n e => b c o e n
theorem But.of {p : Addr} {H H' : Hp} (s : Same H H') : But p H H' := fun c o e _ => s c o e
theorem Box.same {p : Addr} {H H' : Hp} (s : Same H H') (b : Box H p) : Box H' p := by
  obtain ⟨x, y, z, e⟩ := b
  exact ⟨x, y, z, s _ _ e⟩
theorem ifC {c : Prop} [Decidable c] {a b : V} {σ : L2.St} {H : Hp} {Q : VK} (h : ∀ x, (x = a ∨ x = b) → Q x H) : if c then tC a σ H Q else tC b σ H Q := by
  split
  · exact h a (.inl rfl)
  · exact h b (.inr rfl)
theorem ifE {c : Prop} [Decidable c] {ta tb : TE} {σ : L2.St} {H : Hp} {Q : VK} (R : V → Hp → Prop) (h1 : c → ∀ Q' : VK, (∀ x H', R x H' → Q' x H') → ta σ H Q') (h2 : ¬ c → ∀ Q' : VK, (∀ x H', R x H' → Q' x H') → tb σ H Q') (h : ∀ x H', R x H' → Q x H') : if c then ta σ H Q else tb σ H Q := by
  split
  · rename_i e
    exact h1 e Q h
  · rename_i e
    exact h2 e Q h
theorem But.new {p a : Addr} {H H' : Hp} {o : HO} (b : But p H H') (n : H a = none) : But p H (upd H' a o) := fun c u e h => by
  rw [upd_ne (ne_of_none e n)]
  exact b c u e h
theorem Box.ne {p a : Addr} {H : Hp} {o : HO} (n : a ≠ p) (b : Box H p) : Box (upd H a o) p := by
  obtain ⟨x, y, z, e⟩ := b
  exact ⟨x, y, z, by rw [upd_ne (Ne.symm n)]; exact e⟩
theorem Box.fresh {p a : Addr} {H : Hp} (b : Box H p) (n : H a = none) : a ≠ p := by
  obtain ⟨x, y, z, e⟩ := b
  exact fun h => by rw [h, e] at n; cases n
theorem none_but {p a : Addr} {H H' : Hp} (b : But p H H') (n : a ≠ p) (h : H' a = none) : H a = none := by
  cases e : H a with
  | none => rfl
  | some o =>
    rw [b a o e n] at h
    cases h
theorem nat_of {d m : Int} (h0 : 0 ≤ d) (h1 : d < m) : ∃ n : Nat, d = (n : Int) ∧ (n : Int) < m := ⟨d.toNat, by omega, by omega⟩
section
variable {P : Program} {w : World} {K : PySem.W.Frag} {mg : Str → Option Value} {base : Heap}
def spOpn (K : PySem.W.Frag) : Sp := fun vs H Q _ => ∃ (p : Addr) (s : Nat), vs = [.ref p, .int s] ∧ 2 ≤ s ∧ s ≤ 4 ∧ Box H p ∧ ∀ (H' : Hp) (v : V) (n : Nat) (as : List Nat), But p H H' → Box H' p → 1 ≤ n → n ≤ 3 → as.length = s ^ n → (∀ a ∈ as, a < s) →
  Dp K (off H' p) v (.tuple [nD n, .tuple (as.map nD)]) → Q v H'
abbrev NOpn : List Str := ["box", "size", "places", "kind", "answers", "place", "other", "most", "table", "row", "value", "turn"]
theorem scOpn : FnScope NOpn ["box", "size"] (defScope sOpn) := ⟨rfl, rfl, rfl, by decide +kernel, rfl, by decide +kernel, by decide +kernel⟩
theorem ok_opn {f fT fP fG : Addr} {fd fdT fdP fdG : FuncData} (F : Fun K "_law_operation" "_law_operation" sOpn f fd) (Z : Bi mg) (FT : At K mg "_law_take" sTake fT fdT ["box", "many"]) (GT : FnOk P w K mg base CX0 1 fT fdT ["box", "many"] spTake)
    (FP : At K mg "_law_pick" sPick fP fdP ["box", "some"]) (GP : FnOk P w K mg base CX0 2 fP fdP ["box", "some"] (spPick K)) (FG : At K mg "_law_grid" sGrid fG fdG ["size", "many"]) (GG : FnOk P w K mg base CX0 1 fG fdG ["size", "many"] (spGrid K)) :
    FnOk P w K mg base CX0 3 f fd ["box", "size"] (spOpn K) := by
  refine F.ok scOpn (fun vs H Q E h => ?_) (fun cdv A outer sh H vs Q E hr h => ?_)
  · obtain ⟨p, s, rfl, _⟩ := h
    rfl
  · obtain ⟨p, s, rfl, s2, s4, hb, k⟩ := h
    have hu := hr65 hr
    refine ⟨_, pss_cons (ps_par rfl scOpn.nd (i := 2) (j := 3) rfl rfl (by decide) rfl rfl (by exact (pa_cons (pe_call GP (hr.mono (by decide)) rfl FP.g FP.F.kp FP.b .nil pass0 (by exact (pa_cons (pv 0) (pa_cons (pe_lst (by exact (pa_cons pe_int (pa_cons pe_int (pa_cons pe_int (pa_cons (pe_ifExp (pt_cmpR op_lt (pv 1) pe_int (nomark _)) pe_int pe_int) pa_nil)))))) pa_nil))))
        (pa_cons (pe_call GT (hr.mono (by decide)) rfl FT.g FT.F.kp FT.b .nil pass0 (by exact (pa_cons (pv 0) (pa_cons pe_int pa_nil)))) pa_nil))) (by rfl))
      (pss_cons (ps_asg (pe_tup (by exact (pa_cons (pe_lst pa_nil) (pa_cons (pe_call GT (hr.mono (by decide)) rfl FT.g FT.F.kp FT.b .nil pass0 (by exact (pa_cons (pv 0) (pa_cons (pv 2) pa_nil))))
          (pa_cons (pe_call GT (hr.mono (by decide)) rfl FT.g FT.F.kp FT.b .nil pass0 (by exact (pa_cons (pv 0) (pa_cons (pv 2) pa_nil)))) (pa_cons (pe_call GT (hr.mono (by decide)) rfl FT.g FT.F.kp FT.b .nil pass0 (by exact (pa_cons (pv 0) (pa_cons (pv 1) pa_nil)))) pa_nil))))))
        (pg_tup rfl (pgs_cons (pg_name (i := 4) scOpn.nd rfl (Or.inl rfl)) (pgs_cons (pg_name (i := 5) scOpn.nd rfl (Or.inl rfl)) (pgs_cons (pg_name (i := 6) scOpn.nd rfl (Or.inl rfl)) (pgs_cons (pg_name (i := 7) scOpn.nd rfl (Or.inl rfl)) pgs_nil))))))
      (pss_cons (ps_setLc (i := 8) (own := [("turn", 11)]) (g := gName 11) (tt := tYes) (te := tCall spTake [] E0 (tCons (tVar 0) (tCons (tVar 1) tNil))) rfl scOpn.nd rfl rfl (sw_true rfl rfl rfl (by decide +kernel)) (pi_range1 (by rfl) Z.range (pa_cons (pe_op op_mul (pv 1) (pv 1)) pa_nil))
          (blkOk_by (N := NOpn) (sc := defScope sOpn) (by decide +kernel)) (fun _ _ _ _ _ => pg_name (i := 11) scOpn.nd rfl (Or.inl rfl)) (fun _ _ _ _ _ => pts_nil) (fun _ _ _ _ _ => pe_call GT (hr.mono (by decide)) (by rfl) FT.g FT.F.kp FT.b .nil pass0 (by exact (pa_cons (pv 0) (pa_cons (pv 1) pa_nil)))))
      (pss_cons (ps_for PassesOwn.never rfl (pi_list (pe_call GG (hr.mono (by decide)) rfl FG.g FG.F.kp FG.b .nil pass0 (by exact (pa_cons (pv 1) (pa_cons (pv 2) pa_nil))))) (pg_name (i := 9) scOpn.nd rfl (Or.inl rfl))
        (pss_cons (ps_set (i := 10) scOpn.nd rfl (Or.inl rfl) (pe_ifExp (pt_cmpR op_eq (pv 3) pe_int (nomark _)) (pe_call GT (hr.mono (by decide)) rfl FT.g FT.F.kp FT.b .nil pass0 (by exact (pa_cons (pv 0) (pa_cons (pv 1) pa_nil))))
            (pe_ix ix_list (pv 8) (pe_op op_add (pe_op op_mul (pe_ix ix_tup (pv 9) (pv 5) (fun _ _ => rfl)) (pv 1)) (pe_ix ix_tup (pv 9) (pv 6) (fun _ _ => rfl))) (fun _ _ => rfl))))
        (pss_cons (ps_set (i := 10) scOpn.nd rfl (Or.inl rfl) (pe_ifExp (pt_cmpR op_eq (pv 3) pe_int (nomark _)) (pe_ix ix_tup (pv 9) (pv 5) (fun _ _ => rfl)) (pe_ifExp (pt_cmpR op_eq (pv 3) pe_int (nomark _))
            (pe_callB (call_min2 rfl) (by rfl) Z.min (by decide +kernel) (pa_cons (pe_callB (cr_maxT rfl hu) (by rfl) Z.max (by decide +kernel) (pa_cons (pv 9) pa_nil)) (pa_cons (pv 7) pa_nil))) (pv 10))))
        (pss_one (ps_expr (pe_bm PySem.F.plainAttrs_list PySem.F.slot_list_append PySem.F.type_list_append mt_append (pv 4) (pa_cons
          (pe_ifExp (PW.pt (pw_and (pt_cmpR op_eq (pv 3) pe_int (nomark _)) (pw_and1 (pt_cmpR op_eq (pe_ix ix_tup (pv 9) (pv 5) (fun _ _ => rfl)) (pv 7) (nomark _))))) (pe_ix ix_tup (pv 9) (pv 6) (fun _ _ => rfl)) (pv 10)) pa_nil)))))))
      (pss_one (ps_ret (pe_tup (by exact (pa_cons (pv 2) (pa_cons (pe_tupleOf (by rfl) Z.tuple (pv 4)) pa_nil))))))))), ?_⟩
    refine ⟨_, rfl, _, rfl, _, _, rfl, rfl, _, rfl, ?_⟩
    refine ifC fun x3 hx3 => ⟨(by show 4 ≤ sizeLine; decide), fun l hl => ?_⟩
    refine ⟨p, l, _, rfl, hb.fresh hl, hb.same (same_new hl), upd_same, by show 0 < 4; decide, by show 4 < 1000; decide, fun H1 v1 bt1 b1 hv1 => ?_⟩
    obtain ⟨n, rfl, n1, n3⟩ : ∃ n : Nat, v1 = .int (n : Int) ∧ 1 ≤ n ∧ n ≤ 3 := by
      simp only [List.mem_cons, List.not_mem_nil, or_false] at hv1
      rcases hv1 with rfl | rfl | rfl | rfl
      · exact ⟨1, rfl, by decide, by decide⟩
      · exact ⟨2, rfl, by decide, by decide⟩
      · exact ⟨2, rfl, by decide, by decide⟩
      · rcases hx3 with rfl | rfl
        · exact ⟨3, rfl, by decide, by decide⟩
        · exact ⟨2, rfl, by decide, by decide⟩
    have bA : But p H H1 := (But.of (same_new hl)).trans bt1
    refine ⟨_, rfl, p, 5, rfl, by decide, by decide, b1, fun H2 kd bt2 b2 _ _ => ⟨_, _, rfl, ?_⟩⟩
    have bB := bA.trans bt2
    refine ⟨(by show 0 ≤ sizeLine; decide), fun L hL => ?_⟩
    have nLp : L ≠ p := b2.fresh hL
    have nHL : H L = none := none_but bB nLp hL
    refine ⟨_, rfl, _, rfl, p, n, rfl, by omega, by omega, b2.ne nLp, fun H3 d1 bt3 b3 d10 d11 => ?_⟩
    obtain ⟨pl, rfl, hpl⟩ := nat_of d10 d11
    refine ⟨_, rfl, _, rfl, p, n, rfl, by omega, by omega, b3, fun H4 d2 bt4 b4 d20 d21 => ?_⟩
    obtain ⟨ot, rfl, hot⟩ := nat_of d20 d21
    refine ⟨_, rfl, _, rfl, p, s, rfl, by omega, by omega, b4, fun H5 d3 bt5 b5 d30 d31 => ?_⟩
    obtain ⟨mo, rfl, hmo⟩ := nat_of d30 d31
    refine ⟨(by show 4 ≤ sizeLine; decide), fun t ht => ?_⟩
    have eL5 : H5 L = some (.lst []) := bt5 L _ (bt4 L _ (bt3 L _ upd_same nLp) nLp) nLp
    have bC : But p H H5 := (((bB.new (none_but bB nLp hL)).trans bt3).trans bt4).trans bt5
    refine ⟨t, _, rfl, SqT.of upd_same, rfl, _, _, rfl, _, _, rfl, _, _, rfl, _, _, rfl, rfl, ?_⟩
    have ntp : t ≠ p := b5.fresh ht
    have b6 := b5.ne (o := .tup [.ref L, .int (pl : Int), .int (ot : Int), .int (mo : Int)]) ntp
    have bD := bC.new (o := .tup [.ref L, .int (pl : Int), .int (ot : Int), .int (mo : Int)]) (none_but bC ntp ht)
    have eL6 : upd H5 t (.tup [.ref L, .int (pl : Int), .int (ot : Int), .int (mo : Int)]) L = some (.lst []) := by rw [upd_ne (ne_of_none eL5 ht)]; exact eL5
    generalize upd H5 t (.tup [.ref L, .int (pl : Int), .int (ot : Int), .int (mo : Int)]) = H6 at b6 bD eL6
    clear eL5 bC ht b5 bt5 bt4 bt3
    refine ⟨_, rfl, _, rfl, _, _, rfl, rfl, .inr ⟨by omega, by omega⟩, (s : Int) * s, rfl, ?_, ?_, ?_⟩
    · have : (s : Int) * s = ((s * s : Nat) : Int) := by rw [Int.natCast_mul]
      rw [this]
      omega
    · have h1 : s * s ≤ 4 * 4 := Nat.mul_le_mul s4 s4
      have : (s : Int) * s = ((s * s : Nat) : Int) := by rw [Int.natCast_mul]
      rw [this]
      omega
    rw [show ((s : Int) * s).toNat = s * s from by rw [← Int.natCast_mul, Int.toNat_natCast]]
    refine fun T hT => walk_it walk_range (fun i H' => But p H6 H' ∧ Box H' p ∧ ∃ ts : List Nat, ts.length = i ∧ (∀ a ∈ ts, a < s) ∧ H' T = some (.lst (ts.map fun n : Nat => V.int n))) ⟨(But.refl p H6).new hT, b6.ne (b6.fresh hT), [], rfl, (fun a h => nomatch h), upd_same⟩ (fun _ _ _ _ => trivial) ?_ ?_
    · rintro i x _ H7 hi ⟨bt, b7, ts, lt, hlt, eT⟩ ⟨rfl, ex⟩
      refine ⟨rfl, _, rfl, _, rfl, p, s, rfl, by omega, by omega, b7, fun H8 d bt8 b8 d0 d1 => ?_⟩
      obtain ⟨dn, rfl, hdn⟩ := nat_of d0 d1
      have nT := b6.fresh hT
      have s16 : s * s ≤ 4 * 4 := Nat.mul_le_mul s4 s4
      refine ⟨_, bt8 T _ eT nT, by rw [List.length_map, lt, sizeLine_eq]; omega, (bt.trans bt8).new hT, b8.ne nT, ts ++ [dn], by rw [List.length_append, lt]; rfl, fun a ha => ?_, by rw [upd_same, List.map_append]; rfl⟩
      rcases List.mem_append.mp ha with h | h
      · exact hlt a h
      · rw [List.mem_singleton] at h
        omega
    · rintro H7 ⟨bt, b7, ts, lt, hlt, eT⟩
      have nT := b6.fresh hT
      have nTL : T ≠ L := fun z => by rw [z, eL6] at hT; cases hT
      have bE := bD.trans bt
      have eL7 := bt L _ eL6 nLp
      refine ⟨_, rfl, _, rfl, s, n, rfl, by omega, by omega, fun H8 vR s8 fR => ?_⟩
      obtain ⟨aR, xR, rfl, nR, eR, rR⟩ := fR
      refine ⟨aR, rfl, ⟨xR, SqL.of eR⟩, ?_⟩
      have b8 := b7.same s8
      have eL8 := s8 _ _ eL7
      have eT8 := s8 _ _ eT
      have nRp : aR ≠ p := b7.fresh nR
      have nRL : aR ≠ L := fun z => by rw [z, eL7] at nR; cases nR
      obtain ⟨bx, by', bz, ep8⟩ := id b8
      have cR : DpAll K (off (off H8 p) L) xR ((gridN s n).map rowT) := rows_off (by rw [off_ne nLp]; exact eL8) (rows_off ep8 rR)
      have lR : xR.length = s ^ n := by rw [dpAll_len rR, List.length_map, gridN_len]
      have l64 : s ^ n ≤ 4 ^ 3 := Nat.le_trans (Nat.pow_le_pow_left s4 n) (Nat.pow_le_pow_right (by decide) n3)
      have bF : But p H H8 := bE.trans (But.of s8)
      refine for_list (K := K) (a := aR) (xs := xR) (fun i σ H' => ∃ u9 u10 : Option V, σ = [some (.ref p), some (.int s), some (.int n), some (.int kd), some (.ref L), some (.int pl), some (.int ot), some (.int mo), some (.ref T), u9, u10, none] ∧ But2 p L H8 H' ∧ Box H' p ∧
          ∃ as : List Nat, as.length = i ∧ (∀ a ∈ as, a < s) ∧ H' L = some (.lst (as.map fun n : Nat => V.int n)))
        ⟨none, none, rfl, fun c o e _ _ => e, b8, [], rfl, (fun a h => nomatch h), eL8⟩ (fun i σ H' _ ⟨_, _, _, b, _⟩ => SqL.of (b aR _ eR nRp nRL)) ?_ ?_
      · rintro i y σ H9 hy ⟨u9, u10, rfl, bt9, b9, as, la, hlt9, eL9⟩
        obtain ⟨dr, hr', hyd⟩ := dpAll_get cR hy
        obtain ⟨r, hrr, rfl⟩ : ∃ r, (gridN s n)[i]? = some r ∧ dr = rowT r := by
          rw [List.getElem?_map] at hr'
          cases e : (gridN s n)[i]? with
          | none =>
            rw [e] at hr'
            cases hr'
          | some c =>
            rw [e] at hr'
            exact ⟨c, rfl, (Option.some.inj hr').symm⟩
        obtain ⟨lr, xr⟩ := gridN_row r (List.mem_of_getElem? hrr)
        obtain ⟨ar, xs, rfl, qr, rr⟩ := dp_tup hyd
        obtain rfl := dpAll_eqn rr
        have row : ∀ H', But2 p L H8 H' → SqT K H' ar (r.map fun n : Nat => V.int n) := fun H' b => seqT off_le (seqT off_le (seqT b.off qr))
        have hpl' : pl < r.length := by omega
        have hot' : ot < r.length := by omega
        have xpl := xr _ (List.getElem_mem hpl')
        have xot := xr _ (List.getElem_mem hot')
        have apl : atI (r.map fun n : Nat => V.int n) (pl : Int) = some (.int (r[pl] : Nat)) := atI_nat (by rw [List.getElem?_map, List.getElem?_eq_getElem hpl']; rfl)
        have aot : atI (r.map fun n : Nat => V.int n) (ot : Int) = some (.int (r[ot] : Nat)) := atI_nat (by rw [List.getElem?_map, List.getElem?_eq_getElem hot']; rfl)
        have hti : r[pl] * s + r[ot] < ts.length := by
          have : (r[pl] + 1) * s ≤ s * s := Nat.mul_le_mul_right _ xpl
          rw [Nat.add_mul, Nat.one_mul] at this
          omega
        have ati : atI (ts.map fun n : Nat => V.int n) ((r[pl] : Int) * (s : Int) + (r[ot] : Int)) = some (.int (ts[r[pl] * s + r[ot]] : Nat)) := by
          rw [show ((r[pl] : Int) * (s : Int) + (r[ot] : Int)) = ((r[pl] * s + r[ot] : Nat) : Int) from by rw [Int.natCast_add, Int.natCast_mul]]
          exact atI_nat (by rw [List.getElem?_map, List.getElem?_eq_getElem hti]; rfl)
        have R : V → Hp → Prop := fun x H' => ∃ v : Nat, v < s ∧ x = .int v ∧ But2 p L H8 H' ∧ Box H' p ∧ H' L = some (.lst (as.map fun n : Nat => V.int n))
        refine ⟨_, rfl, rfl, _, rfl, ?_⟩
        refine ifE (fun x H' => ∃ v : Nat, v < s ∧ x = .int v ∧ But2 p L H8 H' ∧ Box H' p ∧ H' L = some (.lst (as.map fun n : Nat => V.int n))) (fun _ Q' hQ => ?_) (fun _ Q' hQ => ?_) ?_
        · refine ⟨_, rfl, _, rfl, p, s, rfl, by omega, by omega, b9, fun H10 d bt b10 d0 dm => ?_⟩
          obtain ⟨dn, rfl, hdn⟩ := nat_of d0 dm
          exact hQ _ _ ⟨dn, by omega, rfl, fun c o e n1 n2 => bt c o (bt9 c o e n1 n2) n1, b10, bt L _ eL9 nLp⟩
        · refine ⟨_, rfl, _, rfl, _, rfl, ar, _, _, _, rfl, rfl, row H9 bt9, apl, _, rfl, _, _, rfl, rfl, .inr ⟨by omega, by omega⟩, _, rfl, _, rfl, ar, _, _, _, rfl, rfl, row H9 bt9, aot, _, _, rfl, rfl, T, _, _, _, rfl, rfl, SqL.of (bt9 T _ eT8 nT nTL), ati, ?_⟩
          exact hQ _ _ ⟨_, hlt _ (List.getElem_mem hti), rfl, bt9, b9, eL9⟩
        rintro _ H10 ⟨v, hv, rfl, bt10, b10, eL10⟩
        refine ⟨_, rfl, rfl, _, rfl, ?_⟩
        refine ifE (fun x H' => ∃ v : Nat, v < s ∧ x = .int v ∧ H' = H10) (fun _ Q' hQ => ?_) (fun _ Q' hQ => ?_) ?_
        · exact ⟨_, rfl, _, rfl, ar, _, _, _, rfl, rfl, row H10 bt10, apl, hQ _ _ ⟨_, xpl, rfl, rfl⟩⟩
        · refine ⟨_, rfl, rfl, _, rfl, ?_⟩
          refine ifE (fun x H' => ∃ v : Nat, v < s ∧ x = .int v ∧ H' = H10) (fun _ Q' hQ => ?_) (fun _ Q' hQ => ?_) hQ
          · refine ⟨_, rfl, ar, r, rfl, row H10 bt10, (fun z => by rw [z] at lr; simp at lr; omega), fun m hm => ⟨_, rfl, _, _, rfl, ?_⟩⟩
            have hms := xr m hm
            by_cases h : (mo : Int) < (m : Int)
            · rw [if_pos h]
              exact hQ _ _ ⟨mo, by omega, rfl, rfl⟩
            · rw [if_neg h]
              exact hQ _ _ ⟨m, hms, rfl, rfl⟩
          · exact ⟨_, rfl, hQ _ _ ⟨v, hv, rfl, rfl⟩⟩
        rintro _ H11 ⟨v2, hv2, rfl, rfl⟩
        have il : i < s ^ n := by
          have := (List.getElem?_eq_some_iff.mp hy).1
          omega
        have app : ∀ v : Nat, v < s → But2 p L H8 (upd H11 L (.lst ((as.map fun n : Nat => V.int n) ++ [.int v]))) ∧ Box (upd H11 L (.lst ((as.map fun n : Nat => V.int n) ++ [.int v]))) p ∧
            ∃ as' : List Nat, as'.length = i + 1 ∧ (∀ a ∈ as', a < s) ∧ (upd H11 L (.lst ((as.map fun n : Nat => V.int n) ++ [.int v]))) L = some (.lst (as'.map fun n : Nat => V.int n)) := by
          intro v hv
          refine ⟨fun c o e n1 n2 => by rw [upd_ne n2]; exact bt10 c o e n1 n2, b10.ne nLp, as ++ [v], by rw [List.length_append, la]; rfl, fun a ha => ?_, by rw [upd_same, List.map_append]; rfl⟩
          rcases List.mem_append.mp ha with h | h
          · exact hlt9 a h
          · rw [List.mem_singleton] at h
            rw [h]
            exact hv
        have lsz : (as.map fun n : Nat => V.int n).length < sizeLine := by
          rw [List.length_map, la, sizeLine_eq]
          have : (4 : Nat) ^ 3 = 64 := by decide
          omega
        refine ⟨_, rfl, .inl ⟨rfl, _, SqL.of eL10⟩, _, rfl, rfl, _, rfl, ?_⟩
        by_cases hk4 : decide (V.int kd = V.int 4) = true
        · refine go_t hk4 ?_
          refine ⟨_, rfl, _, rfl, ar, _, _, _, rfl, rfl, row H11 bt10, apl, _, rfl, rfl, _, rfl, ?_⟩
          refine ifE (fun x H' => ∃ v : Nat, v < s ∧ x = .int v ∧ H' = H11) (fun _ Q' hQ => ?_) (fun _ Q' hQ => ?_) ?_
          · exact ⟨_, rfl, _, rfl, ar, _, _, _, rfl, rfl, row H11 bt10, aot, hQ _ _ ⟨_, xot, rfl, rfl⟩⟩
          · exact ⟨_, rfl, hQ _ _ ⟨v2, hv2, rfl, rfl⟩⟩
          rintro _ _ ⟨v, hv, rfl, rfl⟩
          exact ⟨L, _, _, rfl, rfl, eL10, lsz, _, _, rfl, app v hv⟩
        · refine go_f (by simpa using hk4) ?_
          refine go_f rfl ?_
          exact ⟨_, rfl, L, _, _, rfl, rfl, eL10, lsz, _, _, rfl, app v2 hv2⟩
      · rintro σ H9 ⟨u9, u10, rfl, bt9, b9, as, la, hlt9, eL9⟩
        refine ⟨_, rfl, _, rfl, .inl ⟨L, _, rfl, SqL.of eL9, fun q hq => ⟨(by show 2 ≤ sizeLine; decide), fun t2 ht2 => ?_⟩⟩⟩
        have nqp : q ≠ p := b9.fresh hq
        have bq := b9.ne (o := .tup (as.map fun n : Nat => V.int n)) nqp
        have nt2 : t2 ≠ p := bq.fresh ht2
        have bG : But p H H9 := fun c o e n1 => bt9 c o (bF c o e n1) n1 fun z => by
          rw [z, nHL] at e
          cases e
        have nq := none_but bG nqp hq
        have nt : H t2 = none := none_but (bG.new nq) nt2 ht2
        refine k _ _ n as ((bG.new nq).new nt) (bq.ne nt2) n1 n3 (by rw [la, lR]) hlt9 ?_
        refine .tup (SqT.of (by rw [off_ne nt2]; exact upd_same)) (.cons (.int _) (.cons (.tup (SqT.of (by rw [off_ne nqp, upd_ne (fun z => by rw [z, upd_same] at ht2; cases ht2)]; exact upd_same)) (dpAll_mkn as)) .nil))
end
end K01
/-! the grid's rows that agree with what is held. -/
namespace K01
open PySem L2 FX SQ
def dis (os : List (Option Nat)) (r : List Nat) (j : Nat) : Bool := match os[j]? with
  | some (some m) => !(some m == r[j]?)
  | _ => false
def agree (os : List (Option Nat)) (r : List Nat) : Bool := (List.range os.length).all fun j => !dis os r j
theorem empty_all {α : Type} (p : α → Bool) : ∀ l : List α, (l.filter p).isEmpty = l.all fun x => !p x
  | [] => rfl
  | a :: l => by
    rw [List.filter_cons, List.all_cons, ← empty_all p l]
    cases p a <;> simp
theorem agree_snoc {os : List (Option Nat)} {r : List Nat} (h : r.length = os.length) (o : Option Nat) (x : Nat) : agree (os ++ [o]) (r ++ [x]) = (agree os r && (match o with | none => true | some m => m == x)) := by
  unfold agree
  rw [List.length_append, List.length_singleton, List.range_succ, List.all_append, List.all_cons, List.all_nil, Bool.and_true]
  congr 1
  · refine Bool.eq_iff_iff.mpr ?_
    simp only [List.all_eq_true, List.mem_range]
    refine forall_congr' fun j => ?_
    refine imp_congr_right fun hj => ?_
    unfold dis
    rw [List.getElem?_append_left hj, List.getElem?_append_left (by omega)]
  · unfold dis
    rw [List.getElem?_append_right (Nat.le_refl _), List.getElem?_append_right (by omega), h]
    simp only [Nat.sub_self, List.getElem?_cons_zero]
    cases o with
    | none => rfl
    | some m => simp
theorem range_one {s m : Nat} (h : m < s) : (List.range s).filter (fun x => m == x) = [m] := by
  induction s with
  | zero => omega
  | succ s ih =>
    rw [List.range_succ, List.filter_append]
    by_cases e : m = s
    · subst e
      have z : (List.range m).filter (fun x => m == x) = [] := by
        rw [List.filter_eq_nil_iff]
        intro a ha
        have := List.mem_range.mp ha
        simp
        omega
      rw [z]
      simp
    · rw [ih (by omega)]
      have : (m == s) = false := by simpa using e
      simp [this]
theorem step_filter {s : Nat} {os : List (Option Nat)} {o : Option Nat} (ho : ∀ m, o = some m → m < s) : ∀ A : List (List Nat), (∀ r ∈ A, r.length = os.length) → (stepN A (List.range s)).filter (agree (os ++ [o])) = stepN (A.filter (agree os)) (choiceN s o)
  | [], _ => rfl
  | r :: A, h => by
    have ih := step_filter (os := os) ho A fun r' h' => h r' (List.mem_cons_of_mem _ h')
    have hr := h r (List.mem_cons_self ..)
    unfold stepN at ih ⊢
    rw [List.flatMap_cons, List.filter_append, ih, List.filter_cons]
    have e : ((List.range s).map fun x => r ++ [x]).filter (agree (os ++ [o])) = if agree os r = true then (choiceN s o).map fun x => r ++ [x] else [] := by
      rw [List.filter_map]
      have : (agree (os ++ [o]) ∘ fun x => r ++ [x]) = fun x => (agree os r && (match o with | none => true | some m => m == x)) := by
        funext x
        exact agree_snoc hr o x
      rw [this]
      cases ha : agree os r with
      | false =>
        simp
      | true =>
        simp only [Bool.true_and, if_true]
        cases o with
        | none =>
          rw [show (List.range s).filter (fun _ => true) = List.range s from List.filter_eq_self.mpr fun _ _ => rfl]
          rfl
        | some m =>
          rw [range_one (ho m rfl)]
          rfl
    rw [e]
    cases ha : agree os r with
    | false => simp
    | true => simp [List.flatMap_cons]
theorem grid_filter {s : Nat} : ∀ (os os0 : List (Option Nat)) (A : List (List Nat)), (∀ r ∈ A, r.length = os0.length) → (∀ m, some m ∈ os → m < s) →
    ((List.replicate os.length (List.range s)).foldl stepN A).filter (agree (os0 ++ os)) = (os.map (choiceN s)).foldl stepN (A.filter (agree os0))
  | [], os0, A, h, _ => by simp
  | o :: os, os0, A, h, hl => by
    rw [List.length_cons, List.replicate_succ, List.foldl_cons, List.map_cons, List.foldl_cons]
    rw [← step_filter (os := os0) (fun m e => hl m (by rw [e]; exact List.mem_cons_self ..)) A h]
    have := grid_filter os (os0 ++ [o]) (stepN A (List.range s)) (fun r' hr' => by
      obtain ⟨r0, h0, hm⟩ := List.mem_flatMap.mp hr'
      obtain ⟨x, _, rfl⟩ := List.mem_map.mp hm
      rw [List.length_append, h r0 h0, List.length_append]
      rfl) (fun m h' => hl m (List.mem_cons_of_mem _ h'))
    rw [List.append_assoc] at this
    exact this
theorem grid_held {s : Nat} {os : List (Option Nat)} (hl : ∀ m, some m ∈ os → m < s) : (gridN s os.length).filter (agree os) = rowsN (os.map (choiceN s)) := by
  have := grid_filter os [] [[]] (fun r h => by rw [List.mem_singleton] at h; subst h; rfl) hl
  rw [List.nil_append] at this
  exact this
theorem range_flat (s : Nat) : ∀ m : Nat, ((List.range m).flatMap fun a => (List.range s).map fun x => a * s + x) = List.range (m * s)
  | 0 => by simp
  | m + 1 => by
    rw [List.range_succ, List.flatMap_append, range_flat s m, Nat.add_mul, Nat.one_mul, List.range_add]
    simp
theorem spot_snoc (s : Nat) (r : List Nat) (x : Nat) : spotN s (r ++ [x]) = spotN s r * s + x := by
  unfold spotN
  rw [List.foldl_append]
  rfl
theorem grid_spots (s : Nat) : ∀ n : Nat, (gridN s n).map (spotN s) = List.range (s ^ n)
  | 0 => rfl
  | n + 1 => by
    rw [gridN_succ]
    unfold stepN
    rw [List.map_flatMap]
    have e : (gridN s n).flatMap (fun a => ((List.range s).map fun x => a ++ [x]).map (spotN s)) = ((gridN s n).map (spotN s)).flatMap fun a => (List.range s).map fun x => a * s + x := by
      rw [List.flatMap_map]
      congr 1
      funext r
      rw [List.map_map]
      congr 1
      funext x
      exact spot_snoc s r x
    rw [e, grid_spots s n, range_flat, Nat.pow_succ]
theorem grid_spot {s n i : Nat} {r : List Nat} (h : (gridN s n)[i]? = some r) : spotN s r = i := by
  have h1 : ((gridN s n).map (spotN s))[i]? = some (spotN s r) := by rw [List.getElem?_map, h]; rfl
  rw [grid_spots] at h1
  obtain ⟨h2, h3⟩ := List.getElem?_eq_some_iff.mp h1
  rw [List.getElem_range] at h3
  exact h3.symm
end K01
/-! the law's own held table. -/
namespace K01
open PySem L2 FX SQ
abbrev sHeldL : Stmt := top 35
theorem depth_n : ∀ ns : List Nat, PyData.depthAll (ns.map nD) ≤ 1
  | [] => by decide
  | n :: r => by
    have := depth_n r
    show max (PyData.depth (nD n)) (PyData.depthAll (r.map nD)) ≤ 1
    exact Nat.max_le.mpr ⟨by show PyData.depth (.int n) ≤ 1; simp [PyData.depth], this⟩
theorem shaped_n (ns : List Nat) : SeqAt.shaped (.list (ns.map nD)) = true := by
  unfold SeqAt.shaped
  rw [Bool.and_eq_true]
  refine ⟨lay_n ns, decide_eq_true ?_⟩
  have := depth_n ns
  show PyData.depth (.list (ns.map nD)) ≤ 64
  simp only [PyData.depth]
  omega
theorem eqv_nil (ns : List Nat) : PyData.eqv (.list (ns.map nD)) (.list []) = ns.isEmpty := by
  cases ns <;> rfl
theorem range_fil (p : Nat → Bool) (j : Nat) : (List.range (j + 1)).filter p = (List.range j).filter p ++ (if p j = true then [j] else []) := by
  rw [List.range_succ, List.filter_append, List.filter_cons]
  rfl
section
variable {P : Program} {w : World} {K : PySem.W.Frag} {mg : Str → Option Value} {base : Heap}
def spHeldL (K : PySem.W.Frag) : Sp := fun vs H Q _ => ∃ (s n : Nat) (vo vh : V) (as : List Nat) (os : List (Option Nat)), vs = [.int s, vo, vh] ∧ Dp K H vo (.tuple [nD n, .tuple (as.map nD)]) ∧ Dp K H vh (.list (os.map oD)) ∧ s ≤ 8 ∧ n ≤ 3 ∧ os.length = n ∧ as.length = s ^ n ∧ (∀ m, some m ∈ os → m < s) ∧
  ∀ H' t va, Same H H' → H' t = some (.tup [.int (cntN os : Nat), va]) → Dp K H' va (.tuple ((heldAns s as os).map nD)) → Q (.ref t) H'
abbrev NHeldL : List Str := ["size", "operation", "held", "rows", "found", "at", "row", "place", "one"]
theorem scHeldL : FnScope NHeldL ["size", "operation", "held"] (defScope sHeldL) := ⟨rfl, rfl, rfl, by decide +kernel, rfl, by decide +kernel, by decide +kernel⟩
abbrev ttH (K : PySem.W.Frag) : TT := tAnd (tTest (tOp (fun x y H Q => y = V.non ∧ Q (V.bl !decide (x = V.non)) H) (tOp (rIxL K) (tVar 2) (tVar 7)) (tC V.non))) (tTest (tOp rNe (tOp (rIxL K) (tVar 2) (tVar 7)) (tOp (rIxT K) (tVar 6) (tVar 7))))
theorem ok_heldL {f fG : Addr} {fd fdG : FuncData} (F : Fun K "_law_held" "_law_held" sHeldL f fd) (Z : Bi mg) (FG : At K mg "_law_grid" sGrid fG fdG ["size", "many"]) (GG : FnOk P w K mg base CX0 1 fG fdG ["size", "many"] (spGrid K)) :
    FnOk P w K mg base CX0 2 f fd ["size", "operation", "held"] (spHeldL K) := by
  refine F.ok scHeldL (fun vs H Q E h => ?_) (fun cdv A outer sh H vs Q E hr h => ?_)
  · obtain ⟨s, n, vo, vh, as, os, rfl, _⟩ := h
    rfl
  · obtain ⟨s, n, vo, vh, as, os, rfl, ho, hh, s8, n3, lo, la, hlt, k⟩ := h
    have hu := hr.units
    refine ⟨_, pss_cons (ps_set (i := 3) scHeldL.nd rfl (Or.inl rfl) (pe_call GG hr rfl FG.g FG.F.kp FG.b .nil pass0 (by exact (pa_cons (pv 0) (pa_cons (pe_ix ix_tup (pv 1) pe_int (fun _ _ => rfl)) pa_nil)))))
      (pss_cons (ps_set (i := 4) scHeldL.nd rfl (Or.inl rfl) (pe_lst pa_nil))
      (pss_cons (ps_for PassesOwn.never rfl (pi_enum2 (by rfl) Z.enumerate (pa_cons (pv 3) pa_nil)) (pg_tup rfl (pgs_cons (pg_name (i := 5) scHeldL.nd rfl (Or.inl rfl)) (pgs_cons (pg_name (i := 6) scHeldL.nd rfl (Or.inr rfl)) pgs_nil)))
        (pss_one (ps_if (pt_cmpR (op_eqD hu) (pe_lc (own := [("place", 7)]) (g := gName 7) (tt := ttH K) (te := tVar 7) rfl scHeldL.nd (pi_range1 (by rfl) Z.range (pa_cons (pe_ix ix_tup (pv 1) pe_int (fun _ _ => rfl)) pa_nil)) (blkOk_by (N := NHeldL) (sc := defScope sHeldL) (by decide +kernel))
              (fun _ _ _ _ _ => pg_name (i := 7) scHeldL.nd rfl (Or.inl rfl)) (fun _ _ _ _ _ => pts_one (PW.pt (pw_and (pt_cmpR op_notN (pe_ix ix_list (pv 2) (pv 7) (fun _ _ => rfl)) pe_non (nomark _)) (pw_and1 (pt_cmpR op_ne (pe_ix ix_list (pv 2) (pv 7) (fun _ _ => rfl)) (pe_ix ix_tup (pv 6) (pv 7) (fun _ _ => rfl)) (nomark _)))))) (fun _ _ _ _ _ => pv 7)) (pe_lst pa_nil) (nomark _))
          (pss_one (ps_expr (pe_bm PySem.F.plainAttrs_list PySem.F.slot_list_append PySem.F.type_list_append mt_append (pv 4) (pa_cons (pe_ix ix_tup (pe_ix ix_tup (pv 1) pe_int (fun _ _ => rfl)) (pv 5) (fun _ _ => rfl)) pa_nil)))) pss_nil)))
      (pss_one (ps_ret (pe_tup (by exact (pa_cons (pe_callB call_len_seq (by rfl) Z.len PySem.boot_len (pa_cons
        (pe_lc (own := [("one", 8)]) (g := gName 8) (tt := tTest (tOp (fun x y H Q => y = V.non ∧ Q (V.bl (decide (x = V.non))) H) (tVar 8) (tC V.non))) (te := tVar 8) rfl scHeldL.nd (pi_list (pv 2)) (blkOk_by (N := NHeldL) (sc := defScope sHeldL) (by decide +kernel))
          (fun _ _ _ _ _ => pg_name (i := 8) scHeldL.nd rfl (Or.inl rfl)) (fun _ _ _ _ _ => pts_one (pt_cmpR op_isN (pv 8) pe_non (nomark _))) (fun _ _ _ _ _ => pv 8)) pa_nil)) (pa_cons (pe_tupleOf (by rfl) Z.tuple (pv 4)) pa_nil)))))))), ?_⟩
    obtain ⟨aO, xO, rfl, qO, rO⟩ := dp_tup ho
    obtain ⟨va, rfl, da⟩ : ∃ va, xO = [.int (n : Int), va] ∧ Dp K H va (.tuple (as.map nD)) := by
      cases rO with
      | cons h0 r => cases r with
        | cons h1 r => cases r with
          | nil =>
            cases h0
            exact ⟨_, rfl, h1⟩
    obtain ⟨aA, xA, rfl, qA, rA⟩ := dp_tup da
    obtain rfl := dpAll_eqn rA
    obtain ⟨aH, xH, rfl, qH, rH⟩ := dp_list hh
    have lH : xH.length = os.length := by rw [dpAll_len rH, List.length_map]
    refine ⟨_, rfl, _, rfl, aO, _, _, _, rfl, rfl, qO, atI_nat (j := 0) rfl, s, n, rfl, s8, by omega, fun H1 vR s1 fR => ?_⟩
    obtain ⟨aR, xR, rfl, nR, eR, rR⟩ := fR
    have lR : xR.length = s ^ n := by rw [dpAll_len rR, List.length_map, gridN_len]
    refine ⟨(by show 0 ≤ sizeLine; decide), fun L hL => ?_⟩
    have eL2 : upd H1 L (.lst []) L = some (.lst []) := upd_same
    have s2 : Same H1 (upd H1 L (.lst [])) := same_new hL
    generalize upd H1 L (.lst []) = H2 at eL2 s2
    have kp1 : ∀ {H'}, But L H2 H' → Same H1 H' := fun b c o e => b c o (s2 c o e) (ne_of_none e hL)
    have kp : ∀ {H'}, But L H2 H' → Same H H' := fun b => s1.trans (kp1 b)
    refine ⟨_, rfl, aR, xR, .L, rfl, SqL.of (s2 _ _ eR), for_it (walk_enum2 (k := .L) (a := aR) (xs := xR) (n := xR.length) rfl)
      (fun i σ H' => ∃ u5 u6 : Option V, σ = [some (.int s), some (.ref aO), some (.ref aH), some (.ref aR), some (.ref L), u5, u6, none, none] ∧ But L H2 H' ∧
        H' L = some (.lst ((((gridN s n).take i).filter (agree os)).map fun r => V.int ((as.getD (spotN s r) 0 : Nat) : Int))))
      ⟨none, none, rfl, But.refl L H2, eL2⟩ (fun i σ H' _ ⟨_, _, _, b, _⟩ => SqL.of (kp1 b _ _ eR)) ?_ ?_⟩
    · rintro i x σ H3 H4 hi ⟨u5, u6, rfl, b3, eL3⟩ ⟨t, x1, x2, rfl, ht, rfl, hx1, hx2⟩
      obtain rfl : x1 = .int (i : Nat) := (Option.some.inj hx1).symm
      obtain ⟨dr, hr', hyd⟩ := dpAll_get rR hx2
      obtain ⟨r, hrr, rfl⟩ : ∃ r, (gridN s n)[i]? = some r ∧ dr = rowT r := by
        rw [List.getElem?_map] at hr'
        cases e : (gridN s n)[i]? with
        | none =>
          rw [e] at hr'
          cases hr'
        | some c =>
          rw [e] at hr'
          exact ⟨c, rfl, (Option.some.inj hr').symm⟩
      obtain ⟨lr, xr⟩ := gridN_row r (List.mem_of_getElem? hrr)
      have hsp := grid_spot hrr
      obtain ⟨ar, xs, rfl, qr, rr⟩ := dp_tup hyd
      obtain rfl := dpAll_eqn rr
      have b4 := b3.new (o := .tup [.int (i : Nat), .ref ar]) (none_but b3 (fun z => by rw [z, eL3] at ht; cases ht) ht)
      have eL4 : (upd H3 t (.tup [.int (i : Nat), .ref ar])) L = some (.lst ((((gridN s n).take i).filter (agree os)).map fun r => V.int ((as.getD (spotN s r) 0 : Nat) : Int))) := by
        rw [upd_ne (ne_of_none eL3 ht)]
        exact eL3
      refine ⟨t, _, rfl, SqT.of upd_same, rfl, _, _, rfl, _, _, rfl, rfl, ?_⟩
      generalize upd H3 t (.tup [.int (i : Nat), .ref ar]) = H4 at b4 eL4
      refine ⟨_, rfl, aO, _, _, _, rfl, rfl, seqT (kp b4) qO, atI_nat (j := 0) rfl, n, rfl, by omega, by omega, ?_⟩
      rw [Int.toNat_natCast]
      refine fun D hD => walk_it walk_range (fun j H5 => Same H4 H5 ∧ H5 D = some (.lst (((List.range j).filter (dis os r)).map fun n : Nat => V.int n))) ⟨same_new hD, upd_same⟩ (fun _ _ _ _ => trivial) ?_ ?_
      · rintro j x _ H5 hj ⟨s5, eD⟩ ⟨rfl, ex⟩
        obtain rfl : x = .int (j : Nat) := by
          rw [ex]
          show V.int (0 + (j : Int)) = _
          rw [Int.zero_add]
        refine ⟨rfl, ?_⟩
        have s05 := (kp b4).trans s5
        obtain ⟨o, hos⟩ : ∃ o, os[j]? = some o := ⟨os[j], List.getElem?_eq_getElem (by omega)⟩
        obtain ⟨vj, evj, dvj⟩ := dpAll_at (i := j) (d := oD o) rH (by rw [List.getElem?_map, hos]; rfl)
        have hjr : j < r.length := by omega
        refine ⟨_, rfl, _, rfl, aH, _, _, vj, rfl, rfl, s05.seq qH, atI_nat evj, rfl, _, rfl, ?_⟩
        cases o with
        | none =>
          cases dvj
          refine go_f rfl ?_
          refine go_f rfl ?_
          refine ⟨s5, ?_⟩
          rw [range_fil, if_neg (by unfold dis; rw [hos]; simp), List.append_nil]
          exact eD
        | some m =>
          cases dvj
          refine go_t rfl ?_
          refine ⟨_, rfl, _, rfl, aH, _, _, _, rfl, rfl, s05.seq qH, atI_nat evj, _, rfl, _, rfl, ar, _, _, .int (r[j] : Nat), rfl, rfl, seqT ((kp1 b4).trans s5) qr, atI_nat (by rw [List.getElem?_map, List.getElem?_eq_getElem hjr]; rfl), rfl, _, rfl, ?_⟩
          have hd : dis os r j = !decide (V.int (m : Int) = V.int (r[j] : Nat)) := by
            unfold dis
            rw [hos, List.getElem?_eq_getElem hjr]
            by_cases e : m = r[j]
            · rw [decide_eq_true (by rw [e])]
              simp [e]
            · rw [decide_eq_false (fun z => e (by injection z with z; omega))]
              simp [e]
          by_cases hb : dis os r j = true
          · refine go_t (by rw [← hd]; exact hb) ?_
            refine ⟨_, rfl, _, eD, ?_, same_of s5 hD, ?_⟩
            · rw [List.length_map, sizeLine_eq]
              have := List.length_filter_le (dis os r) (List.range j)
              rw [List.length_range] at this
              omega
            · rw [upd_same, range_fil, if_pos hb, List.map_append]
              rfl
          · refine go_f (by rw [← hd]; simpa using hb) ?_
            refine ⟨s5, ?_⟩
            rw [range_fil, if_neg hb, List.append_nil]
            exact eD
      · rintro H5 ⟨s5, eD⟩
        refine ⟨(by show 0 ≤ sizeLine; decide), fun L2 hL2 => ?_⟩
        have s6 := same_new (o := .lst []) hL2
        have eL5 := s6 _ _ (s5 _ _ eL4)
        have b6 : But L H2 (upd H5 L2 (.lst [])) := b4.trans (But.of (s5.trans s6))
        have s06 := kp b6
        refine ⟨_, _, .lst (SqL.of (s6 _ _ eD)) (dpAll_mkn _), .lst (SqL.of upd_same) .nil, shaped_n _, rfl, _, rfl, ?_⟩
        rw [eqv_nil, empty_all]
        have ea : ((List.range n).all fun j => !dis os r j) = agree os r := by
          unfold agree
          rw [lo]
        rw [ea]
        have et : ((gridN s n).take (i + 1)).filter (agree os) = ((gridN s n).take i).filter (agree os) ++ (if agree os r = true then [r] else []) := by
          rw [take_more hrr, List.filter_append, List.filter_cons]
          rfl
        by_cases ha : agree os r = true
        · refine go_t ha ?_
          have hia : i < as.length := by
            have := (List.getElem?_eq_some_iff.mp hrr).1
            rw [gridN_len] at this
            omega
          refine ⟨_, rfl, .inl ⟨rfl, _, SqL.of eL5⟩, _, rfl, aO, _, _, _, rfl, rfl, seqT s06 qO, atI_nat (j := 1) rfl, _, rfl, aA, _, _, .int (as[i] : Nat), rfl, rfl, seqT s06 qA, atI_nat (by rw [List.getElem?_map, List.getElem?_eq_getElem hia]; rfl), ?_⟩
          refine ⟨L, _, _, rfl, rfl, eL5, ?_, some (.int (i : Nat)), some (.ref ar), rfl, b6.put, ?_⟩
          · rw [List.length_map, sizeLine_eq]
            have h1 := List.length_filter_le (agree os) ((gridN s n).take i)
            rw [List.length_take, gridN_len] at h1
            have h2 : s ^ n ≤ 8 ^ 3 := Nat.le_trans (Nat.pow_le_pow_left s8 n) (Nat.pow_le_pow_right (by decide) n3)
            have h3 : (8 : Nat) ^ 3 = 512 := by decide
            omega
          · rw [upd_same, et, if_pos ha, List.map_append]
            have : as.getD (spotN s r) 0 = as[i] := by rw [hsp, List.getD_eq_getElem?_getD, List.getElem?_eq_getElem hia]; rfl
            simp only [List.map_cons, List.map_nil, this]
        · refine go_f (by simpa using ha) ?_
          refine ⟨some (.int (i : Nat)), some (.ref ar), rfl, b6, ?_⟩
          rw [et, if_neg ha, List.append_nil]
          exact eL5
    · rintro σ H3 ⟨u5, u6, rfl, b3, eL3⟩
      rw [lR, List.take_of_length_le (by rw [gridN_len]; exact Nat.le_refl _)] at eL3
      have s03 := kp b3
      refine ⟨_, rfl, aH, rfl, ⟨_, s03.seq qH⟩, fun D hD => walk_it walk_list (fun j H5 => Same H3 H5 ∧ H5 D = some (.lst (List.replicate (cntN (os.take j)) V.non))) ⟨same_new hD, upd_same⟩ (fun _ H' _ p => (s03.trans p.1).seq qH) ?_ ?_⟩
      · rintro j x _ H5 hj ⟨s5, eD⟩ ⟨rfl, hx⟩
        refine ⟨rfl, ?_⟩
        obtain ⟨o, hos⟩ : ∃ o, os[j]? = some o := ⟨os[j], List.getElem?_eq_getElem (by omega)⟩
        obtain ⟨vj, evj, dvj⟩ := dpAll_at (i := j) (d := oD o) rH (by rw [List.getElem?_map, hos]; rfl)
        obtain rfl : vj = x := Option.some.inj (evj.symm.trans hx)
        have ec : cntN (os.take (j + 1)) = cntN (os.take j) + (if o.isNone = true then 1 else 0) := by
          unfold cntN
          rw [take_more hos, List.countP_append, List.countP_cons, List.countP_nil, Nat.zero_add]
        refine ⟨_, rfl, rfl, _, rfl, ?_⟩
        cases o with
        | none =>
          cases dvj
          refine go_t rfl ?_
          refine ⟨_, rfl, _, eD, ?_, same_of s5 hD, ?_⟩
          · rw [List.length_replicate, sizeLine_eq]
            have := List.countP_le_length (p := fun o : Option Nat => o.isNone) (l := os.take j)
            rw [List.length_take] at this
            show cntN (os.take j) < _
            unfold cntN
            omega
          · rw [upd_same, ec]
            show _ = some (HO.lst (List.replicate (cntN (os.take j) + 1) V.non))
            rw [List.replicate_succ']
        | some m =>
          cases dvj
          refine go_f rfl ?_
          refine ⟨s5, ?_⟩
          rw [ec, if_neg (by simp)]
          exact eD
      · rintro H5 ⟨s5, eD⟩
        rw [lH, List.take_length] at eD
        refine ⟨D, _, rfl, .inl (SqL.of eD), _, rfl, .inl ⟨L, _, rfl, SqL.of (s5 _ _ eL3), fun q hq => ⟨(by show 2 ≤ sizeLine; decide), fun t ht => ?_⟩⟩⟩
        have s7 := same_new (o := .tup (((gridN s n).filter (agree os)).map fun r => V.int ((as.getD (spotN s r) 0 : Nat) : Int))) hq
        have s8' := same_new (o := .tup [.int ((List.replicate (cntN os) V.non).length : Nat), .ref q]) ht
        refine k _ t (.ref q) (((s03.trans s5).trans s7).trans s8') (by rw [upd_same, List.length_replicate]) ?_
        have ef : (heldAns s as os).map nD = (((gridN s n).filter (agree os)).map fun r => as.getD (spotN s r) 0).map nD := by
          unfold heldAns
          rw [← grid_held hlt, lo]
        rw [ef]
        refine .tup (SqT.of (s8' _ _ upd_same)) ?_
        have := dpAll_mkn (K := K) (H := upd (upd H5 q (.tup (((gridN s n).filter (agree os)).map fun r => V.int ((as.getD (spotN s r) 0 : Nat) : Int)))) t (.tup [.int ((List.replicate (cntN os) V.non).length : Nat), .ref q])) (((gridN s n).filter (agree os)).map fun r => as.getD (spotN s r) 0)
        rw [List.map_map] at this
        exact this
end
end K01
/-! A comprehension whose tests and thing may use what its def knows when the block is entered. -/
namespace SQ
open PySem PySem.Spec PyProof.Rows L2
/-- the reading: the turns are told for each state in which the block may be entered -/
def tAt (X : Cx) (wi : TI) (g : TG) (tt : Shared → Hp → TT) (te : Shared → Hp → TE) (own : List Nat) : TE := fun σ H Q => wi σ H fun J Hi => ∀ D, Hi D = none → ∀ (sb : Shared) (pb : List (Addr × Obj)), Inv X pb σ (upd Hi D (.lst [])) sb →
  ∃ W : Nat → Nat → Hp → Prop, (∃ m, W 0 m (upd Hi D (.lst []))) ∧ ∀ i m Hc, W i m Hc → (J.stop i Hc ∧ Q (.ref D) Hc) ∨ (J.go i Hc ∧ ∃ Nx : Hp → Prop, (∀ H', Nx H' → ∃ m', m' < m ∧ W (i + 1) m' H') ∧
    ∀ x H', J.yld i Hc x H' → g x (wipe σ own) H' fun σ2 H2 => wipe σ2 own = wipe σ own ∧ tt sb (upd Hi D (.lst [])) σ2 H2 fun b H3 =>
      if b = true then te sb (upd Hi D (.lst [])) σ2 H3 fun y H4 => ∃ acc, H4 D = some (.lst acc) ∧ acc.length < sizeLine ∧ Nx (upd H4 D (.lst (acc ++ [y]))) else Nx H3)
section
variable {X : Cx}
/-- the block's own cells are free from the def's: all is there for the closure -/
theorem free_there {scope : Scope} {own : List (Str × Nat)} {pins : List (Addr × Obj)} {σ : L2.St} {H : Hp} {s : Shared} (I : Inv X pins σ H s) (ok : BlkOk X.N X.env.scope scope own) : ∀ y ∈ scope.names, y.2 = .free → ∃ c, X.env.cells.lookup y.1 = some c := by
  intro y hy e
  exact I.ok.has _ ((ok.free y hy e).imp id id)
theorem fp_still {Y : Cx} {fp : List Addr} {σ : L2.St} {H : Hp} {s : Shared} (I : Inv Y [] σ H s) (hx : Y.ex = fp) (hp : Y.pn = []) (hn : ∀ b ∈ fp, H b = none) : ∀ b ∈ fp, FpOk Y [] H b := by
  intro b hb
  have hb' : b ∈ Y.ex := by rw [hx]; exact hb
  refine ⟨hn b hb, (I.ok.exf b hb').1, I.ok.exfs b hb', .inl hb', fun x c e => (I.ok.exf b hb').2 x c e, fun p q => ?_⟩
  rw [hp] at q
  cases q
theorem pe_lcAt {elt tg iter : Expr} {ifs : List Expr} {scope : Scope} {own : List (Str × Nat)} {pos : Pos} {wi : TI} {g : TG} {tt : Shared → Hp → TT} {te : Shared → Hp → TE} (hc : X.calm = true) (hN : X.N.Nodup) (hi : PI X tg iter wi) (ok : BlkOk X.N X.env.scope scope own)
    (hb : ∀ (s : Shared) (H : Hp) (pins : List (Addr × Obj)) (σ : L2.St) (C : Addr) (cl : List (Str × Addr)) (fp : List Addr), Inv X pins σ H s → (∀ b ∈ fp, FpOk X pins H b) →
      PG (X.blk s H scope (compEnvC scope cl C X.env) fp) tg g ∧ PTs (X.blk s H scope (compEnvC scope cl C X.env) fp) ifs (tt s H) ∧ PE (X.blk s H scope (compEnvC scope cl C X.env) fp) elt (te s H))
    (hs : ∀ x, foldedSetIterable iter X.env x = pure x := by intro _; rfl) :
    PE X (.ListComp elt [⟨tg, iter, ifs, 0⟩] scope pos) (tAt X wi g tt te (own.map (·.2))) := by
  refine ⟨fun pins s σ H Q I h => ?_⟩
  rw [eval_ListComp]
  have fr := free_there I ok
  refine wpAny_comprehension_free (use := none) rfl hs (closure_ok fr) ok.kind (fun y hy e => by rw [ok.uniq y hy, e]) (thn (hi.run pins s σ H _ I h) fun _ _ hx => thn hx fun _ sI hI => ?_)
  obtain ⟨it, fp, tn, J, Hi, rfl, II, T, stI, fI, q⟩ := hI
  refine wpAny_newObj_type (newEnv_comp ?_) (by show 0 ≤ sizeLine; decide)
  have nD : Hi sI.heap.objs.size = none := II.hok.fresh (Nat.le_refl _)
  have IL : Inv X pins σ (upd Hi sI.heap.objs.size (.lst [])) { sI with heap := sI.heap.push { cls := .type "list", data := .seq ([] : List Value).toArray } } :=
    II.laid (t' := sI.toks) (fun _ _ e => Heap.get?_push_of_some _ e) (Nat.le_refl _) ⟨Nat.zero_le _, [], 0, .nil, Heap.get?_push_size _ rfl⟩
  obtain ⟨W, ⟨m0, w0⟩, turn⟩ := q _ nD _ _ IL
  have fL : ∀ b ∈ fp, FpOk X pins (upd Hi sI.heap.objs.size (.lst [])) b ∧ b < (sI.heap.push { cls := .type "list", data := .seq ([] : List Value).toArray }).objs.size := by
    intro b hbm
    obtain ⟨o, e, _⟩ := T.obj _ _ stI b hbm
    have lt := Heap.lt_size e
    exact ⟨⟨by rw [upd_ne (Nat.ne_of_lt lt)]; exact (fI b hbm).1, (fI b hbm).2⟩, by rw [Heap.size_push]; exact Nat.lt_succ_of_lt lt⟩
  have stL : tn 0 (sI.heap.push { cls := .type "list", data := .seq ([] : List Value).toArray }) := T.keep _ _ _ stI fun _ _ _ e => Heap.get?_push_of_some _ e
  generalize sI.heap.objs.size = D at *
  generalize hsb : ({ sI with heap := sI.heap.push { cls := .type "list", data := .seq ([] : List Value).toArray } } : Shared) = sb at *
  have eb : sb.heap = sI.heap.push { cls := .type "list", data := .seq ([] : List Value).toArray } := by rw [← hsb]
  rw [← eb] at fL stL
  generalize upd Hi D (.lst []) = Hb at *
  have IB := block_start IL ok hN fL
  obtain ⟨pg, pt, pe⟩ := hb sb Hb pins σ sb.heap.objs.size (cellsFrom (sb.heap.objs.size + 1) scope.names (cloFrom X.env.cells scope.names [])) fp IL fun b hbm => (fL b hbm).1
  have stB : tn 0 (pushCells (sb.heap.push { cls := .type "dict", data := .dict #[] }) scope.names) := T.keep _ _ _ stL fun _ _ _ e => pushCells_keeps _ _ _ _ (Heap.get?_push_of_some _ e)
  have nfp : ∀ b ∈ fp, Hb b = none := fun b hbm => (fL b hbm).1.1
  generalize hce : compEnvC scope (cellsFrom (sb.heap.objs.size + 1) scope.names (cloFrom X.env.cells scope.names [])) sb.heap.objs.size X.env = ce at IB pg pt pe
  have ceq : ce.locals = sb.heap.objs.size := by rw [← hce]; rfl
  show codeAny _ _ (.compStart (.ListComp elt [⟨tg, iter, ifs, 0⟩] scope pos) 0 (.ref it) (.ref D) (compEnvC scope (cellsFrom (sb.heap.objs.size + 1) scope.names (cloFrom X.env.cells scope.names [])) sb.heap.objs.size X.env)) (compPost (model X.prog X.w) X.A X.xe none (EP X pins σ Q) (.ref D) sb.heap.objs.size) { sb with heap := pushCells (sb.heap.push { cls := .type "dict", data := .dict #[] }) scope.names }
  rw [hce]
  suffices loop : codeAny (model X.prog X.w) X.A (.compLoop (.ListComp elt [⟨tg, iter, ifs, 0⟩] scope pos) 0 (.ref it) (.ref D) ce) (compPost (model X.prog X.w) X.A X.xe none (EP X pins σ Q) (.ref D) sb.heap.objs.size) { sb with heap := pushCells (sb.heap.push { cls := .type "dict", data := .dict #[] }) scope.names } from
    codeAny_compStart_list loop (T.self X.A 0 _ _ _ stB loop)
  refine compLoop_any (fun n s' => ∃ i H', tn i s'.heap ∧ W i n H' ∧ Inv (X.blk sb Hb scope ce fp) [] (wipe σ (own.map (·.2))) H' s' ∧ ∀ b ∈ fp, H' b = none) ?_ m0 ⟨0, Hb, stB, w0, IB, nfp⟩
  rintro n sT ⟨i, HT, stT, wT, IT, nT⟩
  have okT := fp_still IT rfl rfl nT
  rcases turn i n HT wT with ⟨stop, fin⟩ | ⟨go, Nx, less, step⟩
  · -- no turn is left: back in the def
    refine thnF (T.done (X.blk sb Hb scope ce fp) rfl rfl rfl hc i [] sT _ HT (fun _ _ => False) IT okT stT stop) ?_
    rintro _ sE ⟨rfl, IE⟩
    have back : Inv X pins σ HT sE := IL.call' (ch := fp) IE.os IE.base IE.hok IE.bare fun b hbm => by
      obtain ⟨_, l1, _, l3, l4, l5⟩ := (fL b hbm).1
      exact ⟨l3, l1, l4, l5⟩
    have nC : HT sb.heap.objs.size = none := by
      have z : HT ce.locals = none := IE.free
      rw [ceq] at z
      exact z
    obtain ⟨m, nsE, _⟩ := IE.loc
    have nsE : sE.heap.Ns ce.locals m := nsE
    rw [ceq] at nsE
    refine ⟨m, nsE, fun hZ same => ?_⟩
    obtain ⟨c0, c1, _, c3, c4, c5⟩ := IL.fpOk (H' := HT) (Nat.le_refl _) nC
    exact ⟨.ref D, HT, back.turned (t' := sE.toks) (fun b o nb e => (same.2 b nb).trans e) c0 c1 c3 c4 c5, rfl, fin⟩
  · -- one turn
    refine thnF (T.item (X.blk sb Hb scope ce fp) rfl rfl rfl hc i [] sT _ HT (fun _ _ => False) IT okT stT go) ?_
    rintro _ s1 ⟨u, rfl, h1⟩
    refine thnF h1 ?_
    rintro _ s2 ⟨x, H2, I2, r2, y2, st2, n2⟩
    have P2 := I2.pinned (fp_still I2 rfl rfl n2) (T.obj _ _ st2)
    refine thnF (pg.run _ s2 _ H2 x u _ P2 r2 (step x H2 y2)) ?_
    rintro _ s3 ⟨σ3, H3, I3, same, q3⟩
    have ends : ∀ {s' : Shared} {H' : Hp}, Nx H' → Inv (X.blk sb Hb scope ce fp) ([] ++ pinsAt fp s2.heap) σ3 H' s' → ∃ m, m < n ∧ ∃ i H', tn i s'.heap ∧ W i m H' ∧ Inv (X.blk sb Hb scope ce fp) [] (wipe σ (own.map (·.2))) H' s' ∧ ∀ b ∈ fp, H' b = none := by
      intro s' H' nx I'
      obtain ⟨m, lt, w'⟩ := less H' nx
      have held : ∀ b ∈ fp, ∀ o, s2.heap.get? b = some o → s'.heap.get? b = some o ∧ H' b = none := by
        intro b hbm o e
        obtain ⟨z1, z2, _⟩ := I'.pin (b, o) (List.mem_append_right _ (List.mem_append_right _ (mem_pinsAt hbm e)))
        exact ⟨z1, z2⟩
      refine ⟨m, lt, i + 1, H', T.keep _ _ _ st2 fun b hbm o e => (held b hbm o e).1, w', (I'.unpinned (pins := [])).weak ?_ fun j v e => ?_, fun b hbm => ?_⟩
      · rw [← same, wipe_length]
      · rw [← same] at e
        exact (wipe_some e).1
      · obtain ⟨o, e, _⟩ := T.obj _ _ st2 b hbm
        exact (held b hbm o e).2
    refine thnF (pt.run _ s3 σ3 H3 _ I3 q3) ?_
    rintro b s4 ⟨H4, I4, q4⟩
    cases b
    · exact ends (by simpa using q4) I4
    · refine thnF (pe.run _ s4 σ3 H4 _ I4 (by simpa using q4)) ?_
      rintro z s5 ⟨yv, H5, I5, r5, acc, eD, few, nx⟩
      exact app_ok (X := X.blk sb Hb scope ce fp) I5 eD few r5 fun s6 I6 => ends nx I6
end
end SQ
/-! A lambda as a value that is kept; its call by a def to which it is handed, from a block. -/
namespace SQ
open PySem PySem.Spec PyProof.Rows L2 LamX
/-- at f stands that lambda, its code object at c -/
def LamO (f c : Addr) (q : Str) (params : Arguments) (body : Expr) (scope : Scope) (clo : List (Str × Addr)) : HO := .ext fun h => ∃ pm ctv : Value, h.get? f = some (PySem.W.kla_obj "<lambda>" q params body scope clo pm c ctv)
theorem lamO_ok {P : Program} {w : World} {H : Hp} {h : Heap} {f c : Addr} {q : Str} {params : Arguments} {body : Expr} {scope : Scope} {clo : List (Str × Addr)} {pm ctv : Value} (e : h.get? f = some (PySem.W.kla_obj "<lambda>" q params body scope clo pm c ctv)) :
    ObjOk P w H h f (LamO f c q params body scope clo) :=
  ⟨⟨pm, ctv, e⟩, ⟨_, e⟩, fun h1 h2 ⟨pm', ctv', e'⟩ k => ⟨pm', ctv', k _ e'⟩⟩
/-- all but those -/
def forg (fs : List Addr) (H : Hp) : Hp := fun b => if b ∈ fs then none else H b
theorem forg_le {fs : List Addr} {H : Hp} : ∀ b o, forg fs H b = some o → H b = some o := fun b o e => by
  unfold forg at e
  by_cases h : b ∈ fs
  · rw [if_pos h] at e
    cases e
  · rw [if_neg h] at e
    exact e
theorem forg_of {fs : List Addr} {H : Hp} {b : Addr} {o : HO} (e : H b = some o) (n : b ∉ fs) : forg fs H b = some o := by
  unfold forg
  rw [if_neg n]
  exact e
theorem forg_not {fs : List Addr} {H : Hp} {b : Addr} {o : HO} (e : forg fs H b = some o) : b ∉ fs := fun h => by
  unfold forg at e
  rw [if_pos h] at e
  cases e
def tLamV (X : Cx) (T : List (Addr × Str)) (params : Arguments) (body : Expr) (scope : Scope) : TE := fun _ H Q => ∃ fs : List Addr, Tabs T (forg fs H) ∧ (∀ x ∈ fs, H x ≠ none) ∧ ∀ (f c : Addr) (H1 : Hp), ExtN H H1 → Tabs T (forg (f :: fs) H1) → H f = none → c ∉ f :: fs → H1 f = some (LamO f c (X.env.qual ++ "<lambda>") params body scope (cloFrom X.env.cells scope.names [])) →
  H1 c = some (CodeO c (X.env.qual ++ "<lambda>")) → Q (.ref f) H1
section
variable {X : Cx}
theorem pe_lamV {T : List (Addr × Str)} {c P : Addr} {params : Arguments} {body : Expr} {scope : Scope} {pos : Pos} (TB : TabB X.base X.mg c P) (hcode : X.env.code = .ref c) (hm : (P, X.env.qual ++ "<lambda>") ∈ T) (hu : ∀ p ∈ T, p.1 = P → p.2 = X.env.qual ++ "<lambda>")
    (hdef : defaultsOf params X.env = ([], [])) (L : LamS X.env.scope scope) : PE X (.Lambda params body scope pos) (tLamV X T params body scope) := by
  refine ⟨fun pins s σ H Q I h => ?_⟩
  obtain ⟨fs, hT, hfs, k⟩ := h
  obtain ⟨ps, eP', tri, named⟩ := hT _ hm
  have eP := forg_le _ _ eP'
  have nPfs := forg_not eP'
  have atP : s.heap.get? P = some { cls := .none, data := .fields ps } := I.hok P _ eP
  have free := L.has I.ok
  refine PySem.W.kla_eval hdef ?_
  cases hc : codeAmong pos ps.toList with
  | some cv =>
    obtain ⟨c', rfl, hco⟩ := named pos cv hc
    refine PySem.W.kla_makeFunctionHit (mg := X.mg) (c := c) (P := P) (ps := ps) (closure_ok free) I.ok.glob (I.mod.glob.keeps I.bk) hcode (TB.code.keeps I.bk) atP tri hc (TB.bm.keeps I.bk) fun ctv h' tk kept hsz => ?_
    have I1 : Inv X pins σ H { s with heap := h', toks := tk } := I.kept kept
    have hnew := I1.hok.fresh (Nat.le_refl h'.objs.size)
    have I2 := I1.laid (t' := tk) (a := h'.objs.size) (fun _ _ e => Heap.get?_push_of_some _ e) (Nat.le_refl _) (lamO_ok (P := X.prog) (w := X.w) (Heap.get?_push_size h' (o := PySem.W.kla_obj "<lambda>" (X.env.qual ++ "<lambda>") params body scope (cloFrom X.env.cells scope.names []) ((X.mg "__name__").getD .none) c' ctv) rfl))
    have keep : ∀ b o, H b = some o → upd H h'.objs.size (LamO h'.objs.size c' (X.env.qual ++ "<lambda>") params body scope (cloFrom X.env.cells scope.names [])) b = some o := fun b o e => by
      rw [upd_ne (ne_of_none e hnew)]
      exact e
    have nfs : ∀ b o, forg fs H b = some o → b ∉ h'.objs.size :: fs := fun b o e h => by
      rcases List.mem_cons.mp h with z | z
      · have := forg_le _ _ e
        rw [z, hnew] at this
        cases this
      · exact forg_not e z
    have keepF : ∀ b o, forg fs H b = some o → forg (h'.objs.size :: fs) (upd H h'.objs.size (LamO h'.objs.size c' (X.env.qual ++ "<lambda>") params body scope (cloFrom X.env.cells scope.names []))) b = some o := fun b o e => forg_of (keep b o (forg_le _ _ e)) (nfs b o e)
    exact ⟨.ref h'.objs.size, _, I2, rfl, k _ c' _ (ExtN.of keep) (hT.ext keepF) hnew (nfs _ _ hco) upd_same (keep _ _ (forg_le _ _ hco))⟩
  | none =>
    refine PySem.W.kla_makeFunction (mg := X.mg) (c := c) (P := P) (ps := ps) (closure_ok free) I.ok.glob (I.mod.glob.keeps I.bk) hcode (TB.code.keeps I.bk) atP tri hc TB.gP (TB.bm.keeps I.bk) fun c' ctv h' tk kept old lt rec_ tab => ?_
    obtain ⟨c2, oc, us, t, ec, atC, dat, nam⟩ := rec_
    cases ec
    have nC : H c' = none := I.hok.fresh old
    have I1 := inv_table (t' := tk) (more := #[rawInt pos.line, rawInt pos.col, .ref c']) I eP kept tab old ⟨oc, us, t, atC, dat, nam⟩
    have hnew := I1.hok.fresh (Nat.le_refl h'.objs.size)
    have I2 := I1.laid (t' := tk) (a := h'.objs.size) (fun _ _ e => Heap.get?_push_of_some _ e) (Nat.le_refl _) (lamO_ok (P := X.prog) (w := X.w) (Heap.get?_push_size h' (o := PySem.W.kla_obj "<lambda>" (X.env.qual ++ "<lambda>") params body scope (cloFrom X.env.cells scope.names []) ((X.mg "__name__").getD .none) c' ctv) rfl))
    have eT : upd (upd H P (.tbl (ps ++ #[rawInt pos.line, rawInt pos.col, .ref c']))) c' (CodeO c' (X.env.qual ++ "<lambda>")) P = some (.tbl (ps ++ #[rawInt pos.line, rawInt pos.col, .ref c'])) := by rw [upd_ne (ne_of_none eP nC), upd_same]
    have keepN : ExtN H (upd (upd H P (.tbl (ps ++ #[rawInt pos.line, rawInt pos.col, .ref c']))) c' (CodeO c' (X.env.qual ++ "<lambda>"))) := fun b o e n => by
      rw [upd_ne (ne_of_none e nC), upd_ne (fun z => n ps (by rw [z, eP] at e; exact (Option.some.inj e).symm))]
      exact e
    have keep2 : ∀ b o, upd (upd H P (.tbl (ps ++ #[rawInt pos.line, rawInt pos.col, .ref c']))) c' (CodeO c' (X.env.qual ++ "<lambda>")) b = some o →
        upd (upd (upd H P (.tbl (ps ++ #[rawInt pos.line, rawInt pos.col, .ref c']))) c' (CodeO c' (X.env.qual ++ "<lambda>"))) h'.objs.size (LamO h'.objs.size c' (X.env.qual ++ "<lambda>") params body scope (cloFrom X.env.cells scope.names [])) b = some o := fun b o e => by
      rw [upd_ne (ne_of_none e hnew)]
      exact e
    have hnH : H h'.objs.size = none := I.hok.fresh (Nat.le_trans old (Nat.le_of_lt lt))
    have ncf : c' ≠ h'.objs.size := ne_of_none (o := CodeO c' (X.env.qual ++ "<lambda>")) upd_same hnew
    have nfs : ∀ b o, forg fs H b = some o → b ∉ h'.objs.size :: fs := fun b o e h => by
      rcases List.mem_cons.mp h with z | z
      · have := forg_le _ _ e
        rw [z, hnH] at this
        cases this
      · exact forg_not e z
    have nCfs : c' ∉ h'.objs.size :: fs := fun h => by
      rcases List.mem_cons.mp h with z | z
      · exact ncf z
      · exact hfs _ z nC
    have old2 : ∀ b o, forg fs H b = some o → (∀ ps, o ≠ .tbl ps) → forg (h'.objs.size :: fs) (upd (upd (upd H P (.tbl (ps ++ #[rawInt pos.line, rawInt pos.col, .ref c']))) c' (CodeO c' (X.env.qual ++ "<lambda>"))) h'.objs.size (LamO h'.objs.size c' (X.env.qual ++ "<lambda>") params body scope (cloFrom X.env.cells scope.names []))) b = some o :=
      fun b o e n => forg_of (keep2 _ _ (keepN b o (forg_le _ _ e) n)) (nfs b o e)
    have tabs : Tabs T (forg (h'.objs.size :: fs) (upd (upd (upd H P (.tbl (ps ++ #[rawInt pos.line, rawInt pos.col, .ref c']))) c' (CodeO c' (X.env.qual ++ "<lambda>"))) h'.objs.size (LamO h'.objs.size c' (X.env.qual ++ "<lambda>") params body scope (cloFrom X.env.cells scope.names [])))) := by
      intro p hp
      by_cases e : p.1 = P
      · rw [hu p hp e, e]
        refine ⟨_, forg_of (keep2 _ _ eT) (nfs _ _ eP'), by rw [Array.toList_append]; exact PySem.TriplesOk_snoc _ _ _ _ tri, fun p' cv hcv => ?_⟩
        rw [Array.toList_append] at hcv
        rcases among_app _ tri hcv with z | z
        · obtain ⟨c0, e1, e2⟩ := named p' cv z
          exact ⟨c0, e1, old2 _ _ e2 codeO_ne⟩
        · exact ⟨c', z, forg_of (keep2 _ _ upd_same) nCfs⟩
      · obtain ⟨ps', a1, a2, a3⟩ := hT p hp
        have a1' := forg_le _ _ a1
        refine ⟨ps', forg_of (keep2 _ _ (by rw [upd_ne (ne_of_none a1' nC), upd_ne e]; exact a1')) (nfs _ _ a1), a2, fun p' cv hcv => ?_⟩
        obtain ⟨c0, e1, e2⟩ := a3 p' cv hcv
        exact ⟨c0, e1, old2 _ _ e2 codeO_ne⟩
    exact ⟨.ref h'.objs.size, _, I2, rfl, k _ c' _ (keepN.trans (ExtN.of keep2)) tabs hnH nCfs upd_same (keep2 _ _ upd_same)⟩
end
end SQ
/-! A kept lambda is handed to a def, from a block. -/
namespace SQ
open PySem PySem.Spec PyProof.Rows L2 LamX
def offA (H : Hp) (a : Addr) : Hp := fun b => if b = a then none else H b
theorem offA_at {H : Hp} {a : Addr} : offA H a a = none := if_pos rfl
theorem offA_of {H : Hp} {a b : Addr} (n : b ≠ a) : offA H a b = H b := if_neg n
theorem offA_none {H : Hp} {a b : Addr} (n : H b = none) : offA H a b = none := by
  by_cases e : b = a
  · rw [e]
    exact offA_at
  · rw [offA_of e]
    exact n
/-- what is only remembered may be forgotten -/
theorem forget {X : Cx} {pins : List (Addr × Obj)} {σ : L2.St} {H : Hp} {s : Shared} {f : Addr} {φ : Heap → Prop} (I : Inv X pins σ H s) (e : H f = some (.ext φ)) : Inv X pins σ (offA H f) s := by
  have ne : ∀ b u, H b = some u → (∀ φ, u ≠ .ext φ) → b ≠ f := fun b u h n z => by
    rw [z, e] at h
    exact n _ (Option.some.inj h).symm
  have stay : ∀ b u, H b = some u → (∀ φ, u ≠ .ext φ) → offA H f b = some u := fun b u h n => by
    rw [offA_of (ne b u h n)]
    exact h
  refine ⟨I.ok, I.os, I.bare, ⟨I.base.keep, I.base.slot, fun b o h n x => offA_none (I.base.free b o h n x), I.base.there, fun b xs h => stay b _ (I.base.tups b xs h) (fun _ z => nomatch z), fun b o u h => stay b _ (I.base.frzs b o u h) (fun _ z => nomatch z), fun b ps h => ?_⟩,
    I.loc, I.cell, offA_none I.free, fun x c h => offA_none (I.freeC x c h), fun p hp => ?_, fun b o h => ?_, I.len⟩
  · obtain ⟨more, z⟩ := I.base.tbls b ps h
    exact ⟨more, stay b _ z (fun _ q => nomatch q)⟩
  · obtain ⟨h1, h2, h3⟩ := I.pin p hp
    exact ⟨h1, offA_none h2, h3⟩
  · have nb : b ≠ f := fun z => by
      rw [z, offA_at] at h
      cases h
    rw [offA_of nb] at h
    exact (I.hok b o h).stay (fun _ _ _ q => q) (fun c q => stay c _ q (fun _ z => nomatch z)) fun c xs q => stay c _ q (fun _ z => nomatch z)
/-- the kept lambda's body may be read in the maker's frame -/
structure Body (X : Cx) (k : Nat) (params : Arguments) (body : Expr) (scope : Scope) (t : XK → TE) : Prop where
  L : LamS X.env.scope scope
  bind : ∀ (q : Str) (cl : List (Str × Addr)) (pm cv ctv : Value), bindArgs (PySem.W.kla_fn "<lambda>" q params body scope cl pm cv ctv) ⟨[], []⟩ = pure []
  read : ∀ (A : Around) (outer : List Env) (s : Shared) (H : Hp) (E : XK) (f c' : Addr), Room k (A.deeper (lamEnv X scope s.heap.objs.size f c')) → PE (lamCx X A outer s H E scope f c') body (t E)
/-- x(y), y one of X's kept lambdas; TT: what x makes of its reading -/
def tKept (X : Cx) (k : Nat) (TT : (XK → Hp → VK → Prop) → Hp → VK → Prop) (i : Nat) (sb : Shared) (Hb : Hp) : TE := fun σb H Q => ∃ (σ : L2.St) (f c : Addr) (params : Arguments) (body : Expr) (scope : Scope) (t : XK → TE), Inv X [] σ Hb sb ∧ Body X k params body scope t ∧ σb[i]? = some (some (.ref f)) ∧
  H f = some (LamO f c (X.env.qual ++ "<lambda>") params body scope (cloFrom X.env.cells scope.names [])) ∧ H c = some (CodeO c (X.env.qual ++ "<lambda>")) ∧ c ≠ f ∧ TT (fun E H' Q' => t E σ H' Q') (offA H f) Q
section
variable {X : Cx}
theorem pe_kept {TT : (XK → Hp → VK → Prop) → Hp → VK → Prop} {x a y : Str} {g : Addr} {k i : Nat} {pg : Arguments} {bg : List Stmt} {sg : Scope} {dV kV doc pm cdv ct oc : Value} {an od : Option Addr} {osl : Array (Option Value)} {Ng : List Str} {sb : Shared} {Hb : Hp} {scope : Scope} {ce : Env} {fp : List Addr}
    {pins : List (Addr × Obj)} {p p1 pos : Pos} (hfp : ∀ b ∈ fp, FpOk X pins Hb b) (hg : Gl (X.blk sb Hb scope ce fp) x) (hm : X.mg x = some (.ref g)) (hk : PySem.W.keepIn X.K (.ref g) = true)
    (lk : X.K.lookup g = some ⟨oc, od, .func (PySem.W.fnOf x x pg bg sg dV kV doc pm an cdv ct), osl⟩) (hcg : PySem.W.codeIn X.K cdv x = true) (hbd : L2.Binds X.K (PySem.W.fnOf x x pg bg sg dV kV doc pm an cdv ct) [a] []) (Sg : FnScope Ng [a] sg) (hNg : Ng[0]? = some a) (hva : Vis sg a)
    (hG : GivesTo X Ng x sg g cdv bg a (X.env.qual ++ "<lambda>") TT) (hr : Room (k + 2) X.A) (hy : PE (X.blk sb Hb scope ce fp) (.Name y p1) (tVar i)) (hna : starEach [.Name y p1] (X.blk sb Hb scope ce fp).env = (false, eval (.Name y p1) (X.blk sb Hb scope ce fp).env) :: starEach [] (X.blk sb Hb scope ce fp).env := by rfl)
    (hdb : (x == ("__debug__" : Str)) = false := by decide) (hd : (a == ("__debug__" : Str)) = false := by decide) (hcd : (a == ("__classdict__" : Str)) = false := by decide) :
    PE (X.blk sb Hb scope ce fp) (.Call (.Name x p) [.Name y p1] [] pos) (tKept X k TT i sb Hb) := by
  refine ⟨fun pb s σb H Q I h => ?_⟩
  obtain ⟨σ, f, c, params, body, sl, t, I0, B, hi, hf, hc, ncf, ht⟩ := h
  refine wpAny_Call_Name_kw (ld_glob I hg hm ?_ hdb)
  refine PySem.W.callWith_K (h₀ := X.base) I.ok.mod.kin hk ?_ hna (by rfl)
  rw [hna]
  refine Calls.spliced_cons (thn (hy.run pb _ σb H (fun v H1 => v = .ref f ∧ H1 = H) I ⟨.ref f, hi, rfl, rfl⟩) ?_)
  rintro u s1 ⟨v, H1, I1, r1, rfl, rfl⟩
  obtain rfl : u = Value.ref f := r1
  refine Calls.spliced_nil ⟨I1.kIn, ?_⟩
  have J1 := forget I1 hf
  have IX : Inv X [] σ H1 s1 := I0.call' (ch := fp) I1.os I1.base I1.hok I1.bare fun b hbm => by
    obtain ⟨_, l1, _, l3, l4, l5⟩ := hfp b hbm
    exact ⟨l3, l1, l4, fun q hq => l5 q (by
      rw [List.append_nil] at hq
      exact List.mem_append_left _ hq)⟩
  have IF := forget IX hf
  obtain ⟨⟨pm', ctv, atf⟩, _, _⟩ := I1.hok f _ hf
  have nfr : f ∉ frs X.stack := fun z => by
    have := IX.stkFree f z
    rw [hf] at this
    cases this
  have hc' : offA H1 f c = some (CodeO c (X.env.qual ++ "<lambda>")) := by rw [offA_of ncf]; exact hc
  have rc : codeAny (model X.prog X.w) X.A (.call (.ref g) ⟨[.ref f], []⟩) (CR C8.CX0 X.stack X.prog X.w (offA H1 f) s1 Q C8.E0) s1 := by
    refine run_ofS (N := Ng) (ps := [a]) (us := [.ref f]) (vs := [.ref f]) lk hcg Sg hr IF.env0 (hbd s1 [.ref f] I1.kIn rfl) (.cons rfl .nil) rfl fun hr' => ?_
    obtain ⟨t', ht', hq'⟩ := hG f c s1 (offA H1 f) Q (fun E H' Q' => t E σ H' Q') (fun W pn xe E p1 p2 tk hW => pe_act (i := 0) IF B.L atf offA_at nfr (B.bind _ _ _ _ _) tk hW hr' (fun A outer s H hr2 => B.read A outer s H E f c hr2) hNg hva hd hcd) hc' ht
    exact ⟨t', ht'.nox, hq'⟩
  refine wpAny_call (codeAny_mono rc fun r s2 hq => ?_)
  cases r with
  | error e => exact (show False from hq).elim
  | ok fl =>
    cases fl with
    | ret u => exact J1.after hq
    | next => exact False.elim hq
    | brk => exact False.elim hq
    | cont => exact False.elim hq
end
end SQ
/-! what a work is refused with. -/
namespace K01
open PySem L2 FX SQ LamX
abbrev sErr : Stmt := top 36
/-- the error of a class is caught and told -/
def Hit (C : Addr) (fl : Str) (wd : Str) (Q : VK) (cls : Value) (d : Option Addr) (H : Hp) : Prop := cls = .ref C ∧ ∃ dd v, d = some dd ∧ H dd = some (.xd [(fl, v)]) ∧ ∀ t, H t = none → Q (.ref t) (upd H t (.tup [.str wd, v]))
def ErrW (cB cO cV cS : Addr) (Q : VK) : XK := fun cls d H => Hit cB "at" "book" Q cls d H ∨ Hit cO "at" "operation" Q cls d H ∨ Hit cV "at" "values" Q cls d H ∨ Hit cS "word" "size" Q cls d H
def TTerr (cB cO cV cS : Addr) : (XK → Hp → VK → Prop) → Hp → VK → Prop := fun tl H Q => tl (ErrW cB cO cV cS Q) H (fun _ H' => Q .non H')
def suErr (C : Addr) (fl wd : Str) : Su := fun a cls d => tRet (tTup (tCons (tC (.str wd)) (tCons (tFld C fl a cls d (tVar 1)) tNil)))
theorem suErr_ok {C : Addr} {fl wd : Str} {Q : VK} {d : Option Addr} {H : Hp} {a : Addr} {D : Ends} {σ : L2.St} (h : Hit C fl wd Q (.ref C) d H) (hrt : D.rt = Q) (hs : σ[1]? = some (some (.ref a))) : suErr C fl wd a (.ref C) d D σ H := by
  obtain ⟨_, dd, v, rfl, ed, k⟩ := h
  refine ⟨_, hs, rfl, rfl, dd, v, rfl, ed, (by show 2 ≤ sizeLine; decide), fun t ht => ?_⟩
  rw [hrt]
  exact k t ht
abbrev NErr : List Str := ["work", "e"]
theorem scErr : FnScope NErr ["work"] (defScope sErr) := ⟨rfl, rfl, rfl, by decide +kernel, rfl, by decide +kernel, by decide +kernel⟩
section
variable {K : PySem.W.Frag} {mg : Str → Option Value} {B cB iB cO iO cV iV cS iS : Addr}
theorem err_gives {X : Cx} {g : Addr} {cdg : Value} {q : Str} (T : Ers X.K X.mg B cB iB cO iO cV iV cS iS) : GivesTo X NErr "_law_error" (defScope sErr) g cdg (defBody sErr) "work" q (TTerr cB cO cV cS) := by
  intro f c' s H Q tl act hc h
  refine ⟨_, pss_cons (ps_tryCl (X := (cxOf C8.CX0 X.prog X.w X.K X.mg X.base NErr "_law_error" (defScope sErr) g cdg X.A X.stack s H C8.E0).nox) (Wout := fun _ _ _ _ => False)
      (l := [(.ref cB, some 1, suErr cB "at" "book"), (.ref cO, some 1, suErr cO "at" "operation"), (.ref cV, some 1, suErr cV "at" "values"), (.ref cS, some 1, suErr cS "word" "size")])
      (tb := fun W D σ H => ∃ Ech : XK, (∀ cls d σ' H', Ech cls d H' → σ'.length = 2 → W cls d σ' H') ∧ σ[0]? = some (some (.ref f)) ∧ H c' = some (CodeO c' q) ∧ tl Ech H (fun _ H' => D.nx σ H'))
      rfl rfl scErr.nd LamX.takes0 (fun W pn xe tk _ => ?_)
      (by exact (Cl.named (i := 1) rfl rfl ⟨rfl, by decide, Or.inl T.b.T.gC⟩ (fun a oe cls d pn hz hf => pss_one (ps_ret (pe_tup (by exact (pa_cons pe_str (pa_cons (pe_errfield T.b.T T.b.U hz hf (pv 1)) pa_nil))))))
        (Cl.named (i := 1) rfl rfl ⟨rfl, by decide, Or.inl T.o.T.gC⟩ (fun a oe cls d pn hz hf => pss_one (ps_ret (pe_tup (by exact (pa_cons pe_str (pa_cons (pe_errfield T.o.T T.o.U hz hf (pv 1)) pa_nil))))))
        (Cl.named (i := 1) rfl rfl ⟨rfl, by decide, Or.inl T.v.T.gC⟩ (fun a oe cls d pn hz hf => pss_one (ps_ret (pe_tup (by exact (pa_cons pe_str (pa_cons (pe_errfield T.v.T T.v.U hz hf (pv 1)) pa_nil))))))
        (Cl.named (i := 1) rfl rfl ⟨rfl, by decide, Or.inl T.s.T.gC⟩ (fun a oe cls d pn hz hf => pss_one (ps_ret (pe_tup (by exact (pa_cons pe_str (pa_cons (pe_errfield T.s.T T.s.U hz hf (pv 1)) pa_nil))))))
        Cl.nil))))))
      (pss_one (ps_ret pe_non)), ?_⟩
  · refine ⟨fun pins s' σ H' D I h' => ?_⟩
    obtain ⟨Ech, hW, h1, h2, h3⟩ := h'
    have tk' : Takes ((cxOf C8.CX0 X.prog X.w X.K X.mg X.base NErr "_law_error" (defScope sErr) g cdg X.A X.stack s H C8.E0).tr pn xe) (fun cls d σ' H' => σ'.length = 2 → W cls d σ' H') := fun e s'' x => by
      obtain ⟨a, B, sI, pins', σ', H'', cls, d, e1, J, r1, r2, r3, r4, r5, r6, w⟩ := x
      exact tk e s'' ⟨a, B, sI, pins', σ', H'', cls, d, e1, J, r1, r2, r3, r4, r5, r6, w J.len⟩
    have hp := fun p1 p2 => act (fun cls d σ' H' => σ'.length = 2 → W cls d σ' H') pn xe Ech p1 p2 tk' hW
    exact (pss_one (ps_expr (hp _ _))).run pins s' σ H' D I ⟨h1, h2, h3⟩
  · refine ⟨ErrW cB cO cV cS Q, fun cls d σ' H' he hl => ?_, rfl, hc, h⟩
    have s1 : ∀ a : Addr, (σ'.set 1 (some (.ref a)))[1]? = some (some (V.ref a)) := fun a => by rw [List.getElem?_set_self (by omega)]
    have no : ∀ {x y : Str} {C C' : Addr}, ErrTxt X.K X.mg B x C → ErrTxt X.K X.mg B y C' → x ≠ y → y ≠ "FoldError" → PySem.W.exmOne X.K (.ref C) (.ref C') = some false := fun a b n nb => a.other T.S b n nb
    rcases he with he | he | he | he
    all_goals (obtain rfl := he.1)
    · exact ⟨true, T.b.T.own, fun _ a _ => suErr_ok he rfl (s1 a), fun z => nomatch z⟩
    · exact ⟨false, no T.o.T T.b.T (by decide) (by decide), fun z => (nomatch z), fun _ => ⟨true, T.o.T.own, fun _ a _ => suErr_ok he rfl (s1 a), fun z => nomatch z⟩⟩
    · exact ⟨false, no T.v.T T.b.T (by decide) (by decide), fun z => (nomatch z), fun _ => ⟨false, no T.v.T T.o.T (by decide) (by decide), fun z => (nomatch z), fun _ => ⟨true, T.v.T.own, fun _ a _ => suErr_ok he rfl (s1 a), fun z => nomatch z⟩⟩⟩
    · exact ⟨false, no T.s.T T.b.T (by decide) (by decide), fun z => (nomatch z), fun _ => ⟨false, no T.s.T T.o.T (by decide) (by decide), fun z => (nomatch z), fun _ => ⟨false, no T.s.T T.v.T (by decide) (by decide), fun z => (nomatch z), fun _ => ⟨true, T.s.T.own, fun _ a _ => suErr_ok he rfl (s1 a), fun z => nomatch z⟩⟩⟩⟩
end
end K01
/-! A call whose arguments all have names. -/
namespace SQ
open PySem PySem.Spec PyProof.Rows L2
def tCallK0 (sp : Sp) (gV : List V → List V → List V) (E : XK) (tk : TA) : TE := fun σ H Q => tk σ H fun zs H2 => sp (gV [] zs) H2 Q E
variable {X : Cx} {CX : CXT} {k : Nat} {f : Addr} {fd : FuncData} {ps ks : List Str} {sp : Sp} {E : XK} {x : Str} {p pos : Pos} {g : List Value → List Value → List Value} {gV : List V → List V → List V} {kws : List Keyword} {tk : TA}
theorem pe_callK0 (F : FnOk X.prog X.w X.K X.mg X.base CX k f fd ps sp) (hr : Room k X.A) (hg : Gl X x) (hm : X.mg x = some (.ref f)) (hk : PySem.W.keepIn X.K (.ref f) = true) (hb : KBinds X.K fd ps ks g gV) (hx : Passes CX X E) (hkw : PK X kws tk)
    (hall : (backToKw pos (keywordEach kws X.env)).all (·.1.isSome) = true := by rfl) (hks : (backToKw pos (keywordEach kws X.env)).filterMap (·.1) = ks := by rfl) (hdb : (x == ("__debug__" : Str)) = false := by decide)
    (hpl : ((backTo pos (starEach [] X.env)).any (·.1) || (backToKw pos (keywordEach kws X.env)).any (·.1.isNone)) = false := by rfl) : PE X (.Call (.Name x p) [] kws pos) (tCallK0 sp gV E tk) := by
  refine ⟨fun pins s σ H Q I h => ?_⟩
  refine wpAny_Call_Name_kw (ld_glob I hg hm ?_ hdb)
  refine PySem.W.callWith_KW0 (h₀ := X.base) I.ok.mod.kin hk hall (thn (hkw.run pos pins s σ H _ I h) ?_) hpl
  rintro ws s2 ⟨zs, H2, I2, rz, q2⟩
  refine ⟨I2.kIn, ?_⟩
  rw [hks]
  exact run_fnk F hr hb hx I2 .nil rz q2
/-- nothing is raised -/
theorem pass_never {P : Program} {w : World} (h1 : X.prog = P) (h2 : X.w = w) : Passes (L2.CX P w) X (fun _ _ _ => False) := by
  subst h1 h2
  exact passes_call LamX.takes0 (fun _ _ _ _ z => z)
end SQ
namespace K01
open PySem L2 FX SQ LamX
section
variable {K : PySem.W.Frag}
/-- (held, operation, size) by their names -/
def perm3 {α : Type} : List α → List α → List α := fun us ws => match us, ws with
  | [], [h, o, s] => [s, o, h]
  | _, _ => []
theorem kb_HT {f : Addr} {fd : FuncData} (F : Fun K "held_table" "held_table" sHT f fd) : KBinds K fd ["size", "operation", "held"] ["held", "operation", "size"] perm3 perm3 := by
  obtain ⟨oc, od, kV, doc, pm, an, cdv, ct, osl, rfl, _, _⟩ := F.ex
  refine ⟨fun s us ws _ hl => ?_, fun r rz => ?_⟩
  · match us, ws, hl with
    | [], [h, o, z], _ => exact BindsTo.of_eq (by rfl)
  · cases r with
    | cons a b => exact .nil
    | nil => cases rz with
      | nil => exact .nil
      | cons a rz => cases rz with
        | nil => exact .nil
        | cons b rz => cases rz with
          | nil => exact .nil
          | cons c rz => cases rz with
            | nil => exact .cons c (.cons b (.cons a .nil))
            | cons d rz => exact .nil
end
end K01
/-! How many unlike ones a tuple of ints has; what None and an int are written as. -/
namespace SQ
open PySem PySem.Spec PyProof.Rows L2
theorem one_iff {ns : List Int} {ks : List Int} (nd : ks.Nodup) (he : ∀ k, k ∈ ns ↔ k ∈ ks) (ne : ns ≠ []) : ks.length = 1 ↔ ∀ y ∈ ns, y = ns.headD 0 := by
  cases ns with
  | nil => exact absurd rfl ne
  | cons a r =>
    constructor
    · intro h y hy
      match ks, h with
      | [k], _ =>
        have h1 := (he y).mp hy
        have h2 := (he a).mp (List.mem_cons_self ..)
        rw [List.mem_singleton] at h1 h2
        rw [h1]
        exact h2.symm
    · intro h
      match ks, nd, he with
      | [], _, he => exact absurd ((he a).mp (List.mem_cons_self ..)) (by simp)
      | [k], _, _ => rfl
      | k :: k2 :: t, nd, he =>
        have e1 := h k ((he k).mpr (List.mem_cons_self ..))
        have e2 := h k2 ((he k2).mpr (List.mem_cons_of_mem _ (List.mem_cons_self ..)))
        rw [List.nodup_cons] at nd
        exact absurd (by rw [e1, e2]; exact List.mem_cons_self ..) nd.1
def tLenSetT (K : PySem.W.Frag) (ta : TE) : TE := fun σ H Q => ta σ H fun x H1 => ∃ (l : Addr) (ns : List Int), x = .ref l ∧ SqT K H1 l (ns.map V.int) ∧ ns.length ≤ 4000 ∧ ∀ m : Nat, (ns ≠ [] → (m = 1 ↔ ∀ y ∈ ns, y = ns.headD 0)) → Q (.int (m : Nat)) H1
theorem pe_lenSetT {X : Cx} {a : Expr} {ta : TE} {p p2 q pos : Pos} (hg : Gl X "len") (hm : X.mg "len" = none) (hg2 : Gl X "set") (hm2 : X.mg "set" = none) (ha : PE X a ta) (hc : X.calm = true := by rfl)
    (na : starEach [a] X.env = (false, eval a X.env) :: starEach [] X.env := by rfl) : PE X (.Call (.Name "len" p) [.Call (.Name "set" p2) [a] [] q] [] pos) (tLenSetT X.K ta) := by
  refine ⟨fun pins s σ H Q I h => Call_ (ld_blt I hg hm boot_len (PyProof.Rows.callWith_builtin1 (PyProof.Rows.args_cons ?_ rfl) rfl rfl))⟩
  refine Call_ (ld_blt I hg2 hm2 boot_set (PyProof.Rows.callWith_type1 (PyProof.Rows.args_cons (thn (ha.run pins s σ H _ I h) ?_) na) na rfl))
  rintro v s1 ⟨x, H1, I1, r1, l, ns, rfl, hq, few, k⟩
  refine PyProof.Rows.args_nil ?_
  obtain rfl : v = Value.ref l := r1
  obtain ⟨its, r, pl, hz⟩ := I1.tuple hq
  refine call_set_tupI ns (I1.ok.hd hc) pl (by simpa using ints_of_vals r) (by unfold scanBound; omega) ?_
  intro h' tk c R hc' hk
  refine PyProof.Rows.args_nil ?_
  obtain ⟨o, es, ep, t, ho, hex, hd, _, nd, mem, _, hf, hn, _⟩ := R
  have I2 : Inv X pins σ H1 { s1 with heap := h', toks := tk } := I1.kept hk
  refine call_len_set ho hex hd hf (by omega) ⟨.int es.size, H1, I2.tok _, ⟨_, rfl⟩, k es.size fun ne => ?_⟩
  have := one_iff (ns := ns) (ks := es.toList.map keyOf) nd (fun k => by
    rw [← mem k]
    simp) ne
  rw [List.length_map, Array.length_toList] at this
  exact this
/-- what None, an int are written as -/
def reprV : V → Option Str
  | .non => some "None"
  | .int i => some (toString i)
  | _ => none
def rRepr : List V → Hp → VK → Prop := fun vs H Q => (vs = [.non] ∧ Q (.str "None") H) ∨ ∃ i : Int, vs = [.int i] ∧ i.natAbs.log2 < 1920 ∧ Q (.str (toString i)) H
theorem cr_repr {X : Cx} : CallR X (.builtin "repr") rRepr := by
  intro pins s σ H vs us Q I r h
  rcases h with ⟨rfl, q⟩ | h
  · obtain ⟨u, rfl, ru⟩ := vals1 r
    obtain rfl : u = Value.none := ru
    exact PySem.P.repr_of_none ⟨.str _, H, I.tok _, ⟨_, rfl⟩, q⟩
  · obtain ⟨i, rfl, hz, q⟩ := h
    obtain ⟨u, rfl, t, rfl⟩ := vals1 r
    exact PySem.P.repr_of_int hz ⟨.str _, H, I.tok _, ⟨_, rfl⟩, q⟩
end SQ
/-! what is held bit by bit is held at once. -/
namespace K01
open PySem L2 FX SQ LamX
theorem foldl_step (cs : List (List Nat)) : ∀ A : List (List Nat), cs.foldl stepN A = A.flatMap fun r => (rowsN cs).map fun q => r ++ q := by
  induction cs with
  | nil =>
    intro A
    show A = A.flatMap fun r => [r ++ []]
    simp
  | cons c cs ih =>
    intro A
    have e1 : rowsN (c :: cs) = c.flatMap fun x => (rowsN cs).map fun q => x :: q := by
      show cs.foldl stepN (stepN [[]] c) = _
      rw [ih]
      unfold stepN
      simp [List.flatMap_map]
    rw [List.foldl_cons, ih, e1]
    unfold stepN
    rw [List.flatMap_assoc]
    congr 1
    funext r
    rw [List.flatMap_map, List.map_flatMap]
    congr 1
    funext x
    rw [List.map_map]
    congr 1
    funext q
    simp
theorem rowsN_cons (c : List Nat) (cs : List (List Nat)) : rowsN (c :: cs) = c.flatMap fun x => (rowsN cs).map fun q => x :: q := by
  show cs.foldl stepN (stepN [[]] c) = _
  rw [foldl_step]
  unfold stepN
  simp [List.flatMap_map]
def fill : List (Option Nat) → List Nat → List Nat
  | [], _ => []
  | none :: os, q => q.headD 0 :: fill os q.tail
  | some m :: os, q => m :: fill os q
theorem rows_fill (s : Nat) : ∀ os : List (Option Nat), rowsN (os.map (choiceN s)) = (gridN s (cntN os)).map (fill os)
  | [] => rfl
  | none :: os => by
    have ih := rows_fill s os
    have e : cntN (none :: os) = cntN os + 1 := by
      unfold cntN
      rw [List.countP_cons]
      rfl
    rw [List.map_cons, rowsN_cons, ih, e]
    show _ = (rowsN (List.replicate (cntN os + 1) (List.range s))).map _
    rw [List.replicate_succ, rowsN_cons, List.map_flatMap]
    congr 1
    funext x
    rw [List.map_map, List.map_map]
    rfl
  | some m :: os => by
    have ih := rows_fill s os
    have e : cntN (some m :: os) = cntN os := by
      unfold cntN
      rw [List.countP_cons]
      rfl
    rw [List.map_cons, rowsN_cons, ih, e]
    show ([m].flatMap _) = _
    simp [List.map_map]
    intro a _
    rfl
/-- what is further held at the places left -/
def restO : List (Option Nat) → List (Option Nat) → List (Option Nat)
  | none :: os, f :: fs => f :: restO os fs
  | some _ :: os, _ :: fs => restO os fs
  | _, _ => []
/-- fs holds what os holds -/
def Further : List (Option Nat) → List (Option Nat) → Prop
  | [], [] => True
  | none :: os, _ :: fs => Further os fs
  | some m :: os, f :: fs => f = some m ∧ Further os fs
  | _, _ => False
theorem rest_rows (s : Nat) : ∀ os fs : List (Option Nat), Further os fs → (rowsN ((restO os fs).map (choiceN s))).map (fill os) = rowsN (fs.map (choiceN s))
  | [], [], _ => rfl
  | none :: os, f :: fs, h => by
    have ih := rest_rows s os fs h
    show (rowsN (choiceN s f :: (restO os fs).map (choiceN s))).map (fill (none :: os)) = _
    rw [rowsN_cons, List.map_flatMap, List.map_cons, rowsN_cons, ← ih]
    congr 1
    funext x
    rw [List.map_map, List.map_map]
    rfl
  | some m :: os, f :: fs, h => by
    obtain ⟨rfl, h⟩ := h
    have ih := rest_rows s os fs h
    show (rowsN ((restO os fs).map (choiceN s))).map (fill (some m :: os)) = _
    rw [List.map_cons, rowsN_cons, ← ih]
    show _ = [m].flatMap _
    simp [List.map_map]
    intro a _
    rfl
  | [], _ :: _, h => h.elim
  | none :: _, [], h => h.elim
  | some _ :: _, [], h => h.elim
theorem rest_len : ∀ os fs : List (Option Nat), Further os fs → (restO os fs).length = cntN os ∧ cntN (restO os fs) = cntN fs ∧ os.length = fs.length
  | [], [], _ => ⟨rfl, rfl, rfl⟩
  | none :: os, f :: fs, h => by
    obtain ⟨h1, h2, h3⟩ := rest_len os fs h
    refine ⟨?_, ?_, by rw [List.length_cons, List.length_cons, h3]⟩
    · show (restO os fs).length + 1 = _
      rw [h1]
      unfold cntN
      rw [List.countP_cons]
      rfl
    · show cntN (f :: restO os fs) = _
      unfold cntN at h2 ⊢
      rw [List.countP_cons, List.countP_cons, h2]
  | some m :: os, f :: fs, h => by
    obtain ⟨rfl, h⟩ := h
    obtain ⟨h1, h2, h3⟩ := rest_len os fs h
    refine ⟨?_, ?_, by rw [List.length_cons, List.length_cons, h3]⟩
    · show (restO os fs).length = _
      rw [h1]
      unfold cntN
      rw [List.countP_cons]
      rfl
    · show cntN (restO os fs) = _
      rw [h2]
      unfold cntN
      rw [List.countP_cons]
      rfl
  | [], _ :: _, h => h.elim
  | none :: _, [], h => h.elim
  | some _ :: _, [], h => h.elim
theorem rest_mem : ∀ os fs : List (Option Nat), ∀ o ∈ restO os fs, o ∈ fs
  | none :: os, f :: fs, o, h => by
    rcases List.mem_cons.mp h with h | h
    · rw [h]
      exact List.mem_cons_self ..
    · exact List.mem_cons_of_mem _ (rest_mem os fs o h)
  | some _ :: os, _ :: fs, o, h => List.mem_cons_of_mem _ (rest_mem os fs o h)
  | [], _, o, h => nomatch h
  | none :: _, [], o, h => nomatch h
  | some _ :: _, [], o, h => nomatch h
theorem heldAns_len {s : Nat} (as : List Nat) (os : List (Option Nat)) : (heldAns s as os).length = s ^ cntN os := by
  unfold heldAns
  rw [List.length_map, rows_fill, List.length_map, gridN_len]
theorem heldAns_lt {s : Nat} (hs : 1 ≤ s) {as : List Nat} (h : ∀ a ∈ as, a < s) (os : List (Option Nat)) : ∀ a ∈ heldAns s as os, a < s := by
  intro a ha
  unfold heldAns at ha
  obtain ⟨r, _, rfl⟩ := List.mem_map.mp ha
  rw [List.getD_eq_getElem?_getD]
  cases e : as[spotN s r]? with
  | none =>
    show 0 < s
    omega
  | some x => exact h x (List.mem_of_getElem? e)
theorem held_twice {s : Nat} (as : List Nat) {os fs : List (Option Nat)} (hf : Further os fs) (hl : ∀ m, some m ∈ fs → m < s) : heldAns s (heldAns s as os) (restO os fs) = heldAns s as fs := by
  obtain ⟨h1, h2, h3⟩ := rest_len os fs hf
  have e : heldAns s as fs = ((rowsN ((restO os fs).map (choiceN s))).map (fill os)).map fun r => as.getD (spotN s r) 0 := by
    unfold heldAns
    rw [rest_rows s os fs hf]
  rw [e, List.map_map]
  show (rowsN ((restO os fs).map (choiceN s))).map (fun q => (heldAns s as os).getD (spotN s q) 0) = _
  refine List.map_congr_left fun q hq => ?_
  have hg : q ∈ gridN s (cntN os) := by
    rw [← grid_held (os := restO os fs) (fun m hm => hl m (rest_mem os fs _ hm)), h1] at hq
    exact (List.mem_filter.mp hq).1
  obtain ⟨i, hi⟩ := List.mem_iff_getElem?.mp hg
  have hs := grid_spot hi
  show (heldAns s as os).getD (spotN s q) 0 = as.getD (spotN s (fill os q)) 0
  rw [hs]
  unfold heldAns
  rw [rows_fill, List.map_map, List.getD_eq_getElem?_getD, List.getElem?_map, hi]
  rfl
end K01
/-! held tables and settled answers are right. -/
namespace K01
open PySem L2 FX SQ LamX
/-- all but p and the code tables -/
def core (p : Addr) (H : Hp) : Hp := fun b => if b = p then none else match H b with
  | some (.tbl _) => none
  | some (.ext _) => none
  | x => x
def Keep (p : Addr) (H H' : Hp) : Prop := ∀ c o, H c = some o → c ≠ p → (∀ ps, o ≠ .tbl ps) → (∀ φ, o ≠ .ext φ) → H' c = some o
theorem core_le {p : Addr} {H : Hp} : Same (core p H) H := fun c o e => by
  unfold core at e
  by_cases h : c = p
  · rw [if_pos h] at e
    cases e
  rw [if_neg h] at e
  cases q : H c with
  | none =>
    rw [q] at e
    cases e
  | some u =>
    rw [q] at e
    cases u <;> first | exact e | cases e
theorem Keep.core {p : Addr} {H H' : Hp} (k : Keep p H H') : Same (core p H) (core p H') := fun c o e => by
  have e1 := core_le c o e
  unfold K01.core at e ⊢
  by_cases h : c = p
  · rw [if_pos h] at e
    cases e
  rw [if_neg h] at e ⊢
  have nt : ∀ ps, o ≠ .tbl ps := fun ps z => by
    rw [e1, z] at e
    cases e
  have nx : ∀ φ, o ≠ .ext φ := fun φ z => by
    rw [e1, z] at e
    cases e
  rw [k c o e1 h nt nx]
  cases o <;> first | rfl | exact absurd rfl (nt _) | exact absurd rfl (nx _)
theorem Keep.refl (p : Addr) (H : Hp) : Keep p H H := fun _ _ e _ _ _ => e
theorem Keep.trans {p : Addr} {H H1 H2 : Hp} (a : Keep p H H1) (b : Keep p H1 H2) : Keep p H H2 := fun c o e n t x => b c o (a c o e n t x) n t x
theorem Keep.of {p : Addr} {H H' : Hp} (s : Same H H') : Keep p H H' := fun c o e _ _ _ => s c o e
theorem Keep.but {p : Addr} {H H' : Hp} (b : But p H H') : Keep p H H' := fun c o e n _ _ => b c o e n
theorem Keep.ext {p : Addr} {H H' : Hp} (b : ExtN H H') : Keep p H H' := fun c o e _ t _ => b c o e t
theorem Keep.offA {p f : Addr} {H : Hp} {φ : Heap → Prop} (e : H f = some (.ext φ)) : Keep p H (offA H f) := fun c o q _ _ x => by
  rw [offA_of fun z => by rw [z, e] at q; exact x _ (Option.some.inj q).symm]
  exact q
theorem Box.ext {p : Addr} {H H' : Hp} (b : Box H p) (e : ExtN H H') : Box H' p := by
  obtain ⟨x, y, z, q⟩ := b
  exact ⟨x, y, z, e _ _ q fun ps h => nomatch h⟩
theorem Tabs.same {T : List (Addr × Str)} {H H' : Hp} (t : Tabs T H) (s : Same H H') : Tabs T H' := t.ext s
theorem Tabs.but {T : List (Addr × Str)} {p : Addr} {H H' : Hp} (t : Tabs T H) (hb : Box H p) (s : But p H H') : Tabs T H' := by
  obtain ⟨x, y, z, q⟩ := hb
  intro u hu
  obtain ⟨ps, h1, h2, h3⟩ := t u hu
  refine ⟨ps, s _ _ h1 fun z => (by rw [z, q] at h1; cases h1), h2, fun pos cv hc => ?_⟩
  obtain ⟨c, e1, e2⟩ := h3 pos cv hc
  exact ⟨c, e1, s _ _ e2 fun z => by rw [z, q] at e2; unfold CodeO at e2; cases e2⟩
theorem shaped_held (c : Nat) (ns : List Nat) : SeqAt.shaped (.tuple [nD c, .tuple (ns.map nD)]) = true := by
  unfold SeqAt.shaped
  rw [Bool.and_eq_true]
  refine ⟨?_, decide_eq_true ?_⟩
  · have := lay_n ns
    simp [PyData.canLay0, PyData.canLayAll0, nD] at this ⊢
    exact this
  · have := depth_n ns
    simp only [PyData.depth, PyData.depthAll, nD]
    omega
theorem alike_iff {ns : List Nat} (ne : ns ≠ []) : alike ns = true ↔ ∀ y ∈ ns, y = ns.headD 0 := by
  unfold alike
  rw [decide_eq_true_eq]
  constructor
  · intro h y hy
    have h1 : ns.countP (fun n => n == ns.headD 0) = ns.length := by omega
    have := List.countP_eq_length.mp h1 y hy
    simpa using this
  · intro h
    have : ns.countP (fun n => n == ns.headD 0) = ns.length := List.countP_eq_length.mpr fun y hy => by simpa using h y hy
    omega
/-- a def whose code object is known -/
structure FunC (K : PySem.W.Frag) (x : Str) (st : Stmt) (f c : Addr) (fd : FuncData) : Prop where
  ex : ∃ oc od kV doc pm an ct osl, fd = PySem.W.fnOf x x (defArgs st) (defBody st) (defScope st) .none kV doc pm an (.ref c) ct ∧ K.lookup f = some ⟨oc, od, .func fd, osl⟩ ∧ PySem.W.codeIn K (.ref c) x = true
  kp : PySem.W.keepIn K (.ref f) = true
end K01
namespace K01
open PySem L2 FX SQ LamX
theorem FunC.ok {P : Program} {w : World} {K : PySem.W.Frag} {mg : Str → Option Value} {base : Heap} {x : Str} {st : Stmt} {f c : Addr} {fd : FuncData} {N ps : List Str} {k : Nat} {sp : Sp} (F : FunC K x st f c fd) (S : FnScope N ps (defScope st)) (len : ∀ vs H Q E, sp vs H Q E → vs.length = ps.length)
    (hb : ∀ (A : Around) (outer : List Env) (s : Shared) (H : Hp) (vs : List V) (Q : VK) (E : XK), Room k (A.deeper (PyProof.Rows.envOfC x (defScope st) s.heap.objs.size f (.ref c))) → sp vs H Q E →
      ∃ t, PSs (cxOf CX0 P w K mg base N x (defScope st) f (.ref c) A outer s H E).nox (defBody st) t ∧ t { nx := fun _ H' => Q .non H', rt := Q } (L2.start N vs) H) : FnOk P w K mg base CX0 (k + 1) f fd ps sp := by
  obtain ⟨oc, od, kV, doc, pm, an, ct, osl, rfl, lk, hcd⟩ := F.ex
  refine fn_of lk hcd S len fun A outer s H vs Q E hr hsp => ?_
  obtain ⟨t, h, q⟩ := hb A outer s H vs Q E hr hsp
  exact ⟨t, h.nox, q⟩
section
variable {K : PySem.W.Frag}
theorem kb_Sett {f : Addr} {fd : FuncData} (F : Fun K "settled_value" "settled_value" sSettled f fd) : KBinds K fd ["size", "operation", "held"] ["held", "operation", "size"] perm3 perm3 := by
  obtain ⟨oc, od, kV, doc, pm, an, cdv, ct, osl, rfl, _, _⟩ := F.ex
  refine ⟨fun s us ws _ hl => ?_, fun r rz => ?_⟩
  · match us, ws, hl with
    | [], [h, o, z], _ => exact BindsTo.of_eq (by rfl)
  · cases r with
    | cons a b => exact .nil
    | nil => cases rz with
      | nil => exact .nil
      | cons a rz => cases rz with
        | nil => exact .nil
        | cons b rz => cases rz with
          | nil => exact .nil
          | cons c rz => cases rz with
            | nil => exact .cons c (.cons b (.cons a .nil))
            | cons d rz => exact .nil
end
end K01
namespace K01
open PySem L2 FX SQ LamX
/-- all but lists and tables is kept -/
def NL (H H' : Hp) : Prop := ∀ a o, H a = some o → (∀ xs, o ≠ .lst xs) → (∀ ps, o ≠ .tbl ps) → H' a = some o
theorem NL.of {H H' : Hp} (s : Same H H') : NL H H' := fun a o e _ _ => s a o e
theorem NL.ext {H H' : Hp} (s : ExtN H H') : NL H H' := fun a o e _ n => s a o e n
theorem NL.but {p : Addr} {H H' : Hp} (b : Box H p) (s : But p H H') : NL H H' := fun a o e n _ => by
  obtain ⟨x, y, z, q⟩ := b
  exact s a o e fun h => by
    rw [h, q] at e
    exact n _ (Option.some.inj e).symm
theorem NL.put {H : Hp} {a : Addr} {xs : List V} {o : HO} (e : H a = some (.lst xs)) : NL H (upd H a o) := fun b u q n _ => by
  rw [upd_ne fun h => by
    rw [h, e] at q
    exact n _ (Option.some.inj q).symm]
  exact q
theorem NL.trans {H H1 H2 : Hp} (a : NL H H1) (b : NL H1 H2) : NL H H2 := fun c o e n t => b c o (a c o e n t) n t
/-- a kept work: the pair at w, what is told at t, the lambda at f -/
structure Stored (q : Str) (H : Hp) (w f c t : Addr) (told : List V) (params : Arguments) (body : Expr) (scope : Scope) (clo : List (Str × Addr)) : Prop where
  w : H w = some (.tup [.ref f, .ref t])
  t : H t = some (.tup told)
  f : H f = some (LamO f c q params body scope clo)
  c : H c = some (CodeO c q)
theorem Keep.put {p a : Addr} {H0 H : Hp} {o : HO} (k : Keep p H0 H) (n : ∀ u, H0 a = some u → (∀ ps, u ≠ .tbl ps) → False) : Keep p H0 (upd H a o) := fun c u e n1 n2 n3 => by
  rw [upd_ne fun z => by
    rw [z] at e
    exact n u e n2]
  exact k c u e n1 n2 n3
theorem none_ext {H H' : Hp} {a : Addr} (x : ExtN H H') (h : H' a = none) : ∀ u, H a = some u → (∀ ps, u ≠ .tbl ps) → False := fun u e n => by
  rw [x a u e n] at h
  cases h
variable {q : Str} {H H' : Hp} {w f c t : Addr} {told : List V} {params : Arguments} {body : Expr} {scope : Scope} {clo : List (Str × Addr)}
theorem lamO_lst (xs : List V) : LamO f c q params body scope clo ≠ .lst xs := fun z => by unfold LamO at z; cases z
theorem lamO_tbl (xs : Array Value) : LamO f c q params body scope clo ≠ .tbl xs := fun z => by unfold LamO at z; cases z
theorem codeO_lst (xs : List V) : CodeO c q ≠ .lst xs := fun z => by unfold CodeO at z; cases z
theorem Stored.nl (S : Stored q H w f c t told params body scope clo) (n : NL H H') : Stored q H' w f c t told params body scope clo :=
  ⟨n _ _ S.w (fun _ z => nomatch z) (fun _ z => nomatch z), n _ _ S.t (fun _ z => nomatch z) (fun _ z => nomatch z), n _ _ S.f lamO_lst lamO_tbl, n _ _ S.c codeO_lst codeO_ne⟩
theorem Stored.off {g : Addr} {φ : Heap → Prop} (S : Stored q H w f c t told params body scope clo) (e : H g = some (.ext φ)) (n1 : f ≠ g) (n2 : c ≠ g) : Stored q (offA H g) w f c t told params body scope clo :=
  ⟨by rw [offA_of fun z => by have h := S.w; rw [z, e] at h; cases h]; exact S.w, by rw [offA_of fun z => by have h := S.t; rw [z, e] at h; cases h]; exact S.t, by rw [offA_of n1]; exact S.f, by rw [offA_of n2]; exact S.c⟩
theorem tf_same {T : List (Addr × Str)} {fs : List Addr} (h : Tabs T (forg fs H)) (s : Same H H') : Tabs T (forg fs H') := h.ext fun b o e => forg_of (s _ _ (forg_le _ _ e)) (forg_not e)
theorem tf_off {T : List (Addr × Str)} {fs : List Addr} {g : Addr} (h : Tabs T (forg fs H)) (hg : g ∈ fs) : Tabs T (forg fs (offA H g)) := h.ext fun b o e => forg_of (by
  rw [offA_of fun z => forg_not e (by rw [z]; exact hg)]
  exact forg_le _ _ e) (forg_not e)
theorem tf_but {T : List (Addr × Str)} {fs : List Addr} {p : Addr} (h : Tabs T (forg fs H)) (b : Box H p) (s : But p H H') : Tabs T (forg fs H') := by
  obtain ⟨x, y, z, q⟩ := b
  intro u hu
  obtain ⟨ps, h1, h2, h3⟩ := h u hu
  have e1 := forg_le _ _ h1
  refine ⟨ps, forg_of (s _ _ e1 fun z => by rw [z, q] at e1; cases e1) (forg_not h1), h2, fun pos cv hc => ?_⟩
  obtain ⟨c, ec, e2⟩ := h3 pos cv hc
  have e3 := forg_le _ _ e2
  exact ⟨c, ec, forg_of (s _ _ e3 fun z => by rw [z, q] at e3; unfold CodeO at e3; cases e3) (forg_not e2)⟩
theorem tf_put {T : List (Addr × Str)} {fs : List Addr} {a : Addr} {xs : List V} {o : HO} (h : Tabs T (forg fs H)) (e : H a = some (.lst xs)) : Tabs T (forg fs (upd H a o)) := by
  intro u hu
  obtain ⟨ps, h1, h2, h3⟩ := h u hu
  have e1 := forg_le _ _ h1
  refine ⟨ps, forg_of (by rw [upd_ne fun z => by rw [z, e] at e1; cases e1]; exact e1) (forg_not h1), h2, fun pos cv hc => ?_⟩
  obtain ⟨c, ec, e2⟩ := h3 pos cv hc
  have e3 := forg_le _ _ e2
  exact ⟨c, ec, forg_of (by rw [upd_ne fun z => by rw [z, e] at e3; unfold CodeO at e3; cases e3]; exact e3) (forg_not e2)⟩
theorem tf_nil {T : List (Addr × Str)} (h : Tabs T H) : Tabs T (forg [] H) := h.ext fun b o e => forg_of e (by simp)
theorem tf_out {T : List (Addr × Str)} {fs : List Addr} (h : Tabs T (forg fs H)) : Tabs T H := h.ext fun b o e => forg_le _ _ e
theorem noPins {X : Cx} {pb : List (Addr × Obj)} {σ : L2.St} {H : Hp} {s : Shared} (I : Inv X pb σ H s) : Inv X [] σ H s := I.pins_of fun p hp => nomatch hp
/-- what stands at each turn, but the works -/
structure PvB (T : List (Addr × Str)) (fs : List Addr) (p Wl D : Addr) (ws : List V) (H0 H : Hp) : Prop where
  k : Keep p H0 H
  b : Box H p
  t : Tabs T (forg fs H)
  w : H Wl = some (.lst ws)
  d : H D = some (.lst [])
theorem PvB.step {T : List (Addr × Str)} {fs : List Addr} {p Wl D g : Addr} {ws : List V} {H0 H H' : Hp} {φ : Heap → Prop} (P : PvB T fs p Wl D ws H0 H) (e : H g = some (.ext φ)) (hg : g ∈ fs) (s : But p (offA H g) H') (b : Box H' p) (nW : Wl ≠ p) (nD : D ≠ p) : PvB T fs p Wl D ws H0 H' := by
  have nl : ∀ {a : Addr} {xs : List V}, H a = some (.lst xs) → a ≠ g := fun {a xs} h z => by rw [z, e] at h; cases h
  obtain ⟨x, y, z, q⟩ := P.b
  have b0 : Box (offA H g) p := ⟨x, y, z, by rw [offA_of (nl q)]; exact q⟩
  exact ⟨(P.k.trans (Keep.offA e)).trans (Keep.but s), b, tf_but (tf_off P.t hg) b0 s, s _ _ (by rw [offA_of (nl P.w)]; exact P.w) nW, s _ _ (by rw [offA_of (nl P.d)]; exact P.d) nD⟩
theorem Stored.step {p g : Addr} {φ : Heap → Prop} (S : Stored q H w f c t told params body scope clo) (b : Box H p) (e : H g = some (.ext φ)) (n1 : f ≠ g) (n2 : c ≠ g) (s : But p (offA H g) H') : Stored q H' w f c t told params body scope clo := by
  obtain ⟨x, y, z, h⟩ := b
  have b0 : Box (offA H g) p := ⟨x, y, z, by rw [offA_of fun z => by rw [z, e] at h; cases h]; exact h⟩
  exact (S.off e n1 n2).nl (NL.but b0 s)
theorem shaped_si {a : Str} (i : Int) (ha : PyData.strOk a = true) : SeqAt.shaped (.tuple [.str a, .int i]) = true := by
  unfold SeqAt.shaped
  simp [PyData.canLay0, PyData.canLayAll0, PyData.depth, PyData.depthAll, ha]
theorem shaped_ss {a b : Str} (ha : PyData.strOk a = true) (hb : PyData.strOk b = true) : SeqAt.shaped (.tuple [.str a, .str b]) = true := by
  unfold SeqAt.shaped
  simp [PyData.canLay0, PyData.canLayAll0, PyData.depth, PyData.depthAll, ha, hb]
theorem told_eq {a : Str} (i : Int) (ha : PyData.strOk a = true) : PyData.eqv (.tuple [.str a, .int i]) (.tuple [.str a, .int i]) = true := SeqAt.eqv_refl _ (SeqAt.canLay_of_shaped (shaped_si i ha))
theorem told_eqs {a b : Str} (ha : PyData.strOk a = true) (hb : PyData.strOk b = true) : PyData.eqv (.tuple [.str a, .str b]) (.tuple [.str a, .str b]) = true := SeqAt.eqv_refl _ (SeqAt.canLay_of_shaped (shaped_ss ha hb))
theorem okS1 : PyData.strOk "values" = true := by decide +kernel
theorem okS2 : PyData.strOk "size" = true := by decide +kernel
theorem okS3 : PyData.strOk "operation" = true := by decide +kernel
theorem okS4 : PyData.strOk "book" = true := by decide +kernel
end K01
namespace K01
open PySem L2 FX SQ LamX
abbrev sHR : Stmt := top 37
abbrev NHR : List Str := ["box", "size", "operation", "given", "held", "turn", "due", "settled", "further", "rest", "at", "odd", "works", "one", "work", "told"]
theorem scHR : FnScope NHR ["box", "size", "operation"] (defScope sHR) := ⟨rfl, rfl, rfl, by decide +kernel, rfl, by decide +kernel, by decide +kernel⟩
def qHR : Str := (PyProof.Rows.envOfC "_law_held_right" (defScope sHR) 0 0 .none).qual ++ "<lambda>"
def oV : Option Nat → V
  | none => .non
  | some m => .int m
theorem dpAll_o {K : PySem.W.Frag} {H : Hp} : ∀ os : List (Option Nat), DpAll K H (os.map oV) (os.map oD)
  | [] => .nil
  | none :: r => .cons .non (dpAll_o r)
  | some m :: r => .cons (.int _) (dpAll_o r)
theorem seqL_core {K : PySem.W.Frag} {p a : Addr} {H : Hp} {xs : List V} (e : H a = some (.lst xs)) (n : a ≠ p) : SqL K (core p H) a xs := SqL.of (by
  unfold core
  rw [if_neg n, e])
theorem seqT_core {K : PySem.W.Frag} {p a : Addr} {H : Hp} {xs : List V} (e : H a = some (.tup xs)) (n : a ≠ p) : SqT K (core p H) a xs := SqT.of (by
  unfold core
  rw [if_neg n, e])
theorem flat_core {K : PySem.W.Frag} {p : Addr} {H : Hp} {v : V} {ns : List Nat} (b : Box H p) (h : Dp K H v (.tuple (ns.map nD))) : Dp K (core p H) v (.tuple (ns.map nD)) := by
  obtain ⟨x, y, z, ep⟩ := b
  obtain ⟨a, xs, rfl, q, r⟩ := dp_tup h
  obtain rfl := dpAll_eqn r
  refine .tup ?_ (dpAll_mkn ns)
  rcases q with (q | ⟨o, q⟩) | q
  · have n : a ≠ p := fun z => by rw [z, ep] at q; cases q
    exact .inl (.inl (by unfold core; rw [if_neg n, q]))
  · have n : a ≠ p := fun z => by rw [z, ep] at q; cases q
    exact .inl (.inr ⟨o, by unfold core; rw [if_neg n, q]⟩)
  · exact .inr q
theorem due_core {K : PySem.W.Frag} {p t : Addr} {H : Hp} {va : V} {c : Nat} {ns : List Nat} (b : Box H p) (e : H t = some (.tup [.int (c : Nat), va])) (h : Dp K H va (.tuple (ns.map nD))) : Dp K (core p H) (.ref t) (.tuple [nD c, .tuple (ns.map nD)]) := by
  have f := flat_core b h
  obtain ⟨x, y, z, ep⟩ := b
  exact .tup (seqT_core e fun z => by rw [z, ep] at e; cases e) (.cons (.int _) (.cons f .nil))
theorem held_eq (c : Nat) (ns : List Nat) : PyData.eqv (.tuple [nD c, .tuple (ns.map nD)]) (.tuple [nD c, .tuple (ns.map nD)]) = true := SeqAt.eqv_refl _ (SeqAt.canLay_of_shaped (shaped_held c ns))
theorem alike_int {ns : List Nat} (ne : ns ≠ []) : (∀ y ∈ ns.map (fun n : Nat => (n : Int)), y = (ns.map fun n : Nat => (n : Int)).headD 0) ↔ alike ns = true := by
  rw [alike_iff ne]
  cases ns with
  | nil => exact absurd rfl ne
  | cons a r =>
    show (∀ y ∈ (a :: r).map (fun n : Nat => (n : Int)), y = (a : Int)) ↔ ∀ y ∈ a :: r, y = a
    constructor
    · intro h y hy
      have := h y (List.mem_map.mpr ⟨y, hy, rfl⟩)
      omega
    · intro h y hy
      obtain ⟨z, hz, rfl⟩ := List.mem_map.mp hy
      rw [h z hz]
theorem further_snoc : ∀ {os fs : List (Option Nat)} {o f : Option Nat}, Further os fs → (∀ m, o = some m → f = some m) → Further (os ++ [o]) (fs ++ [f])
  | [], [], none, f, _, _ => trivial
  | [], [], some m, f, _, h => ⟨h m rfl, trivial⟩
  | none :: os, _ :: fs, o, f, h, k => further_snoc (os := os) (fs := fs) h k
  | some m :: os, g :: fs, o, f, h, k => ⟨h.1, further_snoc (os := os) (fs := fs) h.2 k⟩
  | [], _ :: _, _, _, h, _ => h.elim
  | none :: _, [], _, _, h, _ => h.elim
  | some _ :: _, [], _, _, h, _ => h.elim
theorem restO_snoc : ∀ {os fs : List (Option Nat)} {o f : Option Nat}, os.length = fs.length → restO (os ++ [o]) (fs ++ [f]) = restO os fs ++ (if o.isNone = true then [f] else [])
  | [], [], none, f, _ => rfl
  | [], [], some m, f, _ => rfl
  | none :: os, g :: fs, o, f, h => by
    have := restO_snoc (os := os) (fs := fs) (o := o) (f := f) (by simpa using h)
    show g :: restO (os ++ [o]) (fs ++ [f]) = _
    rw [this]
    rfl
  | some m :: os, g :: fs, o, f, h => restO_snoc (os := os) (fs := fs) (o := o) (f := f) (by simpa using h)
theorem dpAll_eqo {K : PySem.W.Frag} {H : Hp} : ∀ {vs : List V} {os : List (Option Nat)}, DpAll K H vs (os.map oD) → vs = os.map oV := by
  intro vs os
  induction os generalizing vs with
  | nil =>
    intro h
    cases h
    rfl
  | cons o os ih =>
    intro h
    cases h with
    | cons h r =>
      rw [ih r]
      cases o <;> (cases h; rfl)
theorem cut_lo (xs : List V) {j : Nat} (h : j ≤ xs.length) : cutV xs none (some (j : Int)) = xs.take j := by
  unfold cutV
  rw [HT.sIx_none, HT.sIx_nat, List.drop_zero, Nat.sub_zero, Nat.min_eq_left h]
theorem cut_hi (xs : List V) (j : Nat) : cutV xs (some ((j : Nat) : Int)) none = xs.drop j := by
  unfold cutV
  rw [HT.sIx_none, HT.sIx_nat]
  by_cases h : j ≤ xs.length
  · rw [Nat.min_eq_left h]
    exact List.take_of_length_le (by rw [List.length_drop]; exact Nat.le_refl _)
  · rw [Nat.min_eq_right (by omega), Nat.sub_self, List.take_zero, List.drop_of_length_le (by omega)]
/-- what is no value of a size -/
def badD (s : Nat) (d : D) : Prop := d = nD s ∨ d = .int (-1) ∨ d = .bool true ∨ d = .str "0" ∨ d = .tuple [.int 0]
theorem bad_no {s : Nat} {d : D} (h : badD s d) : okH s d = false := by
  rcases h with rfl | rfl | rfl | rfl | rfl
  · show (false || isB s (nD s)) = false
    rw [isB_nat]
    simp
  · rfl
  · rfl
  · rfl
  · rfl
section
variable {P : Program} {w : World} {K : PySem.W.Frag} {mg : Str → Option Value} {base : Heap} {B cB iB cO iO cV iV cS iS : Addr}
def spHR (K : PySem.W.Frag) (T : List (Addr × Str)) : Sp := fun vs H Q _ => ∃ (p : Addr) (s n : Nat) (vo : V) (as : List Nat), vs = [.ref p, .int s, vo] ∧ 2 ≤ s ∧ s ≤ 4 ∧ 1 ≤ n ∧ n ≤ 3 ∧ as.length = s ^ n ∧ (∀ a ∈ as, a < s) ∧ Dp K (core p H) vo (.tuple [nD n, .tuple (as.map nD)]) ∧ Box H p ∧ Tabs T H ∧
  ∀ H', Keep p H H' → Box H' p → Tabs T H' → Q (.bl true) H'
structure Fs (K : PySem.W.Frag) (mg : Str → Option Value) (P : Program) (w : World) (base : Heap) (cO cV cS : Addr) (fT fP fH fS fL fE : Addr) (dT dP dH dS dL dE : FuncData) : Prop where
  take : At K mg "_law_take" sTake fT dT ["box", "many"]
  gTake : FnOk P w K mg base CX0 1 fT dT ["box", "many"] spTake
  pick : At K mg "_law_pick" sPick fP dP ["box", "some"]
  gPick : FnOk P w K mg base CX0 2 fP dP ["box", "some"] (spPick K)
  held : At K mg "held_table" sHT fH dH ["size", "operation", "held"]
  gHeld : FnOk P w K mg base (L2.CX P w) 7 fH dH ["size", "operation", "held"] (spHT K cO cV cS)
  sett : At K mg "settled_value" sSettled fS dS ["size", "operation", "held"]
  gSett : FnOk P w K mg base (L2.CX P w) 8 fS dS ["size", "operation", "held"] (spSett K cO cV cS)
  own : At K mg "_law_held" sHeldL fL dL ["size", "operation", "held"]
  gOwn : FnOk P w K mg base CX0 2 fL dL ["size", "operation", "held"] (spHeldL K)
  err : At K mg "_law_error" sErr fE dE ["work"]
theorem ok_HR {f c Pt : Addr} {fd : FuncData} {T : List (Addr × Str)} {fT fP fH fS fL fE : Addr} {dT dP dH dS dL dE : FuncData} (F : FunC K "_law_held_right" sHR f c fd) (Z : Bi mg) (R : Ers K mg B cB iB cO iO cV iV cS iS) (G : Fs K mg P w base cO cV cS fT fP fH fS fL fE dT dP dH dS dL dE)
    (TB : TabB base mg c Pt) (hmT : (Pt, qHR) ∈ T) (hu : ∀ p ∈ T, p.1 = Pt → p.2 = qHR) : FnOk P w K mg base CX0 12 f fd ["box", "size", "operation"] (spHR K T) := by
  refine F.ok scHR (fun vs H Q E h => ?_) (fun A outer sh H vs Q E hr h => ?_)
  · obtain ⟨p, s, n, vo, as, rfl, _⟩ := h
    rfl
  · obtain ⟨p, s, n, vo, as, rfl, s2, s4, n1, n3, la, hlt, ho, hb, hT, k⟩ := h
    have hr8 := hr.units
    obtain ⟨oc, od, kV, doc, pm, an, cdv, ct, osl, rfl, lkE, hcE⟩ := G.err.F.ex
    refine ⟨_, pss_cons (ps_asg (pe_tup (by exact (pa_cons (pe_lst (by exact (pa_cons (pe_ix ix_tup (pv 2) pe_int (fun _ _ => rfl)) (pa_cons (pe_callTy call_list_of (by rfl) Z.list (by decide +kernel) (pa_cons (pe_ix ix_tup (pv 2) pe_int (fun _ _ => rfl)) pa_nil)) pa_nil)))) (pa_cons (pe_lst pa_nil) pa_nil))))
        (pg_tup rfl (pgs_cons (pg_name (i := 3) scHR.nd rfl (Or.inr rfl)) (pgs_cons (pg_name (i := 4) scHR.nd rfl (Or.inr rfl)) pgs_nil))))
      (pss_cons (ps_for PassesOwn.never rfl (pi_range1 rfl Z.range (pa_cons (pe_ix ix_tup (pv 2) pe_int (fun _ _ => rfl)) pa_nil)) (pg_name (i := 5) scHR.nd rfl (Or.inl rfl))
        (pss_one (ps_expr (pe_bm PySem.F.plainAttrs_list PySem.F.slot_list_append PySem.F.type_list_append mt_append (pv 4) (pa_cons
          (pe_call G.gPick (hr.mono (by decide)) rfl G.pick.g G.pick.F.kp G.pick.b .nil pass0 (by exact (pa_cons (pv 0) (pa_cons (pe_lst (by exact (pa_cons pe_non (pa_cons (pe_call G.gTake (hr.mono (by decide)) rfl G.take.g G.take.F.kp G.take.b .nil pass0 (by exact (pa_cons (pv 0) (pa_cons (pv 1) pa_nil)))) pa_nil)))) pa_nil)))) pa_nil)))))
      (pss_cons (ps_set (i := 6) scHR.nd rfl (Or.inl rfl) (pe_call G.gOwn (hr.mono (by decide)) rfl G.own.g G.own.F.kp G.own.b .nil pass0 (by exact (pa_cons (pv 1) (pa_cons (pv 2) (pa_cons (pv 4) pa_nil))))))
      (pss_cons (ps_if (pt_cmpR (op_neD hr8) (pe_callK0 G.gHeld (hr.mono (by decide)) rfl G.held.g G.held.F.kp (kb_HT G.held.F) (pass_never rfl rfl) (pk_cons (pv 4) (pk_cons (pv 3) (pk_cons (pv 1) pk_nil)))) (pv 6) (nomark _)) (pss_one (ps_ret pe_bl)) pss_nil)
      (pss_cons (ps_set (i := 7) scHR.nd rfl (Or.inl rfl) (pe_callK0 G.gSett (hr.mono (by decide)) rfl G.sett.g G.sett.F.kp (kb_Sett G.sett.F) (pass_never rfl rfl) (pk_cons (pe_tupleF (by rfl) Z.tuple (pv 4)) (pk_cons (pv 2) (pk_cons (pv 1) pk_nil)))))
      (pss_cons (ps_if (pt_cmpR op_ne (pe_callB cr_repr (by rfl) Z.repr (by decide +kernel) (pa_cons (pv 7) pa_nil)) (pe_callB cr_repr (by rfl) Z.repr (by decide +kernel) (pa_cons
          (pe_ifExp (pt_cmpR op_eq (pe_lenSetT (by rfl) Z.len (by rfl) Z.set (pe_ix ix_tup (pv 6) pe_int (fun _ _ => rfl))) pe_int (nomark _)) (pe_ix ix_tup (pe_ix ix_tup (pv 6) pe_int (fun _ _ => rfl)) pe_int (fun _ _ => rfl)) pe_non) pa_nil)) (nomark _)) (pss_one (ps_ret pe_bl)) pss_nil)
      (pss_cons (ps_set (i := 8) scHR.nd rfl (Or.inr rfl) (pe_lc (own := [("one", 13)]) (g := gName 13) (tt := tYes) (te := tIf (tTest (tOp (fun x y H Q => y = V.non ∧ Q (V.bl !decide (x = V.non)) H) (tVar 13) (tC V.non))) (tVar 13) (tCall (spPick K) [] E0 (tCons (tVar 0) (tCons (tLst (tCons (tC V.non) (tCons (tCall spTake [] E0 (tCons (tVar 0) (tCons (tVar 1) tNil))) tNil))) tNil)))) rfl scHR.nd (pi_list (pv 4)) (blkOk_by (N := NHR) (sc := defScope sHR) (by decide +kernel))
          (fun _ _ _ _ _ => pg_name (i := 13) scHR.nd rfl (Or.inl rfl)) (fun _ _ _ _ _ => pts_nil) (fun _ _ _ _ _ => pe_ifExp (pt_cmpR op_notN (pv 13) pe_non (nomark _)) (pv 13)
            (pe_call G.gPick (hr.mono (by decide)) (by rfl) G.pick.g G.pick.F.kp G.pick.b .nil pass0 (by exact (pa_cons (pv 0) (pa_cons (pe_lst (by exact (pa_cons pe_non (pa_cons (pe_call G.gTake (hr.mono (by decide)) (by rfl) G.take.g G.take.F.kp G.take.b .nil pass0 (by exact (pa_cons (pv 0) (pa_cons (pv 1) pa_nil)))) pa_nil)))) pa_nil)))))))
      (pss_cons (ps_setLc (i := 9) (own := [("at", 10), ("one", 13)]) (g := gTup K 2 (gCons (gName 10) (gCons (gName 13) gNil))) (tt := tTest (tOp (fun x y H Q => y = V.non ∧ Q (V.bl (decide (x = V.non))) H) (tVar 13) (tC V.non))) (te := tOp (rIxL K) (tVar 8) (tVar 10)) rfl scHR.nd rfl rfl (sw_true rfl rfl rfl (by decide +kernel))
          (pi_enum2 (by rfl) Z.enumerate (pa_cons (pv 4) pa_nil)) (blkOk_by (N := NHR) (sc := defScope sHR) (by decide +kernel)) (fun _ _ _ _ _ => pg_tup rfl (pgs_cons (pg_name (i := 10) scHR.nd rfl (Or.inl rfl)) (pgs_cons (pg_name (i := 13) scHR.nd rfl (Or.inl rfl)) pgs_nil)))
          (fun _ _ _ _ _ => pts_one (pt_cmpR op_isN (pv 13) pe_non (nomark _))) (fun _ _ _ _ _ => pe_ix ix_list (pv 8) (pv 10) (fun _ _ => rfl)))
      (pss_cons (ps_if (PW.pt (pw_and (pt_cmpR op_lt pe_int (pe_ix ix_tup (pv 6) pe_int (fun _ _ => rfl)) (nomark _)) (pw_and1 (pt_cmpR (op_neD hr8)
          (pe_call G.gHeld (hr.mono (by decide)) rfl G.held.g G.held.F.kp G.held.b .nil (pass_never rfl rfl) (by exact (pa_cons (pv 1) (pa_cons (pv 6) (pa_cons (pv 9) pa_nil)))))
          (pe_call G.gOwn (hr.mono (by decide)) rfl G.own.g G.own.F.kp G.own.b .nil pass0 (by exact (pa_cons (pv 1) (pa_cons (pv 2) (pa_cons (pv 8) pa_nil))))) (nomark _))))) (pss_one (ps_ret pe_bl)) pss_nil)
      (pss_cons (ps_set (i := 10) scHR.nd rfl (Or.inl rfl) (pe_call G.gTake (hr.mono (by decide)) rfl G.take.g G.take.F.kp G.take.b .nil pass0 (by exact (pa_cons (pv 0) (pa_cons (pe_ix ix_tup (pv 2) pe_int (fun _ _ => rfl)) pa_nil)))))
      (pss_cons (ps_set (i := 11) scHR.nd rfl (Or.inr rfl) (pe_op op_cat (pe_op op_cat (pe_slice sl_list (pv 4) po_none (po_some (pv 10))) (pe_lst (by exact (pa_cons (pe_call G.gPick (hr.mono (by decide)) rfl G.pick.g G.pick.F.kp G.pick.b .nil pass0
          (by exact (pa_cons (pv 0) (pa_cons (pe_lst (by exact (pa_cons (pv 1) (pa_cons (pe_un un_neg pe_int) (pa_cons pe_bl (pa_cons pe_str (pa_cons (pe_tup (by exact (pa_cons pe_int pa_nil))) pa_nil))))))) pa_nil)))) pa_nil)))) (pe_slice sl_list (pv 4) (po_some (pe_op op_add (pv 10) pe_int)) po_none)))
      (pss_cons (ps_set (i := 12) scHR.nd rfl (Or.inl rfl) (pe_lst (by exact (pa_cons (pe_tup (by exact (pa_cons (pe_lamV TB rfl hmT hu rfl (lamS_by (sc := defScope sHR) (by decide +kernel))) (pa_cons (pe_tup (by exact (pa_cons pe_str (pa_cons (pv 10) pa_nil)))) pa_nil)))) pa_nil))))
      (pss_cons (ps_expr (pe_bm PySem.F.plainAttrs_list PySem.F.slot_list_append PySem.F.type_list_append mt_append (pv 12) (pa_cons (pe_tup (by exact (pa_cons (pe_lamV TB rfl hmT hu rfl (lamS_by (sc := defScope sHR) (by decide +kernel))) (pa_cons (pe_tup (by exact (pa_cons pe_str (pa_cons (pe_un un_neg pe_int) pa_nil)))) pa_nil)))) pa_nil)))
      (pss_cons (ps_expr (pe_bm PySem.F.plainAttrs_list PySem.F.slot_list_append PySem.F.type_list_append mt_append (pv 12) (pa_cons (pe_tup (by exact (pa_cons (pe_lamV TB rfl hmT hu rfl (lamS_by (sc := defScope sHR) (by decide +kernel))) (pa_cons (pe_tup (by exact (pa_cons pe_str (pa_cons pe_str pa_nil)))) pa_nil)))) pa_nil)))
      (pss_cons (ps_expr (pe_bm PySem.F.plainAttrs_list PySem.F.slot_list_append PySem.F.type_list_append mt_append (pv 12) (pa_cons (pe_tup (by exact (pa_cons (pe_lamV TB rfl hmT hu rfl (lamS_by (sc := defScope sHR) (by decide +kernel))) (pa_cons (pe_tup (by exact (pa_cons pe_str (pa_cons (pe_un un_neg pe_int) pa_nil)))) pa_nil)))) pa_nil)))
      (pss_one (ps_ret (pe_cmpR (op_eqD hr8) (pe_lcAt (own := [("work", 14), ("told", 15)]) (g := gTup K 2 (gCons (gName 14) (gCons (gName 15) gNil))) (tt := fun sb Hb => tTest (tOp (rNeD K) (tKept (cxOf CX0 P w K mg base NHR "_law_held_right" (defScope sHR) f (.ref c) A outer sh H E).nox 9 (TTerr cB cO cV cS) 14 sb Hb) (tVar 15))) (te := fun _ _ => tVar 14) rfl scHR.nd (pi_list (pv 12)) (blkOk_by (N := NHR) (sc := defScope sHR) (by decide +kernel))
          (fun s H pins σ C cl fp I hfp => ⟨pg_tup rfl (pgs_cons (pg_name (i := 14) scHR.nd rfl (Or.inl rfl)) (pgs_cons (pg_name (i := 15) scHR.nd rfl (Or.inl rfl)) pgs_nil)),
            pts_one (pt_cmpR (op_neD hr8) (pe_kept (k := 9) (i := 14) hfp (by rfl) G.err.g G.err.F.kp lkE hcE G.err.b scErr rfl (Or.inl rfl) (err_gives R) (hr.mono (by decide)) (pv 14)) (pv 15) (nomark _)), pv 14⟩)) (pe_lst pa_nil) (nomark _)))))))))))))))))), ?_⟩
    obtain ⟨aO, xO, rfl, qO, rO⟩ := dp_tup ho
    obtain ⟨va, rfl, da⟩ : ∃ va, xO = [.int (n : Int), va] ∧ Dp K (core p H) va (.tuple (as.map nD)) := by
      cases rO with
      | cons h0 r => cases r with
        | cons h1 r => cases r with
          | nil =>
            cases h0
            exact ⟨_, rfl, h1⟩
    obtain ⟨aA, xA, rfl, qA, rA⟩ := dp_tup da
    obtain rfl := dpAll_eqn rA
    have qO' : SqT K H aO [.int (n : Int), .ref aA] := seqT core_le qO
    refine ⟨_, rfl, aO, _, _, _, rfl, rfl, qO', atI_nat (j := 0) rfl, _, rfl, aO, _, _, _, rfl, rfl, qO', atI_nat (j := 1) rfl, aA, _, rfl, .inr (seqT core_le qA), fun l1 hl1 => ?_⟩
    refine ⟨(by show 2 ≤ sizeLine; decide), fun Gl hGl => ⟨(by show 0 ≤ sizeLine; decide), fun Hl hHl => ⟨(by show 2 ≤ sizeLine; decide), fun t ht => ?_⟩⟩⟩
    have nl1 := hb.fresh hl1
    have b1 := hb.ne (o := .lst (as.map fun n : Nat => V.int n)) nl1
    have nGl := b1.fresh hGl
    have b2 := b1.ne (o := .lst [V.int (n : Int), .ref l1]) nGl
    have nHl := b2.fresh hHl
    have b3 := b2.ne (o := .lst []) nHl
    have ntp := b3.fresh ht
    have sA : Same H (upd (upd H l1 (.lst (as.map fun n : Nat => V.int n))) Gl (.lst [V.int (n : Int), .ref l1])) := (same_new hl1).trans (same_new hGl)
    have dG0 : Dp K (core p (upd (upd H l1 (.lst (as.map fun n : Nat => V.int n))) Gl (.lst [V.int (n : Int), .ref l1]))) (.ref Gl) (.list [nD n, .list (as.map nD)]) :=
      .lst (seqL_core upd_same nGl) (.cons (.int _) (.cons (.lst (seqL_core (same_new hGl _ _ upd_same) nl1) (dpAll_mkn as)) .nil))
    refine ⟨t, _, rfl, SqT.of upd_same, rfl, _, _, rfl, _, _, rfl, rfl, ?_⟩
    have bH := b3.ne (o := .tup [.ref Gl, .ref Hl]) ntp
    have eHl : upd (upd (upd (upd H l1 (.lst (as.map fun n : Nat => V.int n))) Gl (.lst [V.int (n : Int), .ref l1])) Hl (.lst [])) t (.tup [.ref Gl, .ref Hl]) Hl = some (.lst []) := (same_new ht) _ _ upd_same
    have sB := (same_new (o := .lst []) hHl).trans (same_new (o := .tup [.ref Gl, .ref Hl]) ht)
    have nHG := hHl
    generalize upd (upd (upd (upd H l1 (.lst (as.map fun n : Nat => V.int n))) Gl (.lst [V.int (n : Int), .ref l1])) Hl (.lst [])) t (.tup [.ref Gl, .ref Hl]) = H1 at bH eHl sB
    generalize upd (upd H l1 (.lst (as.map fun n : Nat => V.int n))) Gl (.lst [V.int (n : Int), .ref l1]) = HG at sA dG0 sB nHG
    clear b1 b2 b3 hl1 hGl
    refine ⟨_, rfl, aO, _, _, _, rfl, rfl, seqT ((core_le.trans sA).trans sB) qO, atI_nat (j := 0) rfl, n, rfl, by omega, by omega, ?_⟩
    rw [Int.toNat_natCast]
    refine for_range (n := n) (fun i σ H' => ∃ u5 : Option V, σ = [some (.ref p), some (.int s), some (.ref aO), some (.ref Gl), some (.ref Hl), u5, none, none, none, none, none, none, none, none, none, none] ∧ But2 p Hl H1 H' ∧ Box H' p ∧
        ∃ os : List (Option Nat), os.length = i ∧ (∀ m, some m ∈ os → m < s) ∧ H' Hl = some (.lst (os.map oV))) ⟨none, rfl, fun c o e _ _ => e, bH, [], rfl, (fun m h => nomatch h), eHl⟩ ?_ ?_
    · rintro i σ H2 hi ⟨u5, rfl, bt, bb, os, lo, hlo, eH⟩
      refine ⟨_, rfl, .inl ⟨rfl, _, SqL.of eH⟩, _, rfl, _, rfl, _, rfl, p, s, rfl, by omega, by omega, bb, fun H3 d bt3 b3 d0 d1 => ⟨(by show 2 ≤ sizeLine; decide), fun l hl => ?_⟩⟩
      obtain ⟨dn, rfl, hdn⟩ := nat_of d0 d1
      refine ⟨p, l, _, rfl, b3.fresh hl, b3.same (same_new hl), upd_same, by show 0 < 2; decide, by show 2 < 1000; decide, fun H4 v bt4 b4 hv => ?_⟩
      obtain ⟨o, rfl, ho'⟩ : ∃ o : Option Nat, v = oV o ∧ ∀ m, o = some m → m < s := by
        simp only [List.mem_cons, List.not_mem_nil, or_false] at hv
        rcases hv with rfl | rfl
        · exact ⟨none, rfl, fun m z => nomatch z⟩
        · exact ⟨some dn, rfl, fun m z => by cases z; omega⟩
      have e4 : H4 Hl = some (.lst (os.map oV)) := bt4 Hl _ (same_new hl _ _ (bt3 Hl _ eH nHl)) nHl
      refine ⟨Hl, _, _, rfl, rfl, e4, by rw [List.length_map, lo, sizeLine_eq]; omega, _, rfl, fun c o e n1 n2 => ?_, b4.ne nHl, os ++ [o], by rw [List.length_append, lo]; rfl, fun m hm => ?_, by rw [upd_same, List.map_append]; rfl⟩
      · rw [upd_ne n2]
        exact bt4 c o (same_new hl _ _ (bt3 c o (bt c o e n1 n2) n1)) n1
      · rcases List.mem_append.mp hm with h | h
        · exact hlo m h
        · rw [List.mem_singleton] at h
          exact ho' m h.symm
    rintro σ H2 ⟨u5, rfl, bt, b2, os, lo, hlo, eH⟩
    have nHH : H Hl = none := none_same sA nHG
    have kB : But p H H2 := fun c o e n1 => bt c o (sB _ _ (sA _ _ e)) n1 fun z => by rw [z, nHH] at e; cases e
    have kG : But p HG H2 := fun c o e n1 => bt c o (sB _ _ e) n1 fun z => by rw [z, nHG] at e; cases e
    have hT2 : Tabs T H2 := K01.Tabs.but hT hb kB
    have k2 : Keep p H H2 := Keep.but kB
    have dO : Dp K (core p H2) (.ref aO) (.tuple [nD n, .tuple (as.map nD)]) := dp_same k2.core ho
    have dG : Dp K (core p H2) (.ref Gl) (.list [nD n, .list (as.map nD)]) := dp_same (Keep.but kG).core dG0
    have dH : Dp K (core p H2) (.ref Hl) (.list (os.map oD)) := .lst (seqL_core eH nHl) (dpAll_o os)
    have O1 : OpIs s n as (.tuple [nD n, .tuple (as.map nD)]) := ⟨rfl, ⟨_, rfl, rfl, rfl⟩, n1, n3, la, hlt⟩
    have O2 : OpIs s n as (.list [nD n, .list (as.map nD)]) := ⟨rfl, ⟨_, rfl, rfl, rfl⟩, n1, n3, la, hlt⟩
    have dz : nD s = .int s := rfl
    clear eHl bH kB kG dG0 nHG sB sA ht ntp bt nHH qO' qO ho hT hb da qA rO rA
    refine ⟨_, rfl, _, rfl, _, rfl, s, n, .ref aO, .ref Hl, as, os, rfl, dp_same core_le dO, dp_same core_le dH, by omega, n3, lo, la, hlo, fun H3 td va s3 etd dv => ?_⟩
    have b3 := b2.same s3
    have hT3 := hT2.ext s3
    have k3 : Keep p H H3 := k2.trans (Keep.of s3)
    have dD := due_core b3 etd dv
    have dO3 := dp_same (Keep.of s3).core dO
    have dG3 := dp_same (Keep.of s3).core dG
    have dH3 := dp_same (Keep.of s3).core dH
    have HI : HeldIs s n os (.list (os.map oD)) := ⟨rfl, rfl, lo, hlo⟩
    have HT : HeldIs s n os (.tuple (os.map oD)) := ⟨rfl, rfl, lo, hlo⟩
    refine ⟨_, rfl, _, rfl, _, rfl, .int s, .ref Gl, .ref Hl, nD s, _, _, rfl, .int _, dp_same core_le dG3, dp_same core_le dH3, .inr ⟨s, rfl, s2, by omega, .inr ⟨n, as, O2, .inr (.inr ⟨os, HI, (fun ds z => nomatch z), fun H4 t4 v4 s4 et4 dv4 nd4 => ?_⟩)⟩⟩⟩
    have b4 := b3.same s4
    have hT4 := hT3.ext s4
    have k4 : Keep p H H4 := k3.trans (Keep.of s4)
    refine ⟨_, rfl, _, _, dp_same core_le (due_core b4 et4 dv4), dp_same (core_le.trans s4) dD, shaped_held _ _, shaped_held _ _, _, rfl, ?_⟩
    rw [held_eq]
    refine go_f rfl ?_
    have dO4 := dp_same (Keep.of s4).core dO3
    have dG4 := dp_same (Keep.of s4).core dG3
    have dH4 := dp_same (Keep.of s4).core dH3
    have dD4 := dp_same (Keep.of s4).core dD
    have eH4 := s4 _ _ (s3 _ _ eH)
    clear dO dG dH dO3 dG3 dH3 dD nd4 dv4 et4 s4 s3 hT2 hT3 k2 k3 b2 b3 dv etd eH
    obtain ⟨aH, xH, eAH, qH, rH⟩ := dp_list dH4
    cases eAH
    refine ⟨_, rfl, Hl, xH, rfl, core_le.seq qH, fun q o hq ho => ?_⟩
    have s5 := same_new (o := .frz o (.tup xH)) hq
    refine ⟨_, rfl, _, rfl, .int s, .ref aO, .ref q, nD s, _, .tuple (os.map oD), rfl, .int _, dp_same (core_le.trans s5) dO4, .tup (.inl (.inr ⟨o, upd_same⟩)) (dpAll_same (core_le.trans s5) rH), .inr ⟨s, rfl, s2, by omega, .inr ⟨n, as, O1, .inr (.inr ⟨os, HT, (fun ds z => ⟨q, rfl, .inl ⟨o, xH, upd_same, ho⟩⟩), fun H5 s5' => ?_⟩)⟩⟩⟩
    have s45 := s5.trans s5'
    have b5 := b4.same s45
    have hT5 := hT4.ext s45
    have k5 : Keep p H H5 := k4.trans (Keep.of s45)
    have dO5 := dp_same (Keep.of s45).core dO4
    have dG5 := dp_same (Keep.of s45).core dG4
    have dH5 := dp_same (Keep.of s45).core dH4
    have dD5 := dp_same (Keep.of s45).core dD4
    have eH5 := s45 _ _ eH4
    clear dO4 dG4 dH4 dD4 s5 s5' s45 hq ho hT4 k4 b4 rH qH eH4
    have ne := heldAns_ne (s := s) (by omega) as os
    have hns := heldAns_lt (s := s) (by omega) hlt os
    have hnl := heldAns_len (s := s) as os
    obtain ⟨tdd, xD, eD, qD, rD⟩ := dp_tup dD5
    cases eD
    obtain ⟨aV, rfl, qV⟩ : ∃ aV, xD = [.int (cntN os : Nat), .ref aV] ∧ SqT K (core p H5) aV ((heldAns s as os).map fun n : Nat => V.int n) := by
      cases rD with
      | cons h0 r => cases r with
        | cons h1 r => cases r with
          | nil =>
            cases h0
            obtain ⟨aV, xV, rfl, qV, rV⟩ := dp_tup h1
            obtain rfl := dpAll_eqn rV
            exact ⟨aV, rfl, qV⟩
    have qD5 : SqT K H5 td [.int (cntN os : Nat), .ref aV] := seqT core_le qD
    have qV5 : SqT K H5 aV ((heldAns s as os).map fun n : Nat => V.int n) := seqT core_le qV
    have hcl : cntN os ≤ n := by rw [← lo]; exact List.countP_le_length
    have big : (heldAns s as os).length ≤ 4000 := by
      rw [hnl]
      have h1 : s ^ cntN os ≤ 4 ^ 3 := Nat.le_trans (Nat.pow_le_pow_left s4 _) (Nat.pow_le_pow_right (by decide) (by omega))
      have h2 : (4 : Nat) ^ 3 = 64 := by decide
      omega
    have lg : ∀ y ∈ heldAns s as os, ((y : Int)).natAbs.log2 < 1920 := fun y hy => by
      have := hns y hy
      have h4 : y < 4 := by omega
      have h5 : y = 0 ∨ y = 1 ∨ y = 2 ∨ y = 3 := by omega
      rcases h5 with rfl | rfl | rfl | rfl <;> decide
    have qI : SqT K H5 aV (((heldAns s as os).map fun n : Nat => (n : Int)).map V.int) := by
      rw [List.map_map]
      exact qV5
    have stepT : ∀ (Q' : Bool → Hp → Prop), (∀ b, b = alike (heldAns s as os) → Q' b H5) → ∀ m : Nat, (((heldAns s as os).map fun n : Nat => (n : Int)) ≠ [] → (m = 1 ↔ ∀ y ∈ (heldAns s as os).map (fun n : Nat => (n : Int)), y = ((heldAns s as os).map fun n : Nat => (n : Int)).headD 0)) → decide (V.int (m : Nat) = V.int 1) = alike (heldAns s as os) := fun Q' _ m hm => by
      have h1 := hm (by simpa using ne)
      rw [alike_int ne] at h1
      by_cases e : alike (heldAns s as os) = true
      · rw [e]
        exact decide_eq_true (by rw [h1.mpr e]; rfl)
      · rw [show alike (heldAns s as os) = false by simpa using e]
        exact decide_eq_false fun z => e (h1.mp (by injection z with z; omega))
    have hhd : (heldAns s as os).headD 0 ∈ heldAns s as os := by
      cases e : heldAns s as os with
      | nil => exact absurd e ne
      | cons a r => exact List.mem_cons_self ..
    have ah : (((heldAns s as os).map fun n : Nat => V.int n))[0]? = some (.int ((heldAns s as os).headD 0 : Nat)) := by
      cases e : heldAns s as os with
      | nil => exact absurd e ne
      | cons a r => rfl
    have six : ∀ (v7 : V) (QT : VK), v7 = settV s as os → QT (.bl false) H5 → tOp rNe (tCB rRepr (tCons (tVar 7) tNil)) (tCB rRepr (tCons (tIf (tTest (tOp rEq (tLenSetT K (tOp (rIxT K) (tVar 6) (tC (.int 1)))) (tC (.int 1)))) (tOp (rIxT K) (tOp (rIxT K) (tVar 6) (tC (.int 1))) (tC (.int 0))) (tC .non)) tNil))
        (([some (.ref p), some (.int s), some (.ref aO), some (.ref Gl), some (.ref Hl), u5, none, none, none, none, none, none, none, none, none, none].set 6 (some (.ref td))).set 7 (some v7)) H5 QT := by
      intro v7 QT e7 qf
      unfold settV at e7
      by_cases ha : alike (heldAns s as os) = true
      · rw [if_pos ha] at e7
        subst e7
        refine ⟨_, rfl, .inr ⟨_, rfl, lg _ hhd, ?_⟩⟩
        refine ⟨_, rfl, td, _, _, _, rfl, rfl, qD5, atI_nat (j := 1) rfl, aV, _, rfl, qI, by rw [List.length_map]; exact big, fun m hm => ⟨rfl, _, rfl, ?_⟩⟩
        rw [stepT (fun _ _ => True) (fun _ _ => trivial) m hm]
        refine go_t ha ?_
        refine ⟨_, rfl, td, _, _, _, rfl, rfl, qD5, atI_nat (j := 1) rfl, aV, _, _, _, rfl, rfl, qV5, atI_nat (j := 0) ah, .inr ⟨_, rfl, lg _ hhd, rfl, ?_⟩⟩
        rw [decide_eq_true rfl]
        exact qf
      · rw [if_neg ha] at e7
        subst e7
        refine ⟨_, rfl, .inl ⟨rfl, ?_⟩⟩
        refine ⟨_, rfl, td, _, _, _, rfl, rfl, qD5, atI_nat (j := 1) rfl, aV, _, rfl, qI, by rw [List.length_map]; exact big, fun m hm => ⟨rfl, _, rfl, ?_⟩⟩
        rw [stepT (fun _ _ => True) (fun _ _ => trivial) m hm]
        refine go_f (by simpa using ha) ?_
        refine .inl ⟨rfl, rfl, ?_⟩
        exact qf
    refine six _ _ rfl ⟨_, rfl, ?_⟩
    refine go_f rfl ?_
    clear six ah stepT qI
    obtain ⟨aH, yH, eAH, qY, rY⟩ := dp_list dH5
    cases eAH
    have lY : yH.length = os.length := by rw [dpAll_len rY, List.length_map]
    have qY5 : SqL K H5 Hl yH := core_le.seq qY
    have atY : ∀ {i : Nat} {x : V}, yH[i]? = some x → ∃ o, os[i]? = some o ∧ x = oV o := fun {i x} hx => by
      obtain ⟨dx, h1, h2⟩ := dpAll_get rY hx
      rw [List.getElem?_map] at h1
      cases e : os[i]? with
      | none =>
        rw [e] at h1
        cases h1
      | some o =>
        rw [e] at h1
        cases h1
        refine ⟨o, rfl, ?_⟩
        cases o <;> (cases h2; rfl)
    refine ⟨_, rfl, Hl, rfl, ⟨yH, qY5⟩, fun D hD => walk_it walk_list (fun i H' => But p H5 H' ∧ Box H' p ∧ ∃ fs : List (Option Nat), fs.length = i ∧ (∀ m, some m ∈ fs → m < s) ∧ Further (os.take i) fs ∧ H' D = some (.lst (fs.map oV)))
      ⟨(But.refl p H5).new hD, b5.ne (b5.fresh hD), [], rfl, (fun m h => nomatch h), trivial, upd_same⟩ (fun i H' _ q => (Keep.but q.1).core.seq qY |> core_le.seq) ?_ ?_⟩
    · rintro i x _ H6 hi ⟨bt6, b6, fs, lf, hlf, fu, eD⟩ ⟨rfl, hx⟩
      obtain ⟨o, hos, rfl⟩ := atY hx
      have nD := b5.fresh hD
      have fin : ∀ (H7 : Hp) (f : Option Nat), But p H6 H7 → Box H7 p → (∀ m, f = some m → m < s) → (∀ m, o = some m → f = some m) → ∃ acc, H7 D = some (.lst acc) ∧ acc.length < sizeLine ∧ (But p H5 (upd H7 D (.lst (acc ++ [oV f]))) ∧ Box (upd H7 D (.lst (acc ++ [oV f]))) p ∧
          ∃ fs : List (Option Nat), fs.length = i + 1 ∧ (∀ m, some m ∈ fs → m < s) ∧ Further (os.take (i + 1)) fs ∧ (upd H7 D (.lst (acc ++ [oV f]))) D = some (.lst (fs.map oV))) := by
        intro H7 f bt7 b7 hf hk
        refine ⟨_, bt7 D _ eD nD, by rw [List.length_map, lf, sizeLine_eq]; omega, (bt6.trans bt7).new hD, b7.ne nD, fs ++ [f], by rw [List.length_append, lf]; rfl, fun m hm => ?_, ?_, by rw [upd_same, List.map_append]; rfl⟩
        · rcases List.mem_append.mp hm with h | h
          · exact hlf m h
          · rw [List.mem_singleton] at h
            exact hf m h.symm
        · rw [take_more hos]
          exact further_snoc fu hk
      refine ⟨rfl, ?_⟩
      refine ⟨_, rfl, rfl, _, rfl, ?_⟩
      cases o with
      | some m =>
        refine go_t rfl ?_
        exact ⟨_, rfl, fin H6 (some m) (But.refl p H6) b6 (fun m' e => hlo m' (by rw [← e]; exact List.mem_of_getElem? hos)) fun m' e => e⟩
      | none =>
        refine go_f rfl ?_
        refine ⟨_, rfl, _, rfl, _, rfl, p, s, rfl, by omega, by omega, b6, fun H7 d bt7 b7 d0 d1 => ⟨(by show 2 ≤ sizeLine; decide), fun l hl => ?_⟩⟩
        obtain ⟨dn, rfl, hdn⟩ := nat_of d0 d1
        refine ⟨p, l, _, rfl, b7.fresh hl, b7.same (same_new hl), upd_same, by show 0 < 2; decide, by show 2 < 1000; decide, fun H8 v bt8 b8 hv => ?_⟩
        have bt := (bt7.trans (But.of (same_new hl))).trans bt8
        simp only [List.mem_cons, List.not_mem_nil, or_false] at hv
        rcases hv with rfl | rfl
        · exact fin H8 none bt b8 (fun m z => nomatch z) fun m z => nomatch z
        · exact fin H8 (some dn) bt b8 (fun m z => by cases z; omega) fun m z => nomatch z
    rintro H6 ⟨bt6, b6, fs, lf, hlf, fu, eF⟩
    have nFl := b5.fresh hD
    rw [lY, List.take_length] at fu
    have hT6 := K01.Tabs.but hT5 b5 bt6
    have k6 : Keep p H H6 := k5.trans (Keep.but bt6)
    have dO6 := dp_same (Keep.but bt6).core dO5
    have dG6 := dp_same (Keep.but bt6).core dG5
    have dH6 := dp_same (Keep.but bt6).core dH5
    have dD6 := dp_same (Keep.but bt6).core dD5
    have qY6 : SqL K H6 Hl yH := core_le.seq ((Keep.but bt6).core.seq qY)
    have lof : os.length = fs.length := (rest_len os fs fu).2.2
    generalize D = Fl at eF nFl
    refine ⟨_, rfl, Hl, yH, .L, rfl, qY6, fun D hD => walk_it (walk_enum2 (k := .L) (a := Hl) (xs := yH) (n := yH.length) rfl) (fun i H' => Same H6 H' ∧ H' D = some (.lst ((restO (os.take i) (fs.take i)).map oV))) ⟨same_new hD, upd_same⟩ (fun i H' _ q => q.1.seq qY6) ?_ ?_⟩
    · rintro i x H7 H8 hi ⟨s7, eD⟩ ⟨T1, x1, x2, rfl, hT1, rfl, hx1, hx2⟩
      obtain rfl : x1 = .int (i : Nat) := (Option.some.inj hx1).symm
      obtain ⟨o, hos, rfl⟩ := atY hx2
      obtain ⟨g, hfs⟩ : ∃ g, fs[i]? = some g := ⟨fs[i], List.getElem?_eq_getElem (by omega)⟩
      have s8 := same_new (o := .tup [.int (i : Nat), oV o]) hT1
      have er : restO (os.take (i + 1)) (fs.take (i + 1)) = restO (os.take i) (fs.take i) ++ (if o.isNone = true then [g] else []) := by
        rw [take_more hos, take_more hfs]
        exact restO_snoc (by rw [List.length_take, List.length_take]; omega)
      have eD8 := s8 _ _ eD
      refine ⟨T1, _, rfl, SqT.of upd_same, rfl, _, _, rfl, _, _, rfl, rfl, rfl, ?_⟩
      refine ⟨_, rfl, rfl, _, rfl, ?_⟩
      cases o with
      | none =>
        refine go_t rfl ?_
        refine ⟨_, rfl, _, rfl, Fl, _, _, oV g, rfl, rfl, SqL.of ((s7.trans s8) _ _ eF), atI_nat (by rw [List.getElem?_map, hfs]; rfl), ?_⟩
        refine ⟨_, eD8, ?_, same_of (s7.trans s8) hD, ?_⟩
        · rw [List.length_map, sizeLine_eq]
          have : ∀ a b : List (Option Nat), (restO a b).length ≤ a.length := fun a => by
            induction a with
            | nil => exact fun b => by cases b <;> exact Nat.le_refl _
            | cons a0 a ih =>
              intro b
              cases b with
              | nil => cases a0 <;> exact Nat.zero_le _
              | cons b0 b =>
                cases a0 with
                | none => exact Nat.succ_le_succ (ih b)
                | some _ => exact Nat.le_succ_of_le (ih b)
          have h1 := this (os.take i) (fs.take i)
          rw [List.length_take] at h1
          omega
        · rw [upd_same, er]
          show _ = some (HO.lst (List.map oV (restO (os.take i) (fs.take i) ++ [g])))
          rw [List.map_append]
          rfl
      | some m =>
        refine go_f rfl ?_
        refine ⟨s7.trans s8, ?_⟩
        rw [er, if_neg (by simp), List.append_nil]
        exact eD8
    rintro H7 ⟨s7, eR⟩
    rw [lY, List.take_length, show fs.take os.length = fs from by rw [lof]; exact List.take_length] at eR
    have nRl := b6.fresh hD
    generalize D = Rl at eR nRl
    have eH7 := s7 _ _ (bt6 Hl _ eH5 nHl)
    have b7 := b6.same s7
    have hT7 := hT6.ext s7
    have k7 : Keep p H H7 := k6.trans (Keep.of s7)
    have dO7 := dp_same (Keep.of s7).core dO6
    have dG7 := dp_same (Keep.of s7).core dG6
    have dH7 := dp_same (Keep.of s7).core dH6
    have dD7 := dp_same (Keep.of s7).core dD6
    have dF7 : Dp K (core p H7) (.ref Fl) (.list (fs.map oD)) := .lst (seqL_core (s7 _ _ eF) nFl) (dpAll_o fs)
    have dR7 : Dp K (core p H7) (.ref Rl) (.list ((restO os fs).map oD)) := .lst (seqL_core eR nRl) (dpAll_o _)
    have qD7 : SqT K H7 td [.int (cntN os : Nat), .ref aV] := seqT core_le (seqT (((Keep.but bt6).trans (Keep.of s7)).core) qD)
    obtain ⟨rl1, rl2, _⟩ := rest_len os fs fu
    have next : ∀ (H' : Hp) (QQ : Bool → Hp → Prop), Same H7 H' → (∀ H'', Same H7 H'' → QQ false H'') → QQ false H' := fun H' QQ s' q => q H' s'
    refine ⟨_, rfl, td, _, _, _, rfl, rfl, qD7, atI_nat (j := 0) rfl, _, _, rfl, rfl, _, rfl, ?_⟩
    have nine : ∀ (QQ : Bool → Hp → Prop), (∀ H'', Same H7 H'' → QQ false H'') → if decide ((0 : Int) < (cntN os : Nat)) = true then tTest (tOp (rNeD K) (tCall (spHT K cO cV cS) [] (fun _ _ _ => False) (tCons (tVar 1) (tCons (tVar 6) (tCons (tVar 9) tNil)))) (tCall (spHeldL K) [] E0 (tCons (tVar 1) (tCons (tVar 2) (tCons (tVar 8) tNil)))))
        (((([some (.ref p), some (.int s), some (.ref aO), some (.ref Gl), some (.ref Hl), u5, none, none, none, none, none, none, none, none, none, none].set 6 (some (.ref td))).set 7 (some (settV s as os))).set 8 (some (.ref Fl))).set 9 (some (.ref Rl))) H7 QQ else QQ false H7 := by
      intro QQ kq
      by_cases h0 : 0 < cntN os
      · refine go_t (decide_eq_true (by omega)) ?_
        have OD : OpIs s (cntN os) (heldAns s as os) (.tuple [nD (cntN os), .tuple ((heldAns s as os).map nD)]) := ⟨rfl, ⟨_, rfl, rfl, rfl⟩, h0, by omega, hnl, hns⟩
        have HR : HeldIs s (cntN os) (restO os fs) (.list ((restO os fs).map oD)) := ⟨rfl, rfl, rl1, fun m hm => hlf m (rest_mem os fs _ hm)⟩
        refine ⟨_, rfl, _, rfl, _, rfl, .int s, .ref td, .ref Rl, nD s, _, _, rfl, .int _, dp_same core_le dD7, dp_same core_le dR7, .inr ⟨s, rfl, s2, by omega, .inr ⟨cntN os, heldAns s as os, OD, .inr (.inr ⟨restO os fs, HR, (fun ds z => nomatch z), fun H8 t8 v8 s8 et8 dv8 _ => ?_⟩)⟩⟩⟩
        refine ⟨_, rfl, _, rfl, _, rfl, s, n, .ref aO, .ref Fl, as, fs, rfl, dp_same (core_le.trans s8) dO7, dp_same (core_le.trans s8) dF7, by omega, n3, by omega, la, hlf, fun H9 t9 v9 s9 et9 dv9 => ?_⟩
        have b8 := b7.same s8
        have b9 := b8.same s9
        rw [held_twice as fu hlf, rl2] at *
        refine ⟨_, _, dp_same (core_le.trans s9) (due_core b8 et8 dv8), dp_same core_le (due_core b9 et9 dv9), shaped_held _ _, shaped_held _ _, _, rfl, ?_⟩
        rw [held_eq]
        exact kq H9 (s8.trans s9)
      · refine go_f (decide_eq_false (by omega)) ?_
        exact kq H7 (Same.refl H7)
    refine nine _ fun H8 s8 => ?_
    refine go_f rfl ?_
    clear nine next hlf fu rl1 rl2 dF7 dR7 eR eF dD7
    have b8 := b7.same s8
    have hT8 := hT7.ext s8
    have k8 : Keep p H H8 := k7.trans (Keep.of s8)
    have dO8 := dp_same (Keep.of s8).core dO7
    have dG8 := dp_same (Keep.of s8).core dG7
    have dH8 := dp_same (Keep.of s8).core dH7
    have eH8 := s8 _ _ eH7
    clear dO7 dG7 dH7 hT7 k7 b7 s8 eH7 eH5
    obtain ⟨va8, qO8⟩ : ∃ va8, SqT K (core p H8) aO [.int (n : Int), va8] := by
      obtain ⟨a, xO, e, q, r⟩ := dp_tup dO8
      cases e
      cases r with
      | cons h0 r => cases r with
        | cons h1 r => cases r with
          | nil =>
            cases h0
            exact ⟨_, q⟩
    obtain ⟨aH8, xH8, eAH, qH8, rH8⟩ := dp_list dH8
    cases eAH
    obtain rfl := dpAll_eqo rH8
    refine ⟨_, rfl, _, rfl, aO, _, _, _, rfl, rfl, seqT core_le qO8, atI_nat (j := 0) rfl, p, n, rfl, by omega, by omega, b8, fun H9 d bt9 b9 d0 d1 => ?_⟩
    obtain ⟨j, rfl, hj⟩ := nat_of d0 d1
    have hjn : j < os.length := by omega
    have hT9 := K01.Tabs.but hT8 b8 bt9
    have eH9 := bt9 Hl _ eH8 nHl
    have k9 : Keep p H H9 := k8.trans (Keep.but bt9)
    have dO9 := dp_same (Keep.but bt9).core dO8
    have dG9 := dp_same (Keep.but bt9).core dG8
    have dH9 := dp_same (Keep.but bt9).core dH8
    have qH9 : SqL K (core p H9) Hl (os.map oV) := (Keep.but bt9).core.seq qH8
    clear dO8 dG8 dH8 hT8 k8 b8 bt9 qO8 qH8
    refine ⟨_, rfl, _, rfl, (j : Int), rfl, Hl, os.map oV, rfl, core_le.seq qH9, fun a1 ha1 => ?_⟩
    rw [cut_lo _ (by rw [List.length_map]; omega)]
    have s9a := same_new (o := .lst ((os.map oV).take j)) ha1
    have n1p := b9.fresh ha1
    have b9a := b9.same s9a
    have e1 : upd H9 a1 (.lst ((os.map oV).take j)) a1 = some (.lst ((os.map oV).take j)) := upd_same
    generalize upd H9 a1 (.lst ((os.map oV).take j)) = H9a at e1 s9a b9a
    refine ⟨_, rfl, _, rfl, _, rfl, (by show 1 ≤ sizeLine; decide), fun tz htz => ⟨(by show 5 ≤ sizeLine; decide), fun l5 hl5 => ?_⟩⟩
    have ntz := b9a.fresh htz
    have s9b := same_new (o := .tup [V.int 0]) htz
    have b9b := b9a.same s9b
    have etz : upd H9a tz (.tup [V.int 0]) tz = some (.tup [V.int 0]) := upd_same
    generalize upd H9a tz (.tup [V.int 0]) = H9b at etz s9b b9b hl5
    refine ⟨p, l5, _, rfl, b9b.fresh hl5, b9b.same (same_new hl5), upd_same, by show 0 < 5; decide, by show 5 < 1000; decide, fun H10 v bt10 b10 hv => ?_⟩
    have bt : But p H9b H10 := (But.of (same_new hl5)).trans bt10
    have s910 : Keep p H9 H10 := (Keep.of (s9a.trans s9b)).trans (Keep.but bt)
    obtain ⟨bd, hbd, dv⟩ : ∃ bd, badD s bd ∧ Dp K (core p H10) v bd := by
      simp only [List.mem_cons, List.not_mem_nil, or_false] at hv
      rcases hv with rfl | rfl | rfl | rfl | rfl
      · exact ⟨_, .inl rfl, .int _⟩
      · exact ⟨_, .inr (.inl rfl), .int _⟩
      · exact ⟨_, .inr (.inr (.inl rfl)), .bl _⟩
      · exact ⟨_, .inr (.inr (.inr (.inl rfl))), .str _⟩
      · exact ⟨_, .inr (.inr (.inr (.inr rfl))), .tup (seqT_core (bt tz _ etz ntz) ntz) (.cons (.int 0) .nil)⟩
    have e1' : H10 a1 = some (.lst ((os.map oV).take j)) := bt a1 _ (s9b _ _ e1) n1p
    refine ⟨(by show 1 ≤ sizeLine; decide), fun a2 ha2 => ⟨a1, a2, _, _, rfl, rfl, same_new ha2 _ _ e1', upd_same, ?_, fun a3 ha3 => ?_⟩⟩
    · rw [List.length_take, List.length_map, sizeLine_eq]
      show min j os.length + 1 ≤ _
      omega
    have s10 := (same_new (o := .lst [v]) ha2).trans (same_new (o := .lst ((os.map oV).take j ++ [v])) ha3)
    have b10a := b10.same s10
    have e3 : upd (upd H10 a2 (.lst [v])) a3 (.lst ((os.map oV).take j ++ [v])) a3 = some (.lst ((os.map oV).take j ++ [v])) := upd_same
    generalize upd (upd H10 a2 (.lst [v])) a3 (.lst ((os.map oV).take j ++ [v])) = H10a at e3 s10 b10a
    have k10 : Keep p H9 H10a := s910.trans (Keep.of s10)
    refine ⟨_, rfl, _, rfl, _, _, rfl, rfl, ((j + 1 : Nat) : Int), (by show V.int ((j : Int) + 1) = _; rfl), Hl, os.map oV, rfl, core_le.seq (k10.core.seq qH9), fun a4 ha4 => ?_⟩
    rw [cut_hi]
    refine ⟨a3, a4, _, _, rfl, rfl, same_new ha4 _ _ e3, upd_same, ?_, fun Ol hOl => ?_⟩
    · rw [List.length_append, List.length_take, List.length_drop, List.length_map, sizeLine_eq]
      show min j os.length + 1 + (os.length - (j + 1)) ≤ _
      omega
    have s11 := (same_new (o := .lst ((os.map oV).drop (j + 1))) ha4).trans (same_new (o := .lst ((os.map oV).take j ++ [v] ++ (os.map oV).drop (j + 1))) hOl)
    have b11 := b10a.same s11
    have nOl := (b10a.same (same_new (o := .lst ((os.map oV).drop (j + 1))) ha4)).fresh hOl
    have eOl : upd (upd H10a a4 (.lst ((os.map oV).drop (j + 1)))) Ol (.lst ((os.map oV).take j ++ [v] ++ (os.map oV).drop (j + 1))) Ol = some (.lst ((os.map oV).take j ++ [v] ++ (os.map oV).drop (j + 1))) := upd_same
    generalize upd (upd H10a a4 (.lst ((os.map oV).drop (j + 1)))) Ol (.lst ((os.map oV).take j ++ [v] ++ (os.map oV).drop (j + 1))) = H11 at eOl s11 b11
    have hT11 : Tabs T H11 := ((K01.Tabs.but ((hT9.ext s9a).ext s9b) b9b bt).ext s10).ext s11
    have k11 : Keep p H9 H11 := k10.trans (Keep.of s11)
    have kH : Keep p H H11 := k9.trans k11
    have eH11 := k11 Hl _ eH9 nHl (fun _ z => nomatch z) (fun _ z => nomatch z)
    have dO := dp_same k11.core dO9
    have dG := dp_same k11.core dG9
    have dHl := dp_same k11.core dH9
    have dv11 := dp_same ((Keep.of s10).trans (Keep.of s11)).core dv
    have dOd : Dp K (core p H11) (.ref Ol) (.list ((os.take j).map oD ++ [bd] ++ (os.drop (j + 1)).map oD)) := by
      refine .lst (seqL_core eOl nOl) ?_
      rw [← List.map_take, ← List.map_drop]
      exact dpAll_app (dpAll_app (dpAll_o _) (.cons dv11 .nil)) (dpAll_o _)
    have oRow : isRow n (.list ((os.take j).map oD ++ [bd] ++ (os.drop (j + 1)).map oD)) = true := by
      unfold isRow
      show (true && decide ((((os.take j).map oD ++ [bd] ++ (os.drop (j + 1)).map oD).length : Int) = n)) = true
      rw [List.length_append, List.length_append, List.length_map, List.length_map, List.length_take, List.length_drop, List.length_singleton]
      exact decide_eq_true (by omega)
    have oBad : (items (.list ((os.take j).map oD ++ [bd] ++ (os.drop (j + 1)).map oD)))[j]? = some bd := by
      show ((os.take j).map oD ++ [bd] ++ (os.drop (j + 1)).map oD)[j]? = some bd
      rw [List.getElem?_append_left (by rw [List.length_append, List.length_map, List.length_take, List.length_singleton]; omega), List.getElem?_append_right (by rw [List.length_map, List.length_take]; omega), List.length_map, List.length_take, Nat.min_eq_left (by omega), Nat.sub_self]
      rfl
    have oOk : ∀ i : Nat, i < j → ∀ y, (items (.list ((os.take j).map oD ++ [bd] ++ (os.drop (j + 1)).map oD)))[i]? = some y → okH s y = true := by
      intro i hi y hy
      have hy : ((os.take j).map oD ++ [bd] ++ (os.drop (j + 1)).map oD)[i]? = some y := hy
      rw [List.getElem?_append_left (by rw [List.length_append, List.length_map, List.length_take, List.length_singleton]; omega), List.getElem?_append_left (by rw [List.length_map, List.length_take]; omega)] at hy
      refine HI.ok i y ?_
      show (os.map oD)[i]? = some y
      rw [List.getElem?_map] at hy ⊢
      rw [List.getElem?_take, if_pos hi] at hy
      exact hy
    clear dO9 dG9 dH9 hT9 k9 k10 s910 bt bt10 s9a s9b s10 s11 e1 e1' e3 eOl etz dv dv11 b9 b9a b9b b10 b10a qH9 ha1 ha2 ha3 ha4 hOl htz hl5 hv
    refine ⟨[], tf_nil hT11, (fun x h => nomatch h), fun f1 c1 H12 x12 T12 nf1 nc1 ef1 ec1 => ?_⟩
    have b12 := b11.ext x12
    have k12 : Keep p H11 H12 := Keep.ext x12
    refine ⟨_, rfl, (by show 2 ≤ sizeLine; decide), fun t1 ht1 => ⟨(by show 2 ≤ sizeLine; decide), fun w1 hw1 => ⟨(by show 1 ≤ sizeLine; decide), fun Wl hWl => ?_⟩⟩⟩
    have s12 : Same H12 (upd (upd (upd H12 t1 (.tup [.str "values", .int (j : Int)])) w1 (.tup [.ref f1, .ref t1])) Wl (.lst [.ref w1])) := (same_new ht1).trans ((same_new hw1).trans (same_new hWl))
    have S1 : Stored qHR (upd (upd (upd H12 t1 (.tup [.str "values", .int (j : Int)])) w1 (.tup [.ref f1, .ref t1])) Wl (.lst [.ref w1])) w1 f1 c1 t1 [.str "values", .int (j : Int)] _ _ _ _ := ⟨same_new hWl _ _ upd_same, same_new hWl _ _ (same_new hw1 _ _ upd_same), s12 _ _ ef1, s12 _ _ ec1⟩
    have nW : ∀ u, H11 Wl = some u → (∀ ps, u ≠ .tbl ps) → False := none_ext x12 (none_same ((same_new ht1).trans (same_new hw1)) hWl)
    have nWp : Wl ≠ p := (b12.same ((same_new ht1).trans (same_new hw1))).fresh hWl
    have bE1 := b12.same s12
    have kE1 := k12.trans (Keep.of (p := p) s12)
    have tf1 := tf_same T12 s12
    have eW1 : (upd (upd (upd H12 t1 (.tup [.str "values", .int (j : Int)])) w1 (.tup [.ref f1, .ref t1])) Wl (.lst [.ref w1])) Wl = some (.lst [.ref w1]) := upd_same
    generalize (upd (upd (upd H12 t1 (.tup [.str "values", .int (j : Int)])) w1 (.tup [.ref f1, .ref t1])) Wl (.lst [.ref w1])) = E1 at S1 bE1 kE1 tf1 eW1
    have nn1 : ∀ x ∈ [f1], E1 x ≠ none := by
      intro x hx
      rw [List.mem_singleton.mp hx, S1.f]
      exact fun z => nomatch z
    refine ⟨_, rfl, .inl ⟨rfl, _, SqL.of eW1⟩, [f1], tf1, nn1, fun f2 c2 G2 x2 tg2 nf2 nc2 ef2 ec2 => ?_⟩
    refine ⟨_, rfl, (by show 2 ≤ sizeLine; decide), fun t2 ht2 => ⟨(by show 2 ≤ sizeLine; decide), fun w2 hw2 => ?_⟩⟩
    have sg2 := (same_new (o := .tup [.str "values", .int (-1)]) ht2).trans (same_new (o := .tup [.ref f2, .ref t2]) hw2)
    have eg2 := sg2 _ _ (x2 _ _ eW1 fun _ z => nomatch z)
    have nl2 : NL E1 (upd (upd (upd G2 t2 (.tup [.str "values", .int (-1)])) w2 (.tup [.ref f2, .ref t2])) Wl (.lst ([.ref w1] ++ [.ref w2]))) := (NL.ext x2).trans ((NL.of sg2).trans (NL.put eg2))
    have nn : (upd (upd (upd G2 t2 (.tup [.str "values", .int (-1)])) w2 (.tup [.ref f2, .ref t2])) Wl (.lst ([.ref w1] ++ [.ref w2]))) Wl = some (.lst [.ref w1, .ref w2]) := upd_same
    have ng2 : NL G2 (upd (upd (upd G2 t2 (.tup [.str "values", .int (-1)])) w2 (.tup [.ref f2, .ref t2])) Wl (.lst ([.ref w1] ++ [.ref w2]))) := (NL.of sg2).trans (NL.put eg2)
    have S2 : Stored qHR (upd (upd (upd G2 t2 (.tup [.str "values", .int (-1)])) w2 (.tup [.ref f2, .ref t2])) Wl (.lst ([.ref w1] ++ [.ref w2]))) w2 f2 c2 t2 [.str "values", .int (-1)] _ _ _ _ :=
      ⟨NL.put eg2 _ _ upd_same (fun _ z => nomatch z) (fun _ z => nomatch z), NL.put eg2 _ _ (same_new hw2 _ _ upd_same) (fun _ z => nomatch z) (fun _ z => nomatch z), ng2 _ _ ef2 lamO_lst lamO_tbl, ng2 _ _ ec2 codeO_lst codeO_ne⟩
    have bE2 : Box (upd (upd (upd G2 t2 (.tup [.str "values", .int (-1)])) w2 (.tup [.ref f2, .ref t2])) Wl (.lst ([.ref w1] ++ [.ref w2]))) p := ((bE1.ext x2).same sg2).ne nWp
    have kE2 : Keep p H11 (upd (upd (upd G2 t2 (.tup [.str "values", .int (-1)])) w2 (.tup [.ref f2, .ref t2])) Wl (.lst ([.ref w1] ++ [.ref w2]))) := ((kE1.trans (Keep.ext x2)).trans (Keep.of sg2)).put nW
    have tf2 : Tabs T (forg [f2, f1] (upd (upd (upd G2 t2 (.tup [.str "values", .int (-1)])) w2 (.tup [.ref f2, .ref t2])) Wl (.lst ([.ref w1] ++ [.ref w2])))) := tf_put (tf_same tg2 sg2) eg2
    have df2_1 : f1 ≠ f2 := ne_of_none S1.f nf2
    have dc2_1 : c1 ≠ f2 := ne_of_none S1.c nf2
    have S1 := S1.nl nl2
    refine ⟨Wl, _, _, rfl, rfl, eg2, (by show 1 < sizeLine; rw [sizeLine_eq]; decide), ?_⟩
    generalize (upd (upd (upd G2 t2 (.tup [.str "values", .int (-1)])) w2 (.tup [.ref f2, .ref t2])) Wl (.lst ([.ref w1] ++ [.ref w2]))) = E2 at nn S1 S2 bE2 kE2 tf2
    have eW2 := nn
    clear nn
    have nn2 : ∀ x ∈ [f2, f1], E2 x ≠ none := by
      intro x hx
      simp only [List.mem_cons, List.not_mem_nil, or_false] at hx
      rcases hx with rfl | rfl
      · rw [S2.f]; exact fun z => nomatch z
      · rw [S1.f]; exact fun z => nomatch z
    refine ⟨_, rfl, .inl ⟨rfl, _, SqL.of eW2⟩, [f2, f1], tf2, nn2, fun f3 c3 G3 x3 tg3 nf3 nc3 ef3 ec3 => ?_⟩
    refine ⟨(by show 2 ≤ sizeLine; decide), fun t3 ht3 => ⟨(by show 2 ≤ sizeLine; decide), fun w3 hw3 => ?_⟩⟩
    have sg3 := (same_new (o := .tup [.str "size", .str "size"]) ht3).trans (same_new (o := .tup [.ref f3, .ref t3]) hw3)
    have eg3 := sg3 _ _ (x3 _ _ eW2 fun _ z => nomatch z)
    have nl3 : NL E2 (upd (upd (upd G3 t3 (.tup [.str "size", .str "size"])) w3 (.tup [.ref f3, .ref t3])) Wl (.lst ([.ref w1, .ref w2] ++ [.ref w3]))) := (NL.ext x3).trans ((NL.of sg3).trans (NL.put eg3))
    have nn : (upd (upd (upd G3 t3 (.tup [.str "size", .str "size"])) w3 (.tup [.ref f3, .ref t3])) Wl (.lst ([.ref w1, .ref w2] ++ [.ref w3]))) Wl = some (.lst [.ref w1, .ref w2, .ref w3]) := upd_same
    have ng3 : NL G3 (upd (upd (upd G3 t3 (.tup [.str "size", .str "size"])) w3 (.tup [.ref f3, .ref t3])) Wl (.lst ([.ref w1, .ref w2] ++ [.ref w3]))) := (NL.of sg3).trans (NL.put eg3)
    have S3 : Stored qHR (upd (upd (upd G3 t3 (.tup [.str "size", .str "size"])) w3 (.tup [.ref f3, .ref t3])) Wl (.lst ([.ref w1, .ref w2] ++ [.ref w3]))) w3 f3 c3 t3 [.str "size", .str "size"] _ _ _ _ :=
      ⟨NL.put eg3 _ _ upd_same (fun _ z => nomatch z) (fun _ z => nomatch z), NL.put eg3 _ _ (same_new hw3 _ _ upd_same) (fun _ z => nomatch z) (fun _ z => nomatch z), ng3 _ _ ef3 lamO_lst lamO_tbl, ng3 _ _ ec3 codeO_lst codeO_ne⟩
    have bE3 : Box (upd (upd (upd G3 t3 (.tup [.str "size", .str "size"])) w3 (.tup [.ref f3, .ref t3])) Wl (.lst ([.ref w1, .ref w2] ++ [.ref w3]))) p := ((bE2.ext x3).same sg3).ne nWp
    have kE3 : Keep p H11 (upd (upd (upd G3 t3 (.tup [.str "size", .str "size"])) w3 (.tup [.ref f3, .ref t3])) Wl (.lst ([.ref w1, .ref w2] ++ [.ref w3]))) := ((kE2.trans (Keep.ext x3)).trans (Keep.of sg3)).put nW
    have tf3 : Tabs T (forg [f3, f2, f1] (upd (upd (upd G3 t3 (.tup [.str "size", .str "size"])) w3 (.tup [.ref f3, .ref t3])) Wl (.lst ([.ref w1, .ref w2] ++ [.ref w3])))) := tf_put (tf_same tg3 sg3) eg3
    have df3_1 : f1 ≠ f3 := ne_of_none S1.f nf3
    have dc3_1 : c1 ≠ f3 := ne_of_none S1.c nf3
    have df3_2 : f2 ≠ f3 := ne_of_none S2.f nf3
    have dc3_2 : c2 ≠ f3 := ne_of_none S2.c nf3
    have S1 := S1.nl nl3
    have S2 := S2.nl nl3
    refine ⟨Wl, _, _, rfl, rfl, eg3, (by show 2 < sizeLine; rw [sizeLine_eq]; decide), ?_⟩
    generalize (upd (upd (upd G3 t3 (.tup [.str "size", .str "size"])) w3 (.tup [.ref f3, .ref t3])) Wl (.lst ([.ref w1, .ref w2] ++ [.ref w3]))) = E3 at nn S1 S2 S3 bE3 kE3 tf3
    have eW3 := nn
    clear nn
    have nn3 : ∀ x ∈ [f3, f2, f1], E3 x ≠ none := by
      intro x hx
      simp only [List.mem_cons, List.not_mem_nil, or_false] at hx
      rcases hx with rfl | rfl | rfl
      · rw [S3.f]; exact fun z => nomatch z
      · rw [S2.f]; exact fun z => nomatch z
      · rw [S1.f]; exact fun z => nomatch z
    refine ⟨_, rfl, .inl ⟨rfl, _, SqL.of eW3⟩, [f3, f2, f1], tf3, nn3, fun f4 c4 G4 x4 tg4 nf4 nc4 ef4 ec4 => ?_⟩
    refine ⟨_, rfl, (by show 2 ≤ sizeLine; decide), fun t4 ht4 => ⟨(by show 2 ≤ sizeLine; decide), fun w4 hw4 => ?_⟩⟩
    have sg4 := (same_new (o := .tup [.str "operation", .int (-1)]) ht4).trans (same_new (o := .tup [.ref f4, .ref t4]) hw4)
    have eg4 := sg4 _ _ (x4 _ _ eW3 fun _ z => nomatch z)
    have nl4 : NL E3 (upd (upd (upd G4 t4 (.tup [.str "operation", .int (-1)])) w4 (.tup [.ref f4, .ref t4])) Wl (.lst ([.ref w1, .ref w2, .ref w3] ++ [.ref w4]))) := (NL.ext x4).trans ((NL.of sg4).trans (NL.put eg4))
    have nn : (upd (upd (upd G4 t4 (.tup [.str "operation", .int (-1)])) w4 (.tup [.ref f4, .ref t4])) Wl (.lst ([.ref w1, .ref w2, .ref w3] ++ [.ref w4]))) Wl = some (.lst [.ref w1, .ref w2, .ref w3, .ref w4]) := upd_same
    have ng4 : NL G4 (upd (upd (upd G4 t4 (.tup [.str "operation", .int (-1)])) w4 (.tup [.ref f4, .ref t4])) Wl (.lst ([.ref w1, .ref w2, .ref w3] ++ [.ref w4]))) := (NL.of sg4).trans (NL.put eg4)
    have S4 : Stored qHR (upd (upd (upd G4 t4 (.tup [.str "operation", .int (-1)])) w4 (.tup [.ref f4, .ref t4])) Wl (.lst ([.ref w1, .ref w2, .ref w3] ++ [.ref w4]))) w4 f4 c4 t4 [.str "operation", .int (-1)] _ _ _ _ :=
      ⟨NL.put eg4 _ _ upd_same (fun _ z => nomatch z) (fun _ z => nomatch z), NL.put eg4 _ _ (same_new hw4 _ _ upd_same) (fun _ z => nomatch z) (fun _ z => nomatch z), ng4 _ _ ef4 lamO_lst lamO_tbl, ng4 _ _ ec4 codeO_lst codeO_ne⟩
    have bE4 : Box (upd (upd (upd G4 t4 (.tup [.str "operation", .int (-1)])) w4 (.tup [.ref f4, .ref t4])) Wl (.lst ([.ref w1, .ref w2, .ref w3] ++ [.ref w4]))) p := ((bE3.ext x4).same sg4).ne nWp
    have kE4 : Keep p H11 (upd (upd (upd G4 t4 (.tup [.str "operation", .int (-1)])) w4 (.tup [.ref f4, .ref t4])) Wl (.lst ([.ref w1, .ref w2, .ref w3] ++ [.ref w4]))) := ((kE3.trans (Keep.ext x4)).trans (Keep.of sg4)).put nW
    have tf4 : Tabs T (forg [f4, f3, f2, f1] (upd (upd (upd G4 t4 (.tup [.str "operation", .int (-1)])) w4 (.tup [.ref f4, .ref t4])) Wl (.lst ([.ref w1, .ref w2, .ref w3] ++ [.ref w4])))) := tf_put (tf_same tg4 sg4) eg4
    have df4_1 : f1 ≠ f4 := ne_of_none S1.f nf4
    have dc4_1 : c1 ≠ f4 := ne_of_none S1.c nf4
    have df4_2 : f2 ≠ f4 := ne_of_none S2.f nf4
    have dc4_2 : c2 ≠ f4 := ne_of_none S2.c nf4
    have df4_3 : f3 ≠ f4 := ne_of_none S3.f nf4
    have dc4_3 : c3 ≠ f4 := ne_of_none S3.c nf4
    have S1 := S1.nl nl4
    have S2 := S2.nl nl4
    have S3 := S3.nl nl4
    refine ⟨Wl, _, _, rfl, rfl, eg4, (by show 3 < sizeLine; rw [sizeLine_eq]; decide), ?_⟩
    generalize (upd (upd (upd G4 t4 (.tup [.str "operation", .int (-1)])) w4 (.tup [.ref f4, .ref t4])) Wl (.lst ([.ref w1, .ref w2, .ref w3] ++ [.ref w4]))) = E4 at nn S1 S2 S3 S4 bE4 kE4 tf4
    have eW4 := nn
    clear nn
    have nn4 : ∀ x ∈ [f4, f3, f2, f1], E4 x ≠ none := by
      intro x hx
      simp only [List.mem_cons, List.not_mem_nil, or_false] at hx
      rcases hx with rfl | rfl | rfl | rfl
      · rw [S4.f]; exact fun z => nomatch z
      · rw [S3.f]; exact fun z => nomatch z
      · rw [S2.f]; exact fun z => nomatch z
      · rw [S1.f]; exact fun z => nomatch z
    clear nn1 nn2 nn3 nn4 eW1 eW2 eW3 tf1 tf2 tf3 bE1 bE2 bE3 kE1 kE2 kE3
    refine ⟨_, rfl, Wl, rfl, ⟨_, SqL.of eW4⟩, fun D hD sb pb Ib => walk_it walk_list (fun i H' => PvB T [f4, f3, f2, f1] p Wl D [.ref w1, .ref w2, .ref w3, .ref w4] H11 H' ∧ (i ≤ 0 → Stored qHR H' w1 f1 c1 t1 [.str "values", .int (j : Int)] _ _ _ _) ∧ (i ≤ 1 → Stored qHR H' w2 f2 c2 t2 [.str "values", .int (-1)] _ _ _ _) ∧ (i ≤ 2 → Stored qHR H' w3 f3 c3 t3 [.str "size", .str "size"] _ _ _ _) ∧ (i ≤ 3 → Stored qHR H' w4 f4 c4 t4 [.str "operation", .int (-1)] _ _ _ _))
      ⟨⟨kE4.trans (Keep.of (same_new hD)), bE4.same (same_new hD), tf_same tf4 (same_new hD), same_new hD _ _ eW4, upd_same⟩, fun _ => S1.nl (NL.of (same_new hD)), fun _ => S2.nl (NL.of (same_new hD)), fun _ => S3.nl (NL.of (same_new hD)), fun _ => S4.nl (NL.of (same_new hD))⟩ (fun i H' _ q => SqL.of q.1.w) ?_ ?_⟩
    · rintro i x _ Hc hi ⟨pB, p1, p2, p3, p4⟩ ⟨rfl, hx⟩
      have nDp : D ≠ p := bE4.fresh hD
      have hi4 : i < 4 := hi
      have told : ∀ {g t' : Addr} {φ : Heap → Prop} {ts : List V} {H7 H8 : Hp}, Hc g = some (.ext φ) → Hc t' = some (.tup ts) → Box (offA Hc g) p → But p (offA Hc g) H7 → Same H7 H8 → H8 t' = some (.tup ts) := fun {g t' φ ts H7 H8} e et b s1 s2 => by
        obtain ⟨a1, a2, a3, ep⟩ := b
        have e1 : offA Hc g t' = some (.tup ts) := by
          rw [offA_of fun z => by rw [z, e] at et; cases et]
          exact et
        exact s2 _ _ (s1 _ _ e1 fun z => by rw [z, ep] at e1; cases e1)
      have boxo : ∀ {g : Addr} {φ : Heap → Prop}, Hc g = some (.ext φ) → Box (offA Hc g) p := fun {g φ} e => by
        obtain ⟨a1, a2, a3, ep⟩ := pB.b
        exact ⟨a1, a2, a3, by rw [offA_of fun z => by rw [z, e] at ep; cases ep]; exact ep⟩
      obtain rfl | rfl | rfl | rfl : i = 0 ∨ i = 1 ∨ i = 2 ∨ i = 3 := by omega
      · obtain rfl : V.ref w1 = x := Option.some.inj hx
        have S := p1 (by omega)
        refine ⟨w1, _, rfl, SqT.of S.w, rfl, _, _, rfl, _, _, rfl, rfl, rfl, ?_⟩
        refine ⟨_, f1, c1, _, _, _, (fun E => tCallS (spHT K cO cV cS) (WE fun cls d _ H' => E cls d H') (tCons (tVar 1) (tCons (tVar 2) (tCons (tVar 11) tNil)))), noPins Ib, ⟨lamS_by (sc := defScope sHR) (by decide +kernel), fun _ _ _ _ _ => rfl,
          fun A outer s H E f c' hr2 => by exact pe_callS G.gHeld (hr2.mono (by decide)) (by rfl) G.held.g G.held.F.kp G.held.b (fun σ => passAt (takes_of rfl rfl rfl rfl) σ) (by exact (pa_cons (pv 1) (pa_cons (pv 2) (pa_cons (pv 11) pa_nil))))⟩, rfl, S.f, S.c, (fun z => nc1 (by rw [z]; exact List.mem_cons_self ..)), ?_⟩
        have kc : Keep p H11 (offA Hc f1) := pB.k.trans (Keep.offA S.f)
        have bo := boxo S.f
        refine ⟨_, rfl, _, rfl, _, rfl, .int s, .ref aO, .ref Ol, nD s, _, _, rfl, .int _, dp_same core_le (dp_same kc.core dO), dp_same core_le (dp_same kc.core dOd), .inr ⟨s, rfl, s2, by omega, .inr ⟨n, as, O1, .inr (.inl ⟨oRow, j, bd, oBad, bad_no hbd, oOk, ?_⟩)⟩⟩⟩
        intro H7 dd HS hdd
        refine .inr (.inr (.inl ⟨rfl, dd, _, rfl, upd_same, fun t ht => ?_⟩))
        have HB : But p (offA Hc f1) (offA Hc f1) := But.refl p _
        have bX := bo
        refine ⟨_, rfl, _, _, .tup (SqT.of upd_same) (.cons (.str _) (.cons (.int _) .nil)), .tup (SqT.of (told S.f S.t (boxo S.f) HB ((HS.trans (same_new (o := .xd [("at", .int (j : Int))]) hdd)).trans (same_new (o := .tup [.str "values", .int (j : Int)]) ht)))) (.cons (.str _) (.cons (.int _) .nil)), shaped_si _ okS1, shaped_si _ okS1, _, rfl, ?_⟩
        rw [told_eq _ okS1]
        refine go_f rfl ?_
        have HB2 := HB.trans (But.of (p := p) ((HS.trans (same_new (o := .xd [("at", .int (j : Int))]) hdd)).trans (same_new (o := .tup [.str "values", .int (j : Int)]) ht)))
        have bF := (bX.same HS).same ((same_new (o := .xd [("at", .int (j : Int))]) hdd).trans (same_new (o := .tup [.str "values", .int (j : Int)]) ht))
        exact ⟨pB.step S.f (by simp) HB2 bF nWp nDp, (fun h => by omega), (fun _ => (p2 (by omega)).step pB.b S.f (Ne.symm df2_1) (fun z => nc2 (by rw [z]; simp)) HB2), (fun _ => (p3 (by omega)).step pB.b S.f (Ne.symm df3_1) (fun z => nc3 (by rw [z]; simp)) HB2), (fun _ => (p4 (by omega)).step pB.b S.f (Ne.symm df4_1) (fun z => nc4 (by rw [z]; simp)) HB2)⟩
      · obtain rfl : V.ref w2 = x := Option.some.inj hx
        have S := p2 (by omega)
        refine ⟨w2, _, rfl, SqT.of S.w, rfl, _, _, rfl, _, _, rfl, rfl, rfl, ?_⟩
        refine ⟨_, f2, c2, _, _, _, (fun E => tCallS (spSett K cO cV cS) (WE fun cls d _ H' => E cls d H') (tCons (tVar 1) (tCons (tVar 3) (tCons (tCall (spPick K) [] E0 (tCons (tVar 0) (tCons (tLst (tCons (tC .non) (tCons (tOp rCat (tVar 4) (tLst (tCons (tC (.int 0)) tNil))) (tCons (tC (.int 5)) tNil)))) tNil))) tNil)))), noPins Ib, ⟨lamS_by (sc := defScope sHR) (by decide +kernel), fun _ _ _ _ _ => rfl,
          fun A outer s H E f c' hr2 => by exact pe_callS G.gSett (hr2.mono (by decide)) (by rfl) G.sett.g G.sett.F.kp G.sett.b (fun σ => passAt (takes_of rfl rfl rfl rfl) σ) (by exact (pa_cons (pv 1) (pa_cons (pv 3) (pa_cons (pe_call G.gPick (hr2.mono (by decide)) (by rfl) G.pick.g G.pick.F.kp G.pick.b .nil pass0 (by exact (pa_cons (pv 0) (pa_cons (pe_lst (by exact (pa_cons pe_non (pa_cons (pe_op op_cat (pv 4) (pe_lst (by exact (pa_cons pe_int pa_nil)))) (pa_cons pe_int pa_nil))))) pa_nil)))) pa_nil))))⟩, rfl, S.f, S.c, (fun z => nc2 (by rw [z]; exact List.mem_cons_self ..)), ?_⟩
        have kc : Keep p H11 (offA Hc f2) := pB.k.trans (Keep.offA S.f)
        have bo := boxo S.f
        have eHl := kc Hl _ eH11 nHl (fun _ z => nomatch z) (fun _ z => nomatch z)
        refine ⟨_, rfl, _, rfl, _, rfl, _, rfl, (by show 1 ≤ sizeLine; decide), fun la hla => ⟨Hl, la, _, _, rfl, rfl, same_new hla _ _ eHl, upd_same, (by rw [List.length_map, lo, sizeLine_eq]; show n + 1 ≤ _; omega), fun lb hlb => ⟨(by show 3 ≤ sizeLine; decide), fun lc hlc => ?_⟩⟩⟩
        have sab := (same_new (o := .lst [V.int 0]) hla).trans (same_new (o := .lst (os.map oV ++ [V.int 0])) hlb)
        have bab := bo.same sab
        have nlb := (bo.same (same_new (o := .lst [V.int 0]) hla)).fresh hlb
        refine ⟨p, lc, _, rfl, bab.fresh hlc, bab.same (same_new hlc), upd_same, by show 0 < 3; decide, by show 3 < 1000; decide, fun H6' v bt8 bX hv => ?_⟩
        have HB : But p (offA Hc f2) H6' := (But.of (sab.trans (same_new hlc))).trans bt8
        have kx := (kc.trans (Keep.but HB)).core
        have elb : H6' lb = some (.lst (os.map oV ++ [V.int 0])) := bt8 lb _ (same_new hlc _ _ upd_same) nlb
        have dvx : ∃ dh, Dp K H6' v dh ∧ isRow n dh = false := by
          simp only [List.mem_cons, List.not_mem_nil, or_false] at hv
          rcases hv with rfl | rfl | rfl
          · exact ⟨.none, .non, rfl⟩
          · refine ⟨.list (os.map oD ++ [.int 0]), .lst (SqL.of elb) (dpAll_app (dpAll_o os) (.cons (.int 0) .nil)), ?_⟩
            show (true && decide (((os.map oD ++ [PyData.int 0]).length : Int) = n)) = false
            rw [List.length_append, List.length_map, lo]
            exact decide_eq_false (by show ¬ ((n + 1 : Nat) : Int) = n; omega)
          · exact ⟨.int 5, .int 5, rfl⟩
        obtain ⟨dh, dv, rowf⟩ := dvx
        refine ⟨.int s, .ref Gl, v, nD s, _, dh, rfl, .int _, dp_same core_le (dp_same kx dG), dv, .inr ⟨s, rfl, s2, by omega, .inr ⟨n, as, O2, .inl ⟨rowf, ?_⟩⟩⟩⟩
        intro H7 dd HS hdd
        refine .inr (.inr (.inl ⟨rfl, dd, _, rfl, upd_same, fun t ht => ?_⟩))
        refine ⟨_, rfl, _, _, .tup (SqT.of upd_same) (.cons (.str _) (.cons (.int _) .nil)), .tup (SqT.of (told S.f S.t (boxo S.f) HB ((HS.trans (same_new (o := .xd [("at", .int (-1))]) hdd)).trans (same_new (o := .tup [.str "values", .int (-1)]) ht)))) (.cons (.str _) (.cons (.int _) .nil)), shaped_si _ okS1, shaped_si _ okS1, _, rfl, ?_⟩
        rw [told_eq _ okS1]
        refine go_f rfl ?_
        have HB2 := HB.trans (But.of (p := p) ((HS.trans (same_new (o := .xd [("at", .int (-1))]) hdd)).trans (same_new (o := .tup [.str "values", .int (-1)]) ht)))
        have bF := (bX.same HS).same ((same_new (o := .xd [("at", .int (-1))]) hdd).trans (same_new (o := .tup [.str "values", .int (-1)]) ht))
        exact ⟨pB.step S.f (by simp) HB2 bF nWp nDp, (fun h => by omega), (fun h => by omega), (fun _ => (p3 (by omega)).step pB.b S.f (Ne.symm df3_2) (fun z => nc3 (by rw [z]; simp)) HB2), (fun _ => (p4 (by omega)).step pB.b S.f (Ne.symm df4_2) (fun z => nc4 (by rw [z]; simp)) HB2)⟩
      · obtain rfl : V.ref w3 = x := Option.some.inj hx
        have S := p3 (by omega)
        refine ⟨w3, _, rfl, SqT.of S.w, rfl, _, _, rfl, _, _, rfl, rfl, rfl, ?_⟩
        refine ⟨_, f3, c3, _, _, _, (fun E => tCallS (spHT K cO cV cS) (WE fun cls d _ H' => E cls d H') (tCons (tCall (spPick K) [] E0 (tCons (tVar 0) (tCons (tLst (tCons (tC (.int 1)) (tCons (tC (.int 9)) (tCons (tC .non) (tCons (tC (.bl true)) (tCons (tC (.str "2")) tNil)))))) tNil))) (tCons (tC .non) (tCons (tC .non) tNil)))), noPins Ib, ⟨lamS_by (sc := defScope sHR) (by decide +kernel), fun _ _ _ _ _ => rfl,
          fun A outer s H E f c' hr2 => by exact pe_callS G.gHeld (hr2.mono (by decide)) (by rfl) G.held.g G.held.F.kp G.held.b (fun σ => passAt (takes_of rfl rfl rfl rfl) σ) (by exact (pa_cons (pe_call G.gPick (hr2.mono (by decide)) (by rfl) G.pick.g G.pick.F.kp G.pick.b .nil pass0 (by exact (pa_cons (pv 0) (pa_cons (pe_lst (by exact (pa_cons pe_int (pa_cons pe_int (pa_cons pe_non (pa_cons pe_bl (pa_cons pe_str pa_nil))))))) pa_nil)))) (pa_cons pe_non (pa_cons pe_non pa_nil))))⟩, rfl, S.f, S.c, (fun z => nc3 (by rw [z]; exact List.mem_cons_self ..)), ?_⟩
        have kc : Keep p H11 (offA Hc f3) := pB.k.trans (Keep.offA S.f)
        have bo := boxo S.f
        refine ⟨_, rfl, (by show 5 ≤ sizeLine; decide), fun lc hlc => ?_⟩
        refine ⟨p, lc, _, rfl, bo.fresh hlc, bo.same (same_new hlc), upd_same, by show 0 < 5; decide, by show 5 < 1000; decide, fun H6' v bt8 bX hv => ?_⟩
        have HB : But p (offA Hc f3) H6' := (But.of (same_new hlc)).trans bt8
        have dvx : ∃ dh, Dp K H6' v dh ∧ isBt 2 8 dh = false := by
          simp only [List.mem_cons, List.not_mem_nil, or_false] at hv
          rcases hv with rfl | rfl | rfl | rfl | rfl
          · exact ⟨.int 1, .int 1, rfl⟩
          · exact ⟨.int 9, .int 9, rfl⟩
          · exact ⟨.none, .non, rfl⟩
          · exact ⟨.bool true, .bl true, rfl⟩
          · exact ⟨.str "2", .str "2", rfl⟩
        obtain ⟨dh, dv, btf⟩ := dvx
        refine ⟨v, .non, .non, dh, .none, .none, rfl, dv, .non, .non, .inl ⟨btf, ?_⟩⟩
        intro H7 dd HS hdd
        refine .inr (.inr (.inr ⟨rfl, dd, _, rfl, upd_same, fun t ht => ?_⟩))
        refine ⟨_, rfl, _, _, .tup (SqT.of upd_same) (.cons (.str _) (.cons (.str _) .nil)), .tup (SqT.of (told S.f S.t (boxo S.f) HB ((HS.trans (same_new (o := .xd [("word", .str "size")]) hdd)).trans (same_new (o := .tup [.str "size", .str "size"]) ht)))) (.cons (.str _) (.cons (.str _) .nil)), shaped_ss okS2 okS2, shaped_ss okS2 okS2, _, rfl, ?_⟩
        rw [told_eqs okS2 okS2]
        refine go_f rfl ?_
        have HB2 := HB.trans (But.of (p := p) ((HS.trans (same_new (o := .xd [("word", .str "size")]) hdd)).trans (same_new (o := .tup [.str "size", .str "size"]) ht)))
        have bF := (bX.same HS).same ((same_new (o := .xd [("word", .str "size")]) hdd).trans (same_new (o := .tup [.str "size", .str "size"]) ht))
        exact ⟨pB.step S.f (by simp) HB2 bF nWp nDp, (fun h => by omega), (fun h => by omega), (fun h => by omega), (fun _ => (p4 (by omega)).step pB.b S.f (Ne.symm df4_3) (fun z => nc4 (by rw [z]; simp)) HB2)⟩
      · obtain rfl : V.ref w4 = x := Option.some.inj hx
        have S := p4 (by omega)
        refine ⟨w4, _, rfl, SqT.of S.w, rfl, _, _, rfl, _, _, rfl, rfl, rfl, ?_⟩
        refine ⟨_, f4, c4, _, _, _, (fun E => tCallS (spSett K cO cV cS) (WE fun cls d _ H' => E cls d H') (tCons (tVar 1) (tCons (tCall (spPick K) [] E0 (tCons (tVar 0) (tCons (tLst (tCons (tC .non) (tCons (tTup (tCons (tC (.int 0)) (tCons (tTup (tCons (tC (.int 0)) tNil)) tNil))) (tCons (tTup (tCons (tC (.int 1)) (tCons (tOp (rCatA K) (tOp (rIxT K) (tVar 2) (tC (.int 1))) (tTup (tCons (tC (.int 0)) tNil))) tNil))) (tCons (tC (.int 3)) tNil))))) tNil))) (tCons (tC .non) tNil)))), noPins Ib, ⟨lamS_by (sc := defScope sHR) (by decide +kernel), fun _ _ _ _ _ => rfl,
          fun A outer s H E f c' hr2 => by exact pe_callS G.gSett (hr2.mono (by decide)) (by rfl) G.sett.g G.sett.F.kp G.sett.b (fun σ => passAt (takes_of rfl rfl rfl rfl) σ) (by exact (pa_cons (pv 1) (pa_cons (pe_call G.gPick (hr2.mono (by decide)) (by rfl) G.pick.g G.pick.F.kp G.pick.b .nil pass0 (by exact (pa_cons (pv 0) (pa_cons (pe_lst (by exact (pa_cons pe_non (pa_cons (pe_tup (by exact (pa_cons pe_int (pa_cons (pe_tup (by exact (pa_cons pe_int pa_nil))) pa_nil)))) (pa_cons (pe_tup (by exact (pa_cons pe_int (pa_cons (pe_op op_catA (pe_ix ix_tup (pv 2) pe_int (fun _ _ => rfl)) (pe_tup (by exact (pa_cons pe_int pa_nil)))) pa_nil)))) (pa_cons pe_int pa_nil)))))) pa_nil)))) (pa_cons pe_non pa_nil))))⟩, rfl, S.f, S.c, (fun z => nc4 (by rw [z]; exact List.mem_cons_self ..)), ?_⟩
        have kc : Keep p H11 (offA Hc f4) := pB.k.trans (Keep.offA S.f)
        have bo := boxo S.f
        obtain ⟨va9, aA9, eA9, qO9, qA9⟩ : ∃ va9 aA9, va9 = V.ref aA9 ∧ SqT K (core p (offA Hc f4)) aO [.int (n : Int), va9] ∧ SqT K (core p (offA Hc f4)) aA9 (as.map fun n : Nat => V.int n) := by
          obtain ⟨a, xO, e, q, r⟩ := dp_tup (dp_same kc.core dO)
          cases e
          cases r with
          | cons h0 r => cases r with
            | cons h1 r => cases r with
              | nil =>
                cases h0
                obtain ⟨a2, x2, rfl, q2, r2⟩ := dp_tup h1
                obtain rfl := dpAll_eqn r2
                exact ⟨_, a2, rfl, q, q2⟩
        subst eA9
        have asn : (as.map fun n : Nat => V.int n) ≠ [] := fun z => by
          have h1 := congrArg List.length z
          rw [List.length_map, la] at h1
          have h2 : 0 < s ^ n := Nat.pow_pos (by omega)
          have h3 : s ^ n = 0 := h1
          omega
        have l64 : s ^ n ≤ 4 ^ 3 := Nat.le_trans (Nat.pow_le_pow_left s4 n) (Nat.pow_le_pow_right (by decide) n3)
        have lge : s ^ 1 ≤ s ^ n := Nat.pow_le_pow_right (by omega) n1
        refine ⟨_, rfl, _, rfl, (by show 1 ≤ sizeLine; decide), fun ta hta => ⟨(by show 2 ≤ sizeLine; decide), fun tb htb => ?_⟩⟩
        have sA := (same_new (o := .tup [V.int 0]) hta).trans (same_new (o := .tup [V.int 0, V.ref ta]) htb)
        refine ⟨_, rfl, aO, _, _, _, rfl, rfl, seqT (core_le.trans sA) qO9, atI_nat (j := 1) rfl, (by show 1 ≤ sizeLine; decide), fun tc htc => ?_⟩
        have sB := sA.trans (same_new (o := .tup [V.int 0]) htc)
        refine ⟨aA9, tc, _, _, rfl, rfl, seqT (core_le.trans sB) qA9, SqT.of upd_same, (by
          have h64 : (4 : Nat) ^ 3 = 64 := by decide
          rw [List.length_map, la, sizeLine_eq]
          show s ^ n + 1 ≤ _
          omega), fun z => absurd z asn, (fun _ z => nomatch z), fun _ _ td' htd => ⟨(by show 2 ≤ sizeLine; decide), fun te hte => ⟨(by show 4 ≤ sizeLine; decide), fun lc hlc => ?_⟩⟩⟩
        have sC := sB.trans ((same_new (o := .tup ((as.map fun n : Nat => V.int n) ++ [V.int 0])) htd).trans (same_new (o := .tup [V.int 1, V.ref td']) hte))
        have bC := bo.same sC
        refine ⟨p, lc, _, rfl, bC.fresh hlc, bC.same (same_new hlc), upd_same, by show 0 < 4; decide, by show 4 < 1000; decide, fun H6' v bt8 bX hv => ?_⟩
        have HB : But p (offA Hc f4) H6' := (But.of (sC.trans (same_new hlc))).trans bt8
        have kx := (kc.trans (Keep.but HB)).core
        have ntup : ∀ {a : Addr} {xs : List V} {Hx : Hp}, Box Hx p → Hx a = some (.tup xs) → a ≠ p := fun {a xs Hx} b e z => by
          obtain ⟨a1, a2, a3, ep⟩ := b
          rw [z, ep] at e
          cases e
        have fwd : ∀ {a : Addr} {xs : List V} {Hx : Hp}, Box Hx p → Hx a = some (.tup xs) → Same Hx (upd (upd (upd (upd (upd (offA Hc f4) ta (.tup [V.int 0])) tb (.tup [V.int 0, V.ref ta])) tc (.tup [V.int 0])) td' (.tup ((as.map fun n : Nat => V.int n) ++ [V.int 0]))) te (.tup [V.int 1, V.ref td'])) → H6' a = some (.tup xs) := fun {a xs Hx} b e sx => bt8 a _ (same_new hlc _ _ (sx _ _ e)) (ntup b e)
        have s1 := (same_new (o := .tup [V.int 1, V.ref td']) hte)
        have s2' := (same_new (o := .tup ((as.map fun n : Nat => V.int n) ++ [V.int 0])) htd).trans s1
        have s3' := (same_new (o := .tup [V.int 0]) htc).trans s2'
        have s4' := (same_new (o := .tup [V.int 0, V.ref ta]) htb).trans s3'
        have b1' := bo.same (same_new (o := .tup [V.int 0]) hta)
        have b2' := b1'.same (same_new (o := .tup [V.int 0, V.ref ta]) htb)
        have b3' := b2'.same (same_new (o := .tup [V.int 0]) htc)
        have b4' := b3'.same (same_new (o := .tup ((as.map fun n : Nat => V.int n) ++ [V.int 0])) htd)
        have b5' := b4'.same s1
        have dvx : ∃ dh, Dp K H6' v dh ∧ isTable s 1 3 dh = false := by
          simp only [List.mem_cons, List.not_mem_nil, or_false] at hv
          rcases hv with rfl | rfl | rfl | rfl
          · exact ⟨.none, .non, rfl⟩
          · exact ⟨.tuple [.int 0, .tuple [.int 0]], .tup (SqT.of (fwd b2' upd_same s3')) (.cons (.int 0) (.cons (.tup (SqT.of (fwd b1' upd_same s4')) (.cons (.int 0) .nil)) .nil)), rfl⟩
          · refine ⟨.tuple [.int 1, .tuple (as.map nD ++ [.int 0])], .tup (SqT.of (fwd b5' upd_same (Same.refl _))) (.cons (.int 1) (.cons (.tup (SqT.of (fwd b4' upd_same s1)) (dpAll_app (dpAll_mkn as) (.cons (.int 0) .nil))) .nil)), ?_⟩
            have e1 : isRow (pow' (s : Int) 1) (.tuple (as.map nD ++ [.int 0])) = false := by
              show (true && decide (((as.map nD ++ [PyData.int 0]).length : Int) = pow' (s : Int) 1)) = false
              rw [pow_nat, List.length_append, List.length_map, la]
              exact decide_eq_false (by show ¬ ((s ^ n + 1 : Nat) : Int) = ((s ^ 1 : Nat) : Int); omega)
            show (isRow 2 _ && (isBt 1 3 (.int 1) && (isRow (pow' (s : Int) 1) (.tuple (as.map nD ++ [.int 0])) && _))) = false
            rw [e1]
            simp
          · exact ⟨.int 3, .int 3, rfl⟩
        obtain ⟨dh, dv, tf⟩ := dvx
        refine ⟨.int s, v, .non, nD s, dh, .none, rfl, .int _, dv, .non, .inr ⟨s, rfl, s2, by omega, .inl ⟨tf, ?_⟩⟩⟩
        intro H7 dd HS hdd
        refine .inr (.inl ⟨rfl, dd, _, rfl, upd_same, fun t ht => ?_⟩)
        refine ⟨_, rfl, _, _, .tup (SqT.of upd_same) (.cons (.str _) (.cons (.int _) .nil)), .tup (SqT.of (told S.f S.t (boxo S.f) HB ((HS.trans (same_new (o := .xd [("at", .int (-1))]) hdd)).trans (same_new (o := .tup [.str "operation", .int (-1)]) ht)))) (.cons (.str _) (.cons (.int _) .nil)), shaped_si _ okS3, shaped_si _ okS3, _, rfl, ?_⟩
        rw [told_eq _ okS3]
        refine go_f rfl ?_
        have HB2 := HB.trans (But.of (p := p) ((HS.trans (same_new (o := .xd [("at", .int (-1))]) hdd)).trans (same_new (o := .tup [.str "operation", .int (-1)]) ht)))
        have bF := (bX.same HS).same ((same_new (o := .xd [("at", .int (-1))]) hdd).trans (same_new (o := .tup [.str "operation", .int (-1)]) ht))
        exact ⟨pB.step S.f (by simp) HB2 bF nWp nDp, (fun h => by omega), (fun h => by omega), (fun h => by omega), (fun h => by omega)⟩
    · rintro Hc ⟨pB, _⟩
      refine ⟨(by show 0 ≤ sizeLine; decide), fun L2 hL2 => ⟨.list [], .list [], .lst (SqL.of (same_new hL2 _ _ pB.d)) .nil, .lst (SqL.of upd_same) .nil, rfl, rfl, ?_⟩⟩
      exact k _ ((kH.trans pB.k).trans (Keep.of (same_new hL2))) (pB.b.same (same_new hL2)) ((tf_out pB.t).ext (same_new hL2))
end
end K01
/-! A written tuple: it has no dict. -/
namespace SQ
open PySem PySem.Spec PyProof.Rows L2
def tTupZ (t : TA) : TE := fun σ H Q => t σ H fun xs H1 => xs.length ≤ sizeLine ∧ ∀ q o, H1 q = none → o.dict = none → Q (.ref q) (upd H1 q (.frz o (.tup xs)))
theorem pe_tupZ {X : Cx} {es : List Expr} {t : TA} {k : Nat} {pos : Pos} (ha : PA X es t) : PE X (.Tuple es k pos) (tTupZ t) := by
  refine ⟨fun pins s σ H Q I h => Tuple_ (thn (ha.run _ pins s σ H _ I h) ?_)⟩
  rintro us s1 ⟨vs, H1, I1, r, hz, q⟩
  have hl : us.toArray.size ≤ sizeLine := by rw [List.size_toArray, ← r.length]; exact hz
  refine wpAny_newObj_type ?_ hl
  have I2 : Inv X pins σ (upd H1 s1.heap.objs.size (.frz { cls := .type "tuple", data := .seq us.toArray } (.tup vs))) { s1 with heap := s1.heap.push { cls := .type "tuple", data := .seq us.toArray } } :=
    I1.laid (t' := s1.toks) (fun _ _ e => Heap.get?_push_of_some _ e) (Nat.le_refl _) (show ObjOk X.prog X.w _ _ _ (.frz _ (.tup vs)) from ⟨Heap.get?_push_size _ rfl, hz, us, r, IsTup.new _ _⟩)
  exact ⟨.ref s1.heap.objs.size, _, I2, rfl, q _ _ (I1.hok.fresh (Nat.le_refl _)) rfl⟩
end SQ
namespace K01
open PySem L2 FX SQ LamX
abbrev sLaw : Stmt := top 38
abbrev NLaw : List Str := ["script", "least", "k", "box", "size", "operations", "given", "at", "one", "wrong", "bad", "operation", "turn", "places", "answers"]
theorem scLaw : FnScope NLaw ["script"] (defScope sLaw) := ⟨rfl, rfl, rfl, by decide +kernel, rfl, by decide +kernel, by decide +kernel⟩
def qLaw : Str := (PyProof.Rows.envOfC "law" (defScope sLaw) 0 0 .none).qual ++ "<lambda>"
section
variable {K : PySem.W.Frag}
def perm1 {α : Type} : List α → List α → List α := fun us ws => match us, ws with
  | [], [v] => [v]
  | _, _ => []
def perm2 {α : Type} : List α → List α → List α := fun us ws => match us, ws with
  | [], [v, s] => [s, v]
  | _, _ => []
theorem kb_Book {f : Addr} {fd : FuncData} (F : Fun K "need_book" "need_book" sNeedBook f fd) : KBinds K fd ["value"] ["value"] perm1 perm1 := by
  obtain ⟨oc, od, kV, doc, pm, an, cdv, ct, osl, rfl, _, _⟩ := F.ex
  refine ⟨fun s us ws _ hl => ?_, fun r rz => ?_⟩
  · match us, ws, hl with
    | [], [v], _ => exact BindsTo.of_eq (by rfl)
  · cases r with
    | cons a b => exact .nil
    | nil => cases rz with
      | nil => exact .nil
      | cons a rz => cases rz with
        | nil => exact .cons a .nil
        | cons b rz => exact .nil
theorem kb_Op {f : Addr} {fd : FuncData} (F : Fun K "need_operation" "need_operation" sNeedOp f fd) : KBinds K fd ["size", "value"] ["value", "size"] perm2 perm2 := by
  obtain ⟨oc, od, kV, doc, pm, an, cdv, ct, osl, rfl, _, _⟩ := F.ex
  refine ⟨fun s us ws _ hl => ?_, fun r rz => ?_⟩
  · match us, ws, hl with
    | [], [v, z], _ => exact BindsTo.of_eq (by rfl)
  · cases r with
    | cons a b => exact .nil
    | nil => cases rz with
      | nil => exact .nil
      | cons a rz => cases rz with
        | nil => exact .nil
        | cons b rz => cases rz with
          | nil => exact .cons b (.cons a .nil)
          | cons c rz => exact .nil
end
end K01
namespace K01
open PySem L2 FX SQ LamX
section
variable {P : Program} {w : World} {K : PySem.W.Frag} {mg : Str → Option Value} {base : Heap} {B cB iB cO iO cV iV cS iS : Addr}
def spLaw (K : PySem.W.Frag) (T : List (Addr × Str)) : Sp := fun vs H Q _ => ∃ (a : Addr) (ns : List Int), vs = [.ref a] ∧ SqL K H a (ns.map V.int) ∧ Tabs T H ∧ ∀ H', Q (.bl true) H'
structure Gs (K : PySem.W.Frag) (mg : Str → Option Value) (P : Program) (w : World) (base : Heap) (T : List (Addr × Str)) (cB cO cS : Addr) (fX fN fB fQ fR : Addr) (dX dN dB dQ dR : FuncData) : Prop where
  box : At K mg "_law_box" sBox fX dX ["script", "k"]
  gBox : FnOk P w K mg base CX0 1 fX dX ["script", "k"] (spBox K)
  opn : At K mg "_law_operation" sOpn fN dN ["box", "size"]
  gOpn : FnOk P w K mg base CX0 3 fN dN ["box", "size"] (spOpn K)
  book : At K mg "need_book" sNeedBook fB dB ["value"]
  gBook : FnOk P w K mg base (L2.CX P w) 6 fB dB ["value"] (spNeedBook K cB)
  op : At K mg "need_operation" sNeedOp fQ dQ ["size", "value"]
  gOp : FnOk P w K mg base (L2.CX P w) 6 fQ dQ ["size", "value"] (spNeedOp K cO cS)
  right : mg "_law_held_right" = some (.ref fR)
  kRight : PySem.W.keepIn K (.ref fR) = true
  bRight : Binds K dR ["box", "size", "operation"] []
  gRight : FnOk P w K mg base CX0 12 fR dR ["box", "size", "operation"] (spHR K T)
/-- list(answers) -/
abbrev tCTl (K : PySem.W.Frag) : TE := tCB (fun xs H Q => ∃ p ys, xs = [V.ref p] ∧ (SqL K H p ys ∨ SqT K H p ys) ∧ ∀ l, H l = none → Q (V.ref l) (upd H l (.lst ys))) (tCons (tVar 14) tNil)
/-- an operation in tuples doesn't hang on a list -/
def opT (o : Nat × List Nat) : D := .tuple [nD o.1, .tuple (o.2.map nD)]
theorem opT_off {K : PySem.W.Frag} {H : Hp} {D : Addr} {acc : List V} {v : V} {o : Nat × List Nat} (e : H D = some (.lst acc)) (h : Dp K H v (opT o)) : Dp K (off H D) v (opT o) := by
  have go : ∀ {a : Addr} {xs : List V}, SqT K H a xs → SqT K (off H D) a xs := fun {a xs} q => by
    rcases q with (q | ⟨ob, q⟩) | q
    · exact .inl (.inl (by rw [off_ne fun z => by rw [z, e] at q; cases q]; exact q))
    · exact .inl (.inr ⟨ob, by rw [off_ne fun z => by rw [z, e] at q; cases q]; exact q⟩)
    · exact .inr q
  obtain ⟨a, xs, rfl, q, r⟩ := dp_tup h
  cases r with
  | cons h0 r => cases r with
    | cons h1 r => cases r with
      | nil =>
        cases h0
        obtain ⟨a2, x2, rfl, q2, r2⟩ := dp_tup h1
        obtain rfl := dpAll_eqn r2
        exact .tup (go q) (.cons (.int _) (.cons (.tup (go q2) (dpAll_mkn _)) .nil))
theorem opsT_off {K : PySem.W.Frag} {H : Hp} {D : Addr} {acc : List V} (e : H D = some (.lst acc)) : ∀ {vs : List V} {os : List (Nat × List Nat)}, DpAll K H vs (os.map opT) → DpAll K (off H D) vs (os.map opT) := by
  intro vs os
  induction os generalizing vs with
  | nil =>
    intro h
    cases h
    exact .nil
  | cons o os ih =>
    intro h
    cases h with
    | cons h r => exact .cons (opT_off e h) (ih r)
theorem off_upd2 {H : Hp} {p a : Addr} {o : HO} : off (off (upd H a o) p) a = off (off H p) a := by
  funext b
  by_cases h : b = a
  · rw [h, off_same, off_same]
  · rw [off_ne h, off_ne h]
    by_cases h2 : b = p
    · rw [h2, off_same, off_same]
    · rw [off_ne h2, off_ne h2, upd_ne h]
theorem but_off2 {p a : Addr} {H H' : Hp} (b : But p H H') : Same (off (off H p) a) (off (off H' p) a) := off_mono fun c o _ e => b.off c o e
theorem sqL_but {K : PySem.W.Frag} {p a : Addr} {H0 H H' : Hp} {xs : List V} (q : SqL K H0 a xs) (n : H0 p = none) (s : Same H0 H) (b : But p H H') : SqL K H' a xs := by
  rcases q with (q | ⟨o, q⟩) | q
  · exact .inl (.inl (b _ _ (s _ _ q) (ne_of_none q n)))
  · exact .inl (.inr ⟨o, b _ _ (s _ _ q) (ne_of_none q n)⟩)
  · exact .inr q
def opL (o : Nat × List Nat) : D := .list [nD o.1, .list (o.2.map nD)]
theorem opD_opL (o : Nat × List Nat) : opD (opL o) = opT o := rfl
theorem opL_is {s : Nat} {o : Nat × List Nat} (n1 : 1 ≤ o.1) (n3 : o.1 ≤ 3) (la : o.2.length = s ^ o.1) (h : ∀ a ∈ o.2, a < s) : OpIs s o.1 o.2 (opL o) := ⟨rfl, ⟨_, rfl, rfl, rfl⟩, n1, n3, la, h⟩
theorem opT_is {s : Nat} {o : Nat × List Nat} (n1 : 1 ≤ o.1) (n3 : o.1 ≤ 3) (la : o.2.length = s ^ o.1) (h : ∀ a ∈ o.2, a < s) : OpIs s o.1 o.2 (opT o) := ⟨rfl, ⟨_, rfl, rfl, rfl⟩, n1, n3, la, h⟩
theorem lay_ops : ∀ os : List (Nat × List Nat), PyData.canLayAll0 (os.map opT) = true
  | [] => rfl
  | o :: r => by
    have h1 : (opT o).canLay0 = true := SeqAt.canLay_of_shaped (shaped_held o.1 o.2)
    have h2 := lay_ops r
    rw [List.map_cons]
    show (PyData.canLay0 (opT o) && PyData.canLayAll0 (r.map opT)) = true
    rw [h1, h2]
    rfl
theorem depth_ops : ∀ os : List (Nat × List Nat), PyData.depthAll (os.map opT) ≤ 10
  | [] => by decide
  | o :: r => by
    have h1 := depth_n o.2
    have h2 := depth_ops r
    show max (PyData.depth (opT o)) (PyData.depthAll (r.map opT)) ≤ 10
    refine Nat.max_le.mpr ⟨?_, h2⟩
    unfold opT
    simp only [PyData.depth, PyData.depthAll, nD]
    omega
theorem shaped_book (s : Nat) (os : List (Nat × List Nat)) : SeqAt.shaped (.tuple [nD s, .tuple (os.map opT)]) = true := by
  unfold SeqAt.shaped
  rw [Bool.and_eq_true]
  refine ⟨?_, decide_eq_true ?_⟩
  · have := lay_ops os
    simp [PyData.canLay0, PyData.canLayAll0, nD] at this ⊢
    exact this
  · have := depth_ops os
    simp only [PyData.depth, PyData.depthAll, nD]
    omega
theorem book_eq (s : Nat) (os : List (Nat × List Nat)) : PyData.eqv (.tuple [nD s, .tuple (os.map opT)]) (.tuple [nD s, .tuple (os.map opT)]) = true := SeqAt.eqv_refl _ (SeqAt.canLay_of_shaped (shaped_book s os))
theorem book_ok {s : Nat} (s2 : 2 ≤ s) (s8 : s ≤ 8) {ds : List D} (h : ds.length ≤ 8) : okBook (.list [nD s, .list ds]) = true := by
  have e : okBook (.list [nD s, .list ds]) = (isBt 2 8 (nD s) && (true && decide (ds.length ≤ 8))) := rfl
  rw [e, bt_nat s2 s8, decide_eq_true h]
  rfl
/-- a good operation of a size -/
def Good (s : Nat) (o : Nat × List Nat) : Prop := 1 ≤ o.1 ∧ o.1 ≤ 3 ∧ o.2.length = s ^ o.1 ∧ ∀ a ∈ o.2, a < s
theorem seqT_oc {K : PySem.W.Frag} {H : Hp} {p a : Addr} {xs : List V} (q : SqT K (off H p) a xs) : SqT K (core p H) a xs := by
  rcases q with (q | ⟨o, q⟩) | q
  · have n : a ≠ p := fun z => by rw [z, off_same] at q; cases q
    rw [off_ne n] at q
    exact .inl (.inl (by unfold core; rw [if_neg n, q]))
  · have n : a ≠ p := fun z => by rw [z, off_same] at q; cases q
    rw [off_ne n] at q
    exact .inl (.inr ⟨o, by unfold core; rw [if_neg n, q]⟩)
  · exact .inr q
theorem seqT_o2 {K : PySem.W.Frag} {H : Hp} {p D a : Addr} {xs : List V} (q : SqT K (off (off H p) D) a xs) : SqT K (off H p) a xs := seqT off_le q
theorem opT_core {K : PySem.W.Frag} {H : Hp} {p D : Addr} {v : V} {o : Nat × List Nat} (h : Dp K (off (off H p) D) v (opT o)) : Dp K (core p H) v (opT o) := by
  obtain ⟨a, xs, rfl, q, r⟩ := dp_tup h
  cases r with
  | cons h0 r => cases r with
    | cons h1 r => cases r with
      | nil =>
        cases h0
        obtain ⟨a2, x2, rfl, q2, r2⟩ := dp_tup h1
        obtain rfl := dpAll_eqn r2
        exact .tup (seqT_oc (seqT_o2 q)) (.cons (.int _) (.cons (.tup (seqT_oc (seqT_o2 q2)) (dpAll_mkn _)) .nil))
theorem opsT_core {K : PySem.W.Frag} {H : Hp} {p D : Addr} : ∀ {vs : List V} {os : List (Nat × List Nat)}, DpAll K (off (off H p) D) vs (os.map opT) → DpAll K (core p H) vs (os.map opT) := by
  intro vs os
  induction os generalizing vs with
  | nil =>
    intro h
    cases h
    exact .nil
  | cons o os ih =>
    intro h
    cases h with
    | cons h r => exact .cons (opT_core h) (ih r)
theorem sqL_keep {K : PySem.W.Frag} {p a : Addr} {H0 H : Hp} {xs : List V} (q : SqL K H0 a xs) (n : H0 p = none) (k : Keep p H0 H) : SqL K H a xs := by
  rcases q with (q | ⟨o, q⟩) | q
  · exact .inl (.inl (k _ _ q (ne_of_none q n) (fun _ z => nomatch z) (fun _ z => nomatch z)))
  · exact .inl (.inr ⟨o, k _ _ q (ne_of_none q n) (fun _ z => nomatch z) (fun _ z => nomatch z)⟩)
  · exact .inr q
theorem dpAll_take {K : PySem.W.Frag} {H : Hp} : ∀ {vs : List V} {ds : List D} (j : Nat), DpAll K H vs ds → DpAll K H (vs.take j) (ds.take j)
  | _, _, 0, _ => by rw [List.take_zero, List.take_zero]; exact .nil
  | _, _, j + 1, .nil => .nil
  | _, _, j + 1, .cons h r => .cons h (dpAll_take j r)
theorem dpAll_drop {K : PySem.W.Frag} {H : Hp} : ∀ {vs : List V} {ds : List D} (j : Nat), DpAll K H vs ds → DpAll K H (vs.drop j) (ds.drop j)
  | _, _, 0, h => h
  | _, _, j + 1, .nil => .nil
  | _, _, j + 1, .cons h r => dpAll_drop j r
theorem dpAll_rep {K : PySem.W.Frag} {H : Hp} {v : V} {d : D} (h : Dp K H v d) : ∀ n : Nat, DpAll K H (List.replicate n v) (List.replicate n d)
  | 0 => .nil
  | n + 1 => .cons h (dpAll_rep h n)
theorem tab_eq (s : Int) (a b : D) : isTable s 1 3 (.tuple [a, b]) = (isBt 1 3 a && (isRow (pow' s (intV a).toNat) b && (items b).all (isB s))) := rfl
theorem row_tup (m : Int) (ds : List D) : isRow m (.tuple ds) = decide ((ds.length : Int) = m) := Bool.true_and _
theorem noT1 {s n : Nat} {as : List Nat} (s2 : 2 ≤ s) (la : as.length = s ^ n) : isTable s 1 3 (.tuple [nD n, .tuple ((as.drop 1).map nD)]) = false := by
  have h0 : 0 < s ^ n := Nat.pow_pos (by omega)
  have e : isRow (pow' (s : Int) (intV (nD n)).toNat) (.tuple ((as.drop 1).map nD)) = false := by
    rw [row_tup, List.length_map, List.length_drop, la, show (intV (nD n)).toNat = n from Int.toNat_natCast n, pow_nat]
    exact decide_eq_false (by omega)
  rw [tab_eq, e, Bool.false_and, Bool.and_false]
theorem noT2 {s n : Nat} {as : List Nat} (s2 : 2 ≤ s) (la : as.length = s ^ n) : isTable s 1 3 (.tuple [.int ((n : Int) + 1), .tuple (as.map nD)]) = false := by
  have h0 : 0 < s ^ n := Nat.pow_pos (by omega)
  have h1 : s ^ (n + 1) = s ^ n * s := Nat.pow_succ ..
  have h2 : s ^ n * 2 ≤ s ^ n * s := Nat.mul_le_mul_left _ s2
  have e : isRow (pow' (s : Int) (intV (.int ((n : Int) + 1))).toNat) (.tuple (as.map nD)) = false := by
    rw [row_tup, List.length_map, la, show (intV (.int ((n : Int) + 1))).toNat = n + 1 from by show ((n : Int) + 1).toNat = _; omega, pow_nat]
    exact decide_eq_false (by omega)
  rw [tab_eq, e, Bool.false_and, Bool.and_false]
theorem noT3 {s n : Nat} {xs : List D} : isTable s 1 3 (.tuple [nD n, .tuple (xs ++ [nD s])]) = false := by
  have e : (items (.tuple (xs ++ [nD s]))).all (isB s) = false := by
    show (xs ++ [nD s]).all (isB s) = false
    rw [List.all_append]
    have : [nD s].all (isB s) = false := by
      show (isB (s : Int) (nD s) && true) = false
      rw [isB_nat, decide_eq_false (Nat.lt_irrefl s)]
      rfl
    rw [this, Bool.and_false]
  rw [tab_eq, e, Bool.and_false, Bool.and_false]
theorem book_ok2 {s : Nat} (s2 : 2 ≤ s) (s8 : s ≤ 8) {ds : List D} (h : ds.length ≤ 8) : okBook (.tuple [nD s, .list ds]) = true := by
  have e : okBook (.tuple [nD s, .list ds]) = (isBt 2 8 (nD s) && (true && decide (ds.length ≤ 8))) := rfl
  rw [e, bt_nat s2 s8, decide_eq_true h]
  rfl
theorem book_no {s : Nat} {ds : List D} (h : ¬ ds.length ≤ 8) : okBook (.tuple [nD s, .list ds]) = false := by
  have e : okBook (.tuple [nD s, .list ds]) = (isBt 2 8 (nD s) && (true && decide (ds.length ≤ 8))) := rfl
  rw [e, decide_eq_false h, Bool.true_and, Bool.and_false]
theorem book_no2 {s : Nat} : okBook (.tuple [nD s, .none]) = false := by
  have e : okBook (.tuple [nD s, .none]) = (isBt 2 8 (nD s) && (false && decide ((items .none).length ≤ 8))) := rfl
  rw [e, Bool.false_and, Bool.and_false]
theorem ok_law {f c Pt : Addr} {fd : FuncData} {T : List (Addr × Str)} {fT fP fH fS fL fE : Addr} {dT dP dH dS dL dE : FuncData} {fX fN fB fQ fR : Addr} {dX dN dB dQ dR : FuncData} (F : FunC K "law" sLaw f c fd) (Z : Bi mg) (R : Ers K mg B cB iB cO iO cV iV cS iS) (G : Fs K mg P w base cO cV cS fT fP fH fS fL fE dT dP dH dS dL dE)
    (J : Gs K mg P w base T cB cO cS fX fN fB fQ fR dX dN dB dQ dR) (TB : TabB base mg c Pt) (hmT : (Pt, qLaw) ∈ T) (hu : ∀ p ∈ T, p.1 = Pt → p.2 = qLaw) : FnOk P w K mg base CX0 13 f fd ["script"] (spLaw K T) := by
  refine F.ok scLaw (fun vs H Q E h => ?_) (fun A outer sh H vs Q E hr h => ?_)
  · obtain ⟨a, ns, rfl, _⟩ := h
    rfl
  · obtain ⟨a, ns, rfl, hS, hT, k⟩ := h
    have hr8 := hr.units
    obtain ⟨oc, od, kV, doc, pm, an, cdv, ct, osl, rfl, lkE, hcE⟩ := G.err.F.ex
    refine ⟨_, pss_cons (ps_set (i := 1) scLaw.nd rfl (Or.inl rfl) (pe_tup (by exact (pa_cons pe_int (pa_cons (pe_tup (by exact (pa_cons pe_int (pa_cons pe_int (pa_cons pe_int (pa_cons pe_int pa_nil)))))) pa_nil)))))
      (pss_cons (ps_if (PW.pt (pw_or (pt_cmpR (op_neD hr8) (pe_call G.gHeld (hr.mono (by decide)) rfl G.held.g G.held.F.kp G.held.b .nil (pass_never rfl rfl) (by exact (pa_cons pe_int (pa_cons (pv 1) (pa_cons (pe_tupZ (by exact (pa_cons pe_int (pa_cons pe_non pa_nil)))) pa_nil))))) (pe_tup (by exact (pa_cons pe_int (pa_cons (pe_tup (by exact (pa_cons pe_int (pa_cons pe_int pa_nil)))) pa_nil)))) (nomark _))
          (pw_or (pt_cmpR op_ne (pe_call G.gSett (hr.mono (by decide)) rfl G.sett.g G.sett.F.kp G.sett.b .nil (pass_never rfl rfl) (by exact (pa_cons pe_int (pa_cons (pv 1) (pa_cons (pe_lst (by exact (pa_cons pe_int (pa_cons pe_non pa_nil)))) pa_nil))))) pe_int (nomark _))
          (pw_or1 (pt_cmpR op_notN (pe_call G.gSett (hr.mono (by decide)) rfl G.sett.g G.sett.F.kp G.sett.b .nil (pass_never rfl rfl) (by exact (pa_cons pe_int (pa_cons (pv 1) (pa_cons (pe_lst (by exact (pa_cons pe_non (pa_cons pe_int pa_nil)))) pa_nil))))) pe_non (nomark _)))))) (pss_one (ps_ret pe_bl)) pss_nil)
      (pss_cons (ps_for PassesOwn.never rfl (pi_range1 rfl Z.range (pa_cons pe_int pa_nil)) (pg_name (i := 2) scLaw.nd rfl (Or.inl rfl))
        (pss_cons (ps_set (i := 3) scLaw.nd rfl (Or.inr rfl) (pe_call J.gBox (hr.mono (by decide)) rfl J.box.g J.box.F.kp J.box.b .nil pass0 (by exact (pa_cons (pv 0) (pa_cons (pv 2) pa_nil)))))
        (pss_cons (ps_set (i := 4) scLaw.nd rfl (Or.inr rfl) (pe_op op_add pe_int (pe_call G.gTake (hr.mono (by decide)) rfl G.take.g G.take.F.kp G.take.b .nil pass0 (by exact (pa_cons (pv 3) (pa_cons pe_int pa_nil))))))
        (pss_cons (ps_set (i := 5) scLaw.nd rfl (Or.inr rfl) (pe_lc (own := [("turn", 12)]) (g := gName 12) (tt := tYes) (te := tCall (spOpn K) [] E0 (tCons (tVar 3) (tCons (tVar 4) tNil))) rfl scLaw.nd (pi_range1 (by rfl) Z.range (pa_cons (pe_call G.gTake (hr.mono (by decide)) rfl G.take.g G.take.F.kp G.take.b .nil pass0 (by exact (pa_cons (pv 3) (pa_cons pe_int pa_nil)))) pa_nil)) (blkOk_by (N := NLaw) (sc := defScope sLaw) (by decide +kernel))
            (fun _ _ _ _ _ => pg_name (i := 12) scLaw.nd rfl (Or.inl rfl)) (fun _ _ _ _ _ => pts_nil) (fun _ _ _ _ _ => pe_call J.gOpn (hr.mono (by decide)) (by rfl) J.opn.g J.opn.F.kp J.opn.b .nil pass0 (by exact (pa_cons (pv 3) (pa_cons (pv 4) pa_nil))))))
        (pss_cons (ps_set (i := 6) scLaw.nd rfl (Or.inl rfl) (pe_lst (by exact (pa_cons (pv 4) (pa_cons (pe_lc (own := [("places", 13), ("answers", 14)]) (g := gTup K 2 (gCons (gName 13) (gCons (gName 14) gNil))) (tt := tYes) (te := tLst (tCons (tVar 13) (tCons (tCTl K) tNil))) rfl scLaw.nd (pi_list (pv 5)) (blkOk_by (N := NLaw) (sc := defScope sLaw) (by decide +kernel))
            (fun _ _ _ _ _ => pg_tup rfl (pgs_cons (pg_name (i := 13) scLaw.nd rfl (Or.inl rfl)) (pgs_cons (pg_name (i := 14) scLaw.nd rfl (Or.inl rfl)) pgs_nil))) (fun _ _ _ _ _ => pts_nil) (fun _ _ _ _ _ => pe_lst (pa_cons (pv 13) (pa_cons (pe_callTy call_list_of (by rfl) Z.list (by decide +kernel) (pa_cons (pv 14) pa_nil)) pa_nil)))) pa_nil)))))
        (pss_cons (ps_if (pt_cmpR (op_neD hr8) (pe_callK0 J.gBook (hr.mono (by decide)) rfl J.book.g J.book.F.kp (kb_Book J.book.F) (pass_never rfl rfl) (pk_cons (pv 6) pk_nil)) (pe_tup (by exact (pa_cons (pv 4) (pa_cons (pe_tupleOf (by rfl) Z.tuple (pv 5)) pa_nil)))) (nomark _)) (pss_one (ps_ret pe_bl)) pss_nil)
        (pss_cons (ps_set (i := 7) scLaw.nd rfl (Or.inr rfl) (pe_call G.gTake (hr.mono (by decide)) rfl G.take.g G.take.F.kp G.take.b .nil pass0 (by exact (pa_cons (pv 3) (pa_cons (pe_op op_add (pe_callB call_len_seq (by rfl) Z.len PySem.boot_len (pa_cons (pv 5) pa_nil)) pe_int) pa_nil)))))
        (pss_cons (ps_set (i := 8) scLaw.nd rfl (Or.inl rfl) (pe_call J.gOpn (hr.mono (by decide)) rfl J.opn.g J.opn.F.kp J.opn.b .nil pass0 (by exact (pa_cons (pv 3) (pa_cons (pv 4) pa_nil)))))
        (pss_cons (ps_set (i := 9) scLaw.nd rfl (Or.inr rfl) (pe_call G.gPick (hr.mono (by decide)) rfl G.pick.g G.pick.F.kp G.pick.b .nil pass0 (by exact (pa_cons (pv 3) (pa_cons (pe_lst (by exact (pa_cons pe_non
            (pa_cons (pe_tup (by exact (pa_cons (pe_ix ix_tup (pv 8) pe_int (fun _ _ => rfl)) (pa_cons (pe_slice sl_tupA (pe_ix ix_tup (pv 8) pe_int (fun _ _ => rfl)) (po_some pe_int) po_none) pa_nil))))
            (pa_cons (pe_tup (by exact (pa_cons (pe_op op_add (pe_ix ix_tup (pv 8) pe_int (fun _ _ => rfl)) pe_int) (pa_cons (pe_ix ix_tup (pv 8) pe_int (fun _ _ => rfl)) pa_nil))))
            (pa_cons (pe_tup (by exact (pa_cons (pe_ix ix_tup (pv 8) pe_int (fun _ _ => rfl)) (pa_cons (pe_op op_catA (pe_slice sl_tupA (pe_ix ix_tup (pv 8) pe_int (fun _ _ => rfl)) (po_some pe_int) po_none) (pe_tup (by exact (pa_cons (pv 4) pa_nil)))) pa_nil))))
            (pa_cons (pe_tup (by exact (pa_cons pe_int (pa_cons (pe_tup (by exact (pa_cons pe_int pa_nil))) pa_nil))))
            (pa_cons (pe_tup (by exact (pa_cons pe_bl (pa_cons (pe_op op_repT (pe_tup (by exact (pa_cons pe_int pa_nil))) (pv 4)) pa_nil))))
            (pa_cons (pe_tup (by exact (pa_cons (pe_ix ix_tup (pv 8) pe_int (fun _ _ => rfl)) pa_nil))) pa_nil))))))))) pa_nil)))))
        (pss_cons (ps_if (pt_cmpR (op_neD hr8) (LamX.pe_lamcall (k := 9) (t := fun E => tCallS (spNeedBook K cB) (WE fun cls d _ H' => E cls d H') (tCons (tTup (tCons (tVar 4) (tCons (tOp rCat (tOp rCat (tSl (rSlL K) (tVar 5) tNoPart (tPart (tVar 7))) (tLst (tCons (tVar 9) tNil))) (tSl (rSlL K) (tVar 5) (tPart (tVar 7)) tNoPart)) tNil))) tNil)) (by rfl) G.err.g G.err.F.kp lkE hcE G.err.b scErr rfl (Or.inl rfl) (err_gives R) TB rfl hmT hu (hr.mono (by decide)) (lamS_by (sc := defScope sLaw) (by decide +kernel)) rfl (fun _ _ _ _ _ => rfl) (fun A outer s H E f c' hr2 => by exact pe_callS J.gBook (hr2.mono (by decide)) (by rfl) J.book.g J.book.F.kp J.book.b (fun σ => passAt (takes_of rfl rfl rfl rfl) σ) (by exact (pa_cons (pe_tup (by exact (pa_cons (pv 4) (pa_cons (pe_op op_cat (pe_op op_cat (pe_slice sl_list (pv 5) po_none (po_some (pv 7))) (pe_lst (by exact (pa_cons (pv 9) pa_nil)))) (pe_slice sl_list (pv 5) (po_some (pv 7)) po_none)) pa_nil)))) pa_nil)))) (pe_tup (by exact (pa_cons pe_str (pa_cons (pv 7) pa_nil)))) (nomark _)) (pss_one (ps_ret pe_bl)) pss_nil)
        (pss_cons (ps_set (i := 10) scLaw.nd rfl (Or.inr rfl) (pe_call G.gPick (hr.mono (by decide)) rfl G.pick.g G.pick.F.kp G.pick.b .nil pass0 (by exact (pa_cons (pv 3) (pa_cons (pe_lst (by exact (pa_cons pe_non
            (pa_cons (pe_tup (by exact (pa_cons (pv 4) pa_nil)))
            (pa_cons (pe_tup (by exact (pa_cons pe_int (pa_cons (pe_tup pa_nil) pa_nil))))
            (pa_cons (pe_tup (by exact (pa_cons pe_int (pa_cons (pe_tup pa_nil) pa_nil))))
            (pa_cons (pe_tup (by exact (pa_cons (pv 4) (pa_cons pe_non pa_nil))))
            (pa_cons (pe_tup (by exact (pa_cons (pv 4) (pa_cons (pe_op op_rep (pe_lst (by exact (pa_cons (pv 8) pa_nil))) pe_int) pa_nil))))
            (pa_cons (pe_tup (by exact (pa_cons pe_bl (pa_cons (pe_lst pa_nil) pa_nil))))
            (pa_cons pe_str pa_nil)))))))))) pa_nil)))))
        (pss_cons (ps_if (pt_cmpR (op_neD hr8) (LamX.pe_lamcall (k := 9) (by rfl) G.err.g G.err.F.kp lkE hcE G.err.b scErr rfl (Or.inl rfl) (err_gives R) TB rfl hmT hu (hr.mono (by decide)) (lamS_by (sc := defScope sLaw) (by decide +kernel)) rfl (fun _ _ _ _ _ => rfl) (fun A outer s H E f c' hr2 => by exact pe_callS J.gBook (hr2.mono (by decide)) (by rfl) J.book.g J.book.F.kp J.book.b (fun σ => passAt (takes_of rfl rfl rfl rfl) σ) (by exact (pa_cons (pv 10) pa_nil)))) (pe_tup (by exact (pa_cons pe_str (pa_cons (pe_un un_neg pe_int) pa_nil)))) (nomark _)) (pss_one (ps_ret pe_bl)) pss_nil)
        (pss_cons (ps_if (pt_cmpR (op_neD hr8) (LamX.pe_lamcall (k := 9) (by rfl) G.err.g G.err.F.kp lkE hcE G.err.b scErr rfl (Or.inl rfl) (err_gives R) TB rfl hmT hu (hr.mono (by decide)) (lamS_by (sc := defScope sLaw) (by decide +kernel)) rfl (fun _ _ _ _ _ => rfl) (fun A outer s H E f c' hr2 => by exact pe_callS J.gOp (hr2.mono (by decide)) (by rfl) J.op.g J.op.F.kp J.op.b (fun σ => passAt (takes_of rfl rfl rfl rfl) σ) (by exact (pa_cons (pv 4) (pa_cons (pv 9) pa_nil))))) (pe_tup (by exact (pa_cons pe_str (pa_cons (pe_un un_neg pe_int) pa_nil)))) (nomark _)) (pss_one (ps_ret pe_bl)) pss_nil)
        (pss_cons (ps_if (PW.pt (pw_or (pt_cmpR (op_neD hr8) (pe_callK0 J.gOp (hr.mono (by decide)) rfl J.op.g J.op.F.kp (kb_Op J.op.F) (pass_never rfl rfl) (pk_cons (pe_lst (by exact (pa_cons (pe_ix ix_tup (pv 8) pe_int (fun _ _ => rfl)) (pa_cons (pe_callTy call_list_of (by rfl) Z.list (by decide +kernel) (pa_cons (pe_ix ix_tup (pv 8) pe_int (fun _ _ => rfl)) pa_nil)) pa_nil)))) (pk_cons (pv 4) pk_nil))) (pv 8) (nomark _))
            (pw_or1 (pt_not (pt_val (pe_call J.gRight (hr.mono (by decide)) rfl J.right J.kRight J.bRight .nil pass0 (by exact (pa_cons (pv 3) (pa_cons (pv 4) (pa_cons (pv 8) pa_nil)))))))))) (pss_one (ps_ret pe_bl)) pss_nil)
        (pss_one (ps_for PassesOwn.never rfl (pi_list (pv 5)) (pg_name (i := 11) scLaw.nd rfl (Or.inl rfl))
          (pss_one (ps_if (pt_not (pt_val (pe_call J.gRight (hr.mono (by decide)) rfl J.right J.kRight J.bRight .nil pass0 (by exact (pa_cons (pv 3) (pa_cons (pv 4) (pa_cons (pv 11) pa_nil))))))) (pss_one (ps_ret pe_bl)) pss_nil))))))))))))))))))
      (pss_one (ps_ret pe_bl)))), ?_⟩
    refine ⟨(by show 4 ≤ sizeLine; decide), fun ti hti => ⟨(by show 2 ≤ sizeLine; decide), fun tl htl => ?_⟩⟩
    have dL : Dp K (upd (upd H ti (.tup [V.int 0, V.int 0, V.int 0, V.int 1])) tl (.tup [V.int 2, V.ref ti])) (.ref tl) (.tuple [nD 2, .tuple ([0, 0, 0, 1].map nD)]) :=
      .tup (SqT.of upd_same) (.cons (.int 2) (.cons (.tup (SqT.of (same_new htl _ _ upd_same)) (.cons (.int 0) (.cons (.int 0) (.cons (.int 0) (.cons (.int 1) .nil))))) .nil))
    have sL := (same_new (o := .tup [V.int 0, V.int 0, V.int 0, V.int 1]) hti).trans (same_new (o := .tup [V.int 2, V.ref ti]) htl)
    generalize upd (upd H ti (.tup [V.int 0, V.int 0, V.int 0, V.int 1])) tl (.tup [V.int 2, V.ref ti]) = H1 at dL sL
    have OL : OpIs 2 2 [0, 0, 0, 1] (.tuple [nD 2, .tuple ([0, 0, 0, 1].map nD)]) := ⟨rfl, ⟨_, rfl, rfl, rfl⟩, by decide, by decide, by decide, by decide⟩
    refine ⟨_, rfl, (by show 2 ≤ sizeLine; decide), fun th oh hth noh => ?_⟩
    have s2 := same_new (o := .frz oh (.tup [V.int 1, V.non])) hth
    have HI : HeldIs 2 2 [some 1, none] (.tuple ([some 1, none].map oD)) := ⟨rfl, rfl, rfl, fun m h => by simp at h; omega⟩
    refine ⟨.int 2, .ref tl, .ref th, nD 2, _, .tuple ([some 1, none].map oD), rfl, .int 2, dp_same s2 dL, .tup (.inl (.inr ⟨oh, upd_same⟩)) (.cons (.int 1) (.cons .non .nil)), .inr ⟨2, rfl, by decide, by decide, .inr ⟨2, [0, 0, 0, 1], OL, .inr (.inr ⟨[some 1, none], HI, (fun ds z => ⟨th, rfl, .inl ⟨oh, _, upd_same, noh⟩⟩), fun H2 t2 v2 s3 et2 dv2 _ => ?_⟩)⟩⟩⟩
    have eh : heldAns 2 [0, 0, 0, 1] [some 1, none] = [0, 1] := by decide
    rw [eh] at dv2
    refine ⟨(by show 2 ≤ sizeLine; decide), fun tp htp => ⟨(by show 2 ≤ sizeLine; decide), fun tq htq => ?_⟩⟩
    have s4 := (same_new (o := .tup [V.int 0, V.int 1]) htp).trans (same_new (o := .tup [V.int 1, V.ref tp]) htq)
    refine ⟨.tuple [nD 1, .tuple ([0, 1].map nD)], .tuple [nD 1, .tuple ([0, 1].map nD)], .tup (SqT.of (s4 _ _ et2)) (.cons (.int 1) (.cons (dp_same s4 dv2) .nil)), .tup (SqT.of upd_same) (.cons (.int 1) (.cons (.tup (SqT.of (same_new htq _ _ upd_same)) (.cons (.int 0) (.cons (.int 1) .nil))) .nil)), shaped_held _ _, shaped_held _ _, _, rfl, ?_⟩
    rw [held_eq]
    refine go_f rfl ?_
    have sM := (s2.trans s3).trans s4
    generalize upd (upd H2 tp (.tup [V.int 0, V.int 1])) tq (.tup [V.int 1, V.ref tp]) = H3 at sM
    refine ⟨_, rfl, (by show 2 ≤ sizeLine; decide), fun l2 hl2 => ?_⟩
    have s5 := same_new (o := .lst [V.int 0, V.non]) hl2
    have HB : HeldIs 2 2 [some 0, none] (.list ([some 0, none].map oD)) := ⟨rfl, rfl, rfl, fun m h => by simp at h; omega⟩
    refine ⟨.int 2, .ref tl, .ref l2, nD 2, _, .list ([some 0, none].map oD), rfl, .int 2, dp_same (sM.trans s5) dL, .lst (SqL.of upd_same) (.cons (.int 0) (.cons .non .nil)), .inr ⟨2, rfl, by decide, by decide, .inr ⟨2, [0, 0, 0, 1], OL, .inr (.inr ⟨[some 0, none], HB, (fun ds z => nomatch z), fun H4 s6 => ?_⟩)⟩⟩⟩
    have eb : settV 2 [0, 0, 0, 1] [some 0, none] = .int 0 := by
      unfold settV
      rw [if_pos (by decide)]
      rfl
    rw [eb]
    refine ⟨rfl, _, rfl, ?_⟩
    refine go_f rfl ?_
    refine ⟨_, rfl, (by show 2 ≤ sizeLine; decide), fun l3 hl3 => ?_⟩
    have s7 := same_new (o := .lst [V.non, V.int 1]) hl3
    have HC : HeldIs 2 2 [none, some 1] (.list ([none, some 1].map oD)) := ⟨rfl, rfl, rfl, fun m h => by simp at h; omega⟩
    refine ⟨.int 2, .ref tl, .ref l3, nD 2, _, .list ([none, some 1].map oD), rfl, .int 2, dp_same (((sM.trans s5).trans s6).trans s7) dL, .lst (SqL.of upd_same) (.cons .non (.cons (.int 1) .nil)), .inr ⟨2, rfl, by decide, by decide, .inr ⟨2, [0, 0, 0, 1], OL, .inr (.inr ⟨[none, some 1], HC, (fun ds z => nomatch z), fun H5 s8 => ?_⟩)⟩⟩⟩
    have ec : settV 2 [0, 0, 0, 1] [none, some 1] = .non := by
      unfold settV
      rw [if_neg (by decide)]
    rw [ec]
    refine ⟨rfl, _, rfl, ?_⟩
    refine go_f rfl ?_
    have s0 : Same H H5 := (((((sL.trans sM).trans s5).trans s6).trans s7).trans s8)
    have hS5 : SqL K H5 a (ns.map V.int) := s0.seq hS
    have hT5 : Tabs T H5 := hT.ext s0
    clear dL sL sM s2 s3 s4 s5 s6 s7 s8 dv2 et2
    refine ⟨2, rfl, by decide, by decide, ?_⟩
    refine for_range (n := 2) (fun i σ H' => ∃ u2 u3 u4 u5 u6 u7 u8 u9 u10 u11 : Option V, σ = [some (.ref a), some (.ref tl), u2, u3, u4, u5, u6, u7, u8, u9, u10, u11, none, none, none] ∧ SqL K H' a (ns.map V.int) ∧ Tabs T H')
      ⟨none, none, none, none, none, none, none, none, none, none, rfl, hS5, hT5⟩ ?_ ?_
    · rintro i σ H6 hi ⟨u2, u3, u4, u5, u6, u7, u8, u9, u10, u11, rfl, hS6, hT6⟩
      refine ⟨_, rfl, _, rfl, a, _, ns, rfl, (by omega), hS6, fun H7 p s7 np b7 => ?_⟩
      have hT7 := hT6.ext s7
      have hS7 := s7.seq hS6
      refine ⟨_, rfl, p, 3, rfl, by decide, by decide, b7, fun H8 d bt8 b8 d0 d1 => ?_⟩
      obtain ⟨dn, rfl, hdn⟩ := nat_of d0 d1
      refine ⟨_, _, rfl, rfl, ?_⟩
      dsimp only
      rw [show (2 : Int) + (dn : Int) = ((2 + dn : Nat) : Int) from by omega]
      obtain ⟨s, es, s2, s4⟩ : ∃ s : Nat, s = 2 + dn ∧ 2 ≤ s ∧ s ≤ 4 := ⟨2 + dn, rfl, by omega, by omega⟩
      rw [← es]
      clear es d0 d1 hdn
      have hT8 := K01.Tabs.but hT7 b7 bt8
      refine ⟨_, rfl, p, 4, rfl, by decide, by decide, b8, fun H9 d bt9 b9 d0 d1 => ?_⟩
      obtain ⟨m, rfl, hm⟩ := nat_of d0 d1
      refine ⟨m, rfl, by omega, by omega, ?_⟩
      rw [Int.toNat_natCast]
      have hT9 := K01.Tabs.but hT8 b8 bt9
      have b79 := bt8.trans bt9
      have hS9 : SqL K H9 a (ns.map V.int) := sqL_but hS6 np s7 b79
      refine fun D hD => walk_it walk_range (fun i H' => But p H9 H' ∧ Box H' p ∧ ∃ (os : List (Nat × List Nat)) (vs : List V), os.length = i ∧ (∀ o ∈ os, Good s o) ∧ H' D = some (.lst vs) ∧ DpAll K (off (off H' p) D) vs (os.map opT))
        ⟨(But.refl p H9).new hD, b9.ne (b9.fresh hD), [], [], rfl, (fun o h => nomatch h), upd_same, .nil⟩ (fun _ _ _ _ => trivial) ?_ ?_
      · rintro i x _ H10 hi ⟨bt, b10, os, vs, lo, go, eD, dv⟩ ⟨rfl, ex⟩
        have nD := b9.fresh hD
        refine ⟨rfl, _, rfl, _, rfl, p, s, rfl, s2, s4, b10, fun H11 v n as bt11 b11 n1 n3 la hl dvv => ?_⟩
        have eD11 := bt11 D _ eD nD
        have lv : vs.length = os.length := by rw [dpAll_len dv, List.length_map]
        refine ⟨vs, eD11, by rw [lv, lo, sizeLine_eq]; omega, (bt.trans bt11).new hD, b11.ne nD, os ++ [(n, as)], vs ++ [v], by rw [List.length_append, lo]; rfl, fun o ho => ?_, upd_same, ?_⟩
        · rcases List.mem_append.mp ho with h | h
          · exact go o h
          · rw [List.mem_singleton] at h
            rw [h]
            exact ⟨n1, n3, la, hl⟩
        · rw [off_upd2, List.map_append]
          refine dpAll_snoc (dpAll_same (but_off2 bt11) dv) ?_
          exact opT_off (H := off H11 p) (by rw [off_ne nD]; exact eD11) dvv
      rintro H10 ⟨bt10, b10, os, vs, lo, go, eD, dv⟩
      have nD := b9.fresh hD
      have hT10 := K01.Tabs.but hT9 b9 bt10
      have b710 := b79.trans bt10
      have hS10 : SqL K H10 a (ns.map V.int) := sqL_but hS6 np s7 b710
      have lv : vs.length = os.length := by rw [dpAll_len dv, List.length_map]
      have dv10 : DpAll K H10 vs (os.map opT) := dpAll_same (off_le.trans off_le) dv
      refine ⟨_, rfl, _, rfl, D, rfl, ⟨vs, SqL.of eD⟩, fun D2 hD2 => walk_it walk_list (fun i H' => Same H10 H' ∧ Grow K H' D2 ((os.take i).map opL)) ⟨same_new hD2, Grow.nil⟩ (fun i H' _ q => SqL.of (q.1 _ _ eD)) ?_ ?_⟩
      · rintro i x _ H11 hi ⟨s11, g11⟩ ⟨rfl, hx⟩
        obtain ⟨dx, hdx, hxd⟩ := dpAll_get dv10 hx
        obtain ⟨o, ho, rfl⟩ : ∃ o, os[i]? = some o ∧ dx = opT o := by
          rw [List.getElem?_map] at hdx
          cases e : os[i]? with
          | none =>
            rw [e] at hdx
            cases hdx
          | some c =>
            rw [e] at hdx
            exact ⟨c, rfl, (Option.some.inj hdx).symm⟩
        obtain ⟨ax, xx, rfl, qx, rx⟩ := dp_tup hxd
        obtain ⟨a2, rfl, q2⟩ : ∃ a2, xx = [.int (o.1 : Nat), .ref a2] ∧ SqT K H10 a2 (o.2.map fun n : Nat => V.int n) := by
          cases rx with
          | cons h0 r => cases r with
            | cons h1 r => cases r with
              | nil =>
                cases h0
                obtain ⟨a2, x2, rfl, q2, r2⟩ := dp_tup h1
                obtain rfl := dpAll_eqn r2
                exact ⟨a2, rfl, q2⟩
        obtain ⟨acc, eA, _⟩ := id g11
        have lacc := g11.len eA
        rw [List.length_map, List.length_take] at lacc
        refine ⟨ax, _, rfl, seqT s11 qx, rfl, _, _, rfl, _, _, rfl, rfl, rfl, ?_⟩
        refine ⟨_, rfl, _, rfl, a2, _, rfl, .inr (seqT s11 q2), fun l hl => ⟨(by show 2 ≤ sizeLine; decide), fun l2 hl2 => ?_⟩⟩
        have sN := (same_new (o := .lst (o.2.map fun n : Nat => V.int n)) hl).trans (same_new (o := .lst [.int (o.1 : Nat), .ref l]) hl2)
        have n1 : D2 ≠ l := ne_of_none eA hl
        have n2 : D2 ≠ l2 := ne_of_none (same_new hl _ _ eA) hl2
        refine ⟨acc, sN _ _ eA, by rw [lacc, sizeLine_eq]; omega, same_of (s11.trans sN) hD2, ?_⟩
        rw [take_more ho, List.map_append]
        refine (g11.keep sN).put (sN _ _ eA) (.lst (SqL.of (by rw [off_ne (Ne.symm n2), upd_same])) (.cons (.int _) (.cons (.lst (SqL.of (by rw [off_ne (Ne.symm n1)]; exact same_new hl2 _ _ upd_same)) (dpAll_mkn _)) .nil)))
      rintro H11 ⟨s11, g11⟩
      rw [lv, List.take_length] at g11
      have dG11 := g11.dp
      refine ⟨(by show 2 ≤ sizeLine; decide), fun Gv hGv => ?_⟩
      have s12 := same_new (o := .lst [.int (s : Nat), .ref D2]) hGv
      have dGv : Dp K (upd H11 Gv (.lst [.int (s : Nat), .ref D2])) (.ref Gv) (.list [K01.nD s, .list (os.map opL)]) := .lst (SqL.of upd_same) (.cons (.int _) (.cons (dp_same s12 dG11) .nil))
      have s1012 := s11.trans s12
      generalize upd H11 Gv (.lst [.int (s : Nat), .ref D2]) = H12 at dGv s1012
      clear s12 hGv dG11 g11 s11
      have okB := book_ok s2 (by omega : s ≤ 8) (ds := os.map opL) (by rw [List.length_map]; omega)
      refine ⟨_, rfl, .ref Gv, _, rfl, dGv, fun e => absurd (okB.symm.trans e) (by decide), fun _ s' d1 hit => ?_⟩
      cases hit
      refine ⟨fun i x hx hb _ => ?_, fun _ H13 v13 s13 dv13 => ?_⟩
      · exfalso
        have hx : (os.map opL)[i]? = some x := hx
        rw [List.getElem?_map] at hx
        cases e : os[i]? with
        | none =>
          rw [e] at hx
          cases hx
        | some o =>
          rw [e] at hx
          cases hx
          obtain ⟨g1, g2, g3, g4⟩ := go o (List.mem_of_getElem? e)
          rw [(opL_is g1 g2 g3 g4).table] at hb
          cases hb
      refine ⟨_, rfl, _, rfl, .inl ⟨D, vs, rfl, SqL.of (s13 _ _ (s1012 _ _ eD)), fun q hq => ⟨(by show 2 ≤ sizeLine; decide), fun t ht => ?_⟩⟩⟩
      have s14 := (same_new (o := .tup vs) hq).trans (same_new (o := .tup [.int (s : Nat), .ref q]) ht)
      have ev : (items (PyData.list (os.map opL))).map opD = os.map opT := by
        show (os.map opL).map opD = _
        rw [List.map_map]
        rfl
      rw [ev] at dv13
      refine ⟨.tuple [K01.nD s, .tuple (os.map opT)], .tuple [K01.nD s, .tuple (os.map opT)], dp_same s14 dv13, .tup (SqT.of upd_same) (.cons (.int _) (.cons (.tup (SqT.of (same_new ht _ _ upd_same)) (dpAll_same ((s1012.trans s13).trans s14) dv10)) .nil)), shaped_book _ _, shaped_book _ _, _, rfl, ?_⟩
      rw [book_eq]
      refine go_f rfl ?_
      have sE := (s1012.trans s13).trans s14
      generalize upd (upd H13 q (.tup vs)) t (.tup [.int (s : Nat), .ref q]) = H14 at sE
      clear s14 ev dv13 s13 okB dGv s1012 ht hq
      have b14 := b10.same sE
      have hT14 := hT10.ext sE
      have bt14 : But p H8 H14 := (bt9.trans bt10).trans (But.of sE)
      have eD14 := sE _ _ eD
      have dv14 : DpAll K (off (off H14 p) D) vs (os.map opT) := dpAll_same (off_mono fun c o _ e => off_mono (fun c o _ e => sE c o e) c o e) dv
      refine ⟨_, rfl, _, rfl, D, vs, rfl, .inl (SqL.of eD14), _, _, rfl, rfl, p, _, rfl, by omega, by omega, b14, fun H15 d bt15 b15 d0 d1 => ?_⟩
      obtain ⟨j, rfl, hj⟩ := nat_of d0 d1
      have hjo : j ≤ os.length := by omega
      refine ⟨_, rfl, _, rfl, p, s, rfl, s2, s4, b15, fun H16 v1 n as bt16 b16 n1 n3 la hl dv1 => ?_⟩
      have btE : But p H14 H16 := bt15.trans bt16
      have hT16 := K01.Tabs.but hT14 b14 btE
      have eD16 := btE D _ eD14 nD
      have dv16 : DpAll K (off (off H16 p) D) vs (os.map opT) := dpAll_same (but_off2 btE) dv14
      have bt816 : But p H8 H16 := bt14.trans btE
      clear dv14 dv10 dv hT14 hT10 hT9 hT8 bt15 bt16 b15 b14 eD14 eD sE d0 d1
      obtain ⟨a1, x1, rfl, q1, r1⟩ := dp_tup dv1
      obtain ⟨aV, rfl, qV⟩ : ∃ aV, x1 = [.int (n : Nat), .ref aV] ∧ SqT K (off H16 p) aV (as.map fun n : Nat => V.int n) := by
        cases r1 with
        | cons h0 r => cases r with
          | cons h1 r => cases r with
            | nil =>
              cases h0
              obtain ⟨a2, x2, rfl, q2, r2⟩ := dp_tup h1
              obtain rfl := dpAll_eqn r2
              exact ⟨a2, rfl, q2⟩
      have Q1 : ∀ {H'}, Same H16 H' → SqT K H' a1 [.int (n : Nat), .ref aV] := fun s' => seqT (off_le.trans s') q1
      have QV : ∀ {H'}, Same H16 H' → SqT K H' aV (as.map fun n : Nat => V.int n) := fun s' => seqT (off_le.trans s') qV
      have las : 2 ≤ as.length := by
        rw [la]
        exact Nat.le_trans s2 (by
          have := Nat.pow_le_pow_right (n := s) (by omega) n1
          rw [Nat.pow_one] at this
          exact this)
      have cutE : cutV (as.map fun n : Nat => V.int n) (some 1) none = (as.drop 1).map fun n : Nat => V.int n := by
        rw [List.map_drop]
        exact cut_hi _ 1
      have notW : ¬ (HT.sIx (as.map fun n : Nat => V.int n).length 0 (some 1) = 0 ∧ HT.sIx (as.map fun n : Nat => V.int n).length (as.map fun n : Nat => V.int n).length none = (as.map fun n : Nat => V.int n).length) := fun h => by
        have := h.1
        rw [show (some (1 : Int)) = some ((1 : Nat) : Int) from rfl, HT.sIx_nat, List.length_map] at this
        omega
      refine ⟨_, rfl, ?_⟩
      refine ⟨_, rfl, a1, _, _, _, rfl, rfl, Q1 (Same.refl _), atI_nat (j := 0) rfl, ?_⟩
      refine ⟨_, rfl, a1, _, _, _, rfl, rfl, Q1 (Same.refl _), atI_nat (j := 1) rfl, _, rfl, aV, _, rfl, QV (Same.refl _), fun h => absurd h notW, fun _ p1 hp1 => ?_⟩
      rw [cutE]
      refine ⟨(by show 2 ≤ sizeLine; decide), fun w1 hw1 => ?_⟩
      have g1 := (same_new (o := .tup ((as.drop 1).map fun n : Nat => V.int n)) hp1).trans (same_new (o := .tup [.int (n : Nat), .ref p1]) hw1)
      have ep1 := same_new (o := .tup [.int (n : Nat), .ref p1]) hw1 _ _ upd_same
      have ew1 : upd (upd H16 p1 (.tup ((as.drop 1).map fun n : Nat => V.int n))) w1 (.tup [.int (n : Nat), .ref p1]) w1 = some (.tup [.int (n : Nat), .ref p1]) := upd_same
      generalize upd (upd H16 p1 (.tup ((as.drop 1).map fun n : Nat => V.int n))) w1 (.tup [.int (n : Nat), .ref p1]) = K1 at g1 ep1 ew1
      refine ⟨_, rfl, a1, _, _, _, rfl, rfl, Q1 g1, atI_nat (j := 0) rfl, _, _, rfl, rfl, _, rfl, a1, _, _, _, rfl, rfl, Q1 g1, atI_nat (j := 1) rfl, (by show 2 ≤ sizeLine; decide), fun w2 hw2 => ?_⟩
      have g2 := same_new (o := .tup [.int ((n : Int) + 1), .ref aV]) hw2
      have ew2 : upd K1 w2 (.tup [.int ((n : Int) + 1), .ref aV]) w2 = some (.tup [.int ((n : Int) + 1), .ref aV]) := upd_same
      have gA := g1.trans g2
      refine ⟨_, rfl, a1, _, _, _, rfl, rfl, Q1 gA, atI_nat (j := 0) rfl, ?_⟩
      refine ⟨_, rfl, a1, _, _, _, rfl, rfl, Q1 gA, atI_nat (j := 1) rfl, _, rfl, aV, _, rfl, QV gA, fun h => absurd h notW, fun _ p3 hp3 => ?_⟩
      rw [cutE]
      refine ⟨_, rfl, (by show 1 ≤ sizeLine; decide), fun p4 hp4 => ⟨p3, p4, _, _, rfl, rfl, SqT.of (same_new hp4 _ _ upd_same), SqT.of upd_same, ?_, fun z => absurd (congrArg List.length z) (by rw [List.length_map, List.length_drop]; show ¬ (as.length - 1 = 0); omega), (fun _ z => nomatch z), fun _ _ p5 hp5 => ⟨(by show 2 ≤ sizeLine; decide), fun w3 hw3 => ?_⟩⟩⟩
      · rw [List.length_map, List.length_drop, la, sizeLine_eq]
        have h1 : s ^ n ≤ 4 ^ 3 := Nat.le_trans (Nat.pow_le_pow_left s4 n) (Nat.pow_le_pow_right (by decide) n3)
        have h2 : (4 : Nat) ^ 3 = 64 := by decide
        show s ^ n - 1 + 1 ≤ _
        omega
      have g3 := (((same_new (o := .tup ((as.drop 1).map fun n : Nat => V.int n)) hp3).trans (same_new (o := .tup [V.int (s : Nat)]) hp4)).trans (same_new (o := .tup (((as.drop 1).map fun n : Nat => V.int n) ++ [V.int (s : Nat)])) hp5)).trans (same_new (o := .tup [.int (n : Nat), .ref p5]) hw3)
      have ep5 := same_new (o := .tup [.int (n : Nat), .ref p5]) hw3 _ _ upd_same
      have ew3 : upd (upd (upd (upd (upd K1 w2 (.tup [.int ((n : Int) + 1), .ref aV])) p3 (.tup ((as.drop 1).map fun n : Nat => V.int n))) p4 (.tup [V.int (s : Nat)])) p5 (.tup (((as.drop 1).map fun n : Nat => V.int n) ++ [V.int (s : Nat)]))) w3 (.tup [.int (n : Nat), .ref p5]) w3 = some (.tup [.int (n : Nat), .ref p5]) := upd_same
      generalize upd (upd (upd (upd (upd K1 w2 (.tup [.int ((n : Int) + 1), .ref aV])) p3 (.tup ((as.drop 1).map fun n : Nat => V.int n))) p4 (.tup [V.int (s : Nat)])) p5 (.tup (((as.drop 1).map fun n : Nat => V.int n) ++ [V.int (s : Nat)]))) w3 (.tup [.int (n : Nat), .ref p5]) = K3 at g3 ep5 ew3
      have gB := gA.trans g3
      refine ⟨(by show 1 ≤ sizeLine; decide), fun p6 hp6 => ⟨(by show 2 ≤ sizeLine; decide), fun w4 hw4 => ⟨(by show 1 ≤ sizeLine; decide), fun p7 hp7 => ?_⟩⟩⟩
      refine ⟨_, rfl, p7, _, _, rfl, rfl, SqT.of upd_same, (fun z => nomatch z), by omega, by omega, (by show 1 ≤ 1000; decide), fun p8 hp8 => ⟨(by show 2 ≤ sizeLine; decide), fun w5 hw5 => ?_⟩⟩
      have g4 := ((((same_new (o := .tup [V.int 0]) hp6).trans (same_new (o := .tup [V.int 0, V.ref p6]) hw4)).trans (same_new (o := .tup [V.int 0]) hp7)).trans (same_new (o := .tup (List.replicate (s : Int).toNat [V.int 0]).flatten) hp8)).trans (same_new (o := .tup [V.bl true, V.ref p8]) hw5)
      refine ⟨_, rfl, a1, _, _, _, rfl, rfl, Q1 (gB.trans g4), atI_nat (j := 0) rfl, (by show 1 ≤ sizeLine; decide), fun w6 hw6 => ⟨(by show 7 ≤ sizeLine; decide), fun lw hlw => ?_⟩⟩
      have h1 := same_new (o := .tup [V.int 0]) hp6
      have h2 := same_new (o := .tup [V.int 0, V.ref p6]) hw4
      have h3 := same_new (o := .tup [V.int 0]) hp7
      have h4 := same_new (o := .tup (List.replicate (s : Int).toNat [V.int 0]).flatten) hp8
      have h5 := same_new (o := .tup [V.bl true, V.ref p8]) hw5
      have h6 := same_new (o := .tup [V.int (n : Nat)]) hw6
      have h7 := same_new (o := .lst [V.non, V.ref w1, V.ref w2, V.ref w3, V.ref w4, V.ref w5, V.ref w6]) hlw
      have h67 := h6.trans h7
      have h57 := h5.trans h67
      have h47 := h4.trans h57
      have h37 := h3.trans h47
      have h27 := h2.trans h37
      have e_p6 := h27 _ _ upd_same
      have e_w4 := h37 _ _ upd_same
      have e_p8 := h57 _ _ upd_same
      have e_w5 := h67 _ _ upd_same
      have e_w6 := h7 _ _ upd_same
      have gT := g4.trans h67
      have e_p5 := gT _ _ ep5
      have e_w3 := gT _ _ ew3
      have e_w2 := (g3.trans gT) _ _ ew2
      have e_p1 := (g2.trans (g3.trans gT)) _ _ ep1
      have e_w1 := (g2.trans (g3.trans gT)) _ _ ew1
      have gF := gB.trans gT
      have bP : Box _ p := b16.same (gB.trans (g4.trans h6))
      have bF := b16.same gF
      have hTF := hT16.ext gF
      have nlw := bP.fresh hlw
      generalize hHf : upd _ lw (.lst [V.non, V.ref w1, V.ref w2, V.ref w3, V.ref w4, V.ref w5, V.ref w6]) = Hf at e_p6 e_w4 e_p8 e_w5 e_w6 e_p5 e_w3 e_w2 e_p1 e_w1 gF bF hTF
      have e_lw : Hf lw = some (.lst [V.non, V.ref w1, V.ref w2, V.ref w3, V.ref w4, V.ref w5, V.ref w6]) := by rw [← hHf]; exact upd_same
      clear hHf
      refine ⟨p, lw, _, rfl, nlw, bF, e_lw, by show 0 < 7; decide, by show 7 < 1000; decide, fun H17 v bt17 b17 hv => ?_⟩
      have kF : Keep p H16 H17 := (Keep.of gF).trans (Keep.but bt17)
      have ntp : ∀ {a : Addr} {xs : List V}, Hf a = some (.tup xs) → SqT K (core p H17) a xs := fun {a xs} e => by
        have n : a ≠ p := fun z => by
          obtain ⟨x, y, z', q⟩ := bF
          rw [z, q] at e
          cases e
        exact seqT (Keep.but bt17).core (seqT_core e n)
      have dA1 : SqT K (core p H17) a1 [.int (n : Nat), .ref aV] := seqT kF.core (seqT_oc q1)
      have dAV : SqT K (core p H17) aV (as.map fun n : Nat => V.int n) := seqT kF.core (seqT_oc qV)
      obtain ⟨dw, dwv, hwf⟩ : ∃ dw, Dp K (core p H17) v dw ∧ isTable s 1 3 dw = false := by
        simp only [List.mem_cons, List.not_mem_nil, or_false] at hv
        rcases hv with rfl | rfl | rfl | rfl | rfl | rfl | rfl
        · exact ⟨.none, .non, rfl⟩
        · exact ⟨_, .tup (ntp e_w1) (.cons (.int _) (.cons (.tup (ntp e_p1) (dpAll_mkn (as.drop 1))) .nil)), noT1 s2 la⟩
        · exact ⟨_, .tup (ntp e_w2) (.cons (.int _) (.cons (.tup dAV (dpAll_mkn as)) .nil)), noT2 s2 la⟩
        · exact ⟨_, .tup (ntp e_w3) (.cons (.int _) (.cons (.tup (ntp e_p5) (dpAll_app (dpAll_mkn (as.drop 1)) (.cons (.int _) .nil))) .nil)), noT3⟩
        · exact ⟨.tuple [.int 0, .tuple [.int 0]], .tup (ntp e_w4) (.cons (.int _) (.cons (.tup (ntp e_p6) (.cons (.int _) .nil)) .nil)), rfl⟩
        · refine ⟨.tuple [.bool true, .tuple (List.replicate s (.int 0))], .tup (ntp e_w5) (.cons (.bl _) (.cons (.tup (ntp e_p8) ?_) .nil)), rfl⟩
          have : ∀ m : Nat, (List.replicate m [V.int 0]).flatten = List.replicate m (V.int 0) := fun m => by
            induction m with
            | zero => rfl
            | succ m ih => rw [List.replicate_succ, List.flatten_cons, ih]; rfl
          rw [Int.toNat_natCast, this]
          exact dpAll_rep (.int 0) s
        · exact ⟨.tuple [K01.nD n], .tup (ntp e_w6) (.cons (.int _) .nil), rfl⟩
      have dOne : Dp K (core p H17) (.ref a1) (opT (n, as)) := .tup dA1 (.cons (.int _) (.cons (.tup dAV (dpAll_mkn as)) .nil))
      have dOps : DpAll K (core p H17) vs (os.map opT) := dpAll_same kF.core (opsT_core dv16)
      have eD17 := kF D _ eD16 nD (fun _ z => nomatch z) (fun _ z => nomatch z)
      have hT17 := K01.Tabs.but hTF bF bt17
      have k6 : Keep p H6 H17 := (Keep.of s7).trans ((Keep.but bt8).trans ((Keep.but bt816).trans kF))
      have lvo : vs.length = os.length := lv
      clear h1 h2 h3 h4 h5 h6 h7 h67 h57 h47 h37 h27 e_p6 e_w4 e_p8 e_w5 e_w6 gT e_p5 e_w3 e_w2 e_p1 e_w1 gF bP bF hTF nlw e_lw kF ntp hv bt17 dv16 eD16 hT16 Q1 QV q1 qV
      clear g1 g2 g3 g4 gA gB ep1 ew1 ew2 ep5 ew3 hp1 hw1 hw2 hp3 hp4 hp5 hw3 hp6 hw4 hp7 hp8 hw5 hw6 hlw b16 btE bt816 bt8 b79 bt9 hS9 hS10 b710 bt10
      refine ⟨hT17, fun H18 x18 hT18 => ?_⟩
      have b18 := b17.ext x18
      have k18 : Keep p H17 H18 := Keep.ext x18
      have eD18 := k18 D _ eD17 nD (fun _ z => nomatch z) (fun _ z => nomatch z)
      refine ⟨_, rfl, _, rfl, _, rfl, (j : Int), rfl, D, vs, rfl, SqL.of eD18, fun c1 hc1 => ?_⟩
      rw [cut_lo _ (by omega : j ≤ vs.length)]
      have t1 := same_new (o := .lst (vs.take j)) hc1
      refine ⟨_, rfl, (by show 1 ≤ sizeLine; decide), fun c2 hc2 => ⟨c1, c2, _, _, rfl, rfl, same_new hc2 _ _ upd_same, upd_same, ?_, fun c3 hc3 => ?_⟩⟩
      · rw [List.length_take, sizeLine_eq]
        show min j vs.length + 1 ≤ _
        omega
      have t13 := t1.trans ((same_new (o := .lst [v]) hc2).trans (same_new (o := .lst (vs.take j ++ [v])) hc3))
      have e3 : upd (upd (upd H18 c1 (.lst (vs.take j))) c2 (.lst [v])) c3 (.lst (vs.take j ++ [v])) c3 = some (.lst (vs.take j ++ [v])) := upd_same
      generalize upd (upd (upd H18 c1 (.lst (vs.take j))) c2 (.lst [v])) c3 (.lst (vs.take j ++ [v])) = H18a at e3 t13
      clear t1 hc3 hc2 hc1
      refine ⟨_, rfl, _, rfl, (j : Int), rfl, D, vs, rfl, SqL.of (t13 _ _ eD18), fun c4 hc4 => ?_⟩
      rw [cut_hi]
      refine ⟨c3, c4, _, _, rfl, rfl, same_new hc4 _ _ e3, upd_same, ?_, fun c5 hc5 => ⟨(by show 2 ≤ sizeLine; decide), fun c6 hc6 => ?_⟩⟩
      · rw [List.length_append, List.length_take, List.length_drop, sizeLine_eq]
        show min j vs.length + 1 + (vs.length - j) ≤ _
        omega
      have t46 := (same_new (o := .lst (vs.drop j)) hc4).trans ((same_new (o := .lst (vs.take j ++ [v] ++ vs.drop j)) hc5).trans (same_new (o := .tup [V.int (s : Nat), .ref c5]) hc6))
      have tA := t13.trans t46
      have k19 := k18.trans (Keep.of tA)
      have dBk : Dp K (upd (upd (upd H18a c4 (.lst (vs.drop j))) c5 (.lst (vs.take j ++ [v] ++ vs.drop j))) c6 (.tup [V.int (s : Nat), .ref c5])) (.ref c6) (.tuple [K01.nD s, .list ((os.map opT).take j ++ [dw] ++ (os.map opT).drop j)]) :=
        .tup (SqT.of upd_same) (.cons (.int _) (.cons (.lst (SqL.of (same_new hc6 _ _ upd_same)) (dpAll_same core_le (dpAll_app (dpAll_app (dpAll_take j (dpAll_same k19.core dOps)) (.cons (dp_same k19.core dwv) .nil)) (dpAll_drop j (dpAll_same k19.core dOps))))) .nil))
      generalize upd (upd (upd H18a c4 (.lst (vs.drop j))) c5 (.lst (vs.take j ++ [v] ++ vs.drop j))) c6 (.tup [V.int (s : Nat), .ref c5]) = H19 at dBk tA k19
      clear t46 t13 e3 hc4 hc5 hc6 k18 eD18
      have ltk : ((os.map opT).take j ++ [dw] ++ (os.map opT).drop j).length = os.length + 1 := by
        rw [List.length_append, List.length_append, List.length_take, List.length_drop, List.length_map, List.length_singleton]
        omega
      have ltj : ((os.map opT).take j).length = j := by
        rw [List.length_take, List.length_map]
        omega
      have hjj : ((os.map opT).take j ++ [dw] ++ (os.map opT).drop j)[j]? = some dw := by
        rw [List.getElem?_append_left (by rw [List.length_append, ltj, List.length_singleton]; omega), List.getElem?_append_right (by rw [ltj]; exact Nat.le_refl _), ltj, Nat.sub_self]
        rfl
      have okB2 := book_ok2 s2 (by omega : s ≤ 8) (ds := (os.map opT).take j ++ [dw] ++ (os.map opT).drop j) (by rw [ltk]; omega)
      refine ⟨.ref c6, _, rfl, dBk, fun e => absurd (okB2.symm.trans e) (by decide), fun _ s' d1 hit => ?_⟩
      cases hit
      refine ⟨fun i x hx hb hall => ?_, fun hall => ?_⟩
      rotate_left
      · exfalso
        have := hall j dw hjj
        rw [show isTable (s : Int) 1 3 dw = isTable s 1 3 dw from rfl, hwf] at this
        cases this
      obtain rfl : i = j := by
        have hx : ((os.map opT).take j ++ [dw] ++ (os.map opT).drop j)[i]? = some x := hx
        rcases Nat.lt_trichotomy i j with h | h | h
        · exfalso
          rw [List.getElem?_append_left (by rw [List.length_append, ltj]; omega), List.getElem?_append_left (by rw [ltj]; exact h), List.getElem?_take, if_pos h, List.getElem?_map] at hx
          cases e : os[i]? with
          | none =>
            rw [e] at hx
            cases hx
          | some o =>
            rw [e] at hx
            cases hx
            obtain ⟨g1, g2, g3, g4⟩ := go o (List.mem_of_getElem? e)
            have h1 := (opT_is g1 g2 g3 g4).table
            have h2 : isTable (s : Int) 1 3 (opT o) = false := hb
            rw [h1] at h2
            cases h2
        · exact h
        · exfalso
          have h1 := hall j h dw hjj
          rw [show isTable (s : Int) 1 3 dw = isTable s 1 3 dw from rfl, hwf] at h1
          cases h1
      clear hx hb hall hjj ltj ltk okB2 dBk
      intro H20 dd HS hdd
      refine .inl ⟨rfl, dd, _, rfl, upd_same, fun t ht => ?_⟩
      refine ⟨_, rfl, (by show 2 ≤ sizeLine; decide), fun t2 ht2 => ⟨_, _, .tup (SqT.of (same_new ht2 _ _ upd_same)) (.cons (.str _) (.cons (.int _) .nil)), .tup (SqT.of upd_same) (.cons (.str _) (.cons (.int _) .nil)), shaped_si _ okS4, shaped_si _ okS4, _, rfl, ?_⟩⟩
      rw [told_eq _ okS4]
      refine go_f rfl ?_
      have tB := tA.trans (HS.trans ((same_new (o := .xd [("at", .int (i : Nat))]) hdd).trans ((same_new (o := .tup [.str "book", .int (i : Nat)]) ht).trans (same_new (o := .tup [.str "book", .int (i : Nat)]) ht2))))
      have k21 := (Keep.ext x18 (p := p)).trans (Keep.of tB)
      have b21 := b18.same tB
      have hT21 := hT18.ext tB
      clear hdd ht ht2 HS tA k19
      generalize upd _ t2 _ = H21 at tB k21 b21 hT21
      clear tB b18 hT18 x18
      have dOne21 := dp_same k21.core dOne
      refine ⟨_, rfl, _, rfl, (by show 1 ≤ sizeLine; decide), fun u1 hu1 => ⟨(by show 0 ≤ sizeLine; decide), fun q1 hq1 => ⟨(by show 2 ≤ sizeLine; decide), fun u2' hu2 => ⟨(by show 0 ≤ sizeLine; decide), fun q2 hq2 => ⟨(by show 2 ≤ sizeLine; decide), fun u3' hu3 => ?_⟩⟩⟩⟩⟩
      refine ⟨_, rfl, (by show 2 ≤ sizeLine; decide), fun u4' hu4 => ?_⟩
      refine ⟨_, rfl, _, rfl, (by show 1 ≤ sizeLine; decide), fun l1 hl1 => ⟨l1, _, _, rfl, rfl, upd_same, by omega, by omega, (by show 9 ≤ sizeLine; decide), fun l2' hl2' => ⟨(by show 2 ≤ sizeLine; decide), fun u5' hu5 => ?_⟩⟩⟩
      refine ⟨(by show 0 ≤ sizeLine; decide), fun l3' hl3' => ⟨(by show 2 ≤ sizeLine; decide), fun u6' hu6 => ⟨(by show 8 ≤ sizeLine; decide), fun lb hlb => ?_⟩⟩⟩
      have m1 := same_new (o := .tup [V.int (s : Nat)]) hu1
      have m2 := same_new (o := .tup []) hq1
      have m3 := same_new (o := .tup [V.int 1, V.ref q1]) hu2
      have m4 := same_new (o := .tup []) hq2
      have m5 := same_new (o := .tup [V.int 9, V.ref q2]) hu3
      have m6 := same_new (o := .tup [V.int (s : Nat), V.non]) hu4
      have m7 := same_new (o := .lst [V.ref a1]) hl1
      have m8 := same_new (o := .lst (List.replicate (9 : Int).toNat [V.ref a1]).flatten) hl2'
      have m9 := same_new (o := .tup [V.int (s : Nat), V.ref l2']) hu5
      have m10 := same_new (o := .lst []) hl3'
      have m11 := same_new (o := .tup [V.bl true, V.ref l3']) hu6
      have m12 := same_new (o := .lst [V.non, V.ref u1, V.ref u2', V.ref u3', V.ref u4', V.ref u5', V.ref u6', V.str "ab"]) hlb
      have f11 := m11.trans m12
      have f10 := m10.trans f11
      have f9 := m9.trans f10
      have f8 := m8.trans f9
      have f7 := m7.trans f8
      have f6 := m6.trans f7
      have f5 := m5.trans f6
      have f4 := m4.trans f5
      have f3 := m3.trans f4
      have f2 := m2.trans f3
      have f1 := m1.trans f2
      have e_u1 := f2 _ _ upd_same
      have e_q1 := f3 _ _ upd_same
      have e_u2 := f4 _ _ upd_same
      have e_q2 := f5 _ _ upd_same
      have e_u3 := f6 _ _ upd_same
      have e_u4 := f7 _ _ upd_same
      have e_l2 := f9 _ _ upd_same
      have e_u5 := f10 _ _ upd_same
      have e_l3 := f11 _ _ upd_same
      have e_u6 := m12 _ _ upd_same
      have bG := b21.same f1
      have hTG := hT21.ext f1
      have nlb := (b21.same (m1.trans (m2.trans (m3.trans (m4.trans (m5.trans (m6.trans (m7.trans (m8.trans (m9.trans (m10.trans m11))))))))))).fresh hlb
      generalize hHg : upd _ lb (.lst [V.non, V.ref u1, V.ref u2', V.ref u3', V.ref u4', V.ref u5', V.ref u6', V.str "ab"]) = Hg at e_u1 e_q1 e_u2 e_q2 e_u3 e_u4 e_l2 e_u5 e_l3 e_u6 f1 bG hTG
      have e_lb : Hg lb = some (.lst [V.non, V.ref u1, V.ref u2', V.ref u3', V.ref u4', V.ref u5', V.ref u6', V.str "ab"]) := by rw [← hHg]; exact upd_same
      clear hHg
      refine ⟨p, lb, _, rfl, nlb, bG, e_lb, by show 0 < 8; decide, by show 8 < 1000; decide, fun H22 v2 bt22 b22 hv => ?_⟩
      have k22 := (k21.trans (Keep.of f1)).trans (Keep.but bt22)
      have ntp : ∀ {a : Addr} {xs : List V}, Hg a = some (.tup xs) → SqT K (core p H22) a xs := fun {a xs} e => by
        have n : a ≠ p := fun z => by
          obtain ⟨x, y, z', q⟩ := bG
          rw [z, q] at e
          cases e
        exact seqT (Keep.but bt22).core (seqT_core e n)
      have ntl : ∀ {a : Addr} {xs : List V}, Hg a = some (.lst xs) → xs.length ≠ 3 → SqL K (core p H22) a xs := fun {a xs} e l => by
        have n : a ≠ p := fun z => by
          obtain ⟨x, y, z', q⟩ := bG
          rw [z, q] at e
          cases e
          exact l rfl
        exact (Keep.but bt22).core.seq (seqL_core e n)
      obtain ⟨db, dbv, hbf⟩ : ∃ db, Dp K (core p H22) v2 db ∧ okBook db = false := by
        simp only [List.mem_cons, List.not_mem_nil, or_false] at hv
        rcases hv with rfl | rfl | rfl | rfl | rfl | rfl | rfl | rfl
        · exact ⟨.none, .non, rfl⟩
        · exact ⟨.tuple [K01.nD s], .tup (ntp e_u1) (.cons (.int _) .nil), rfl⟩
        · exact ⟨.tuple [.int 1, .tuple []], .tup (ntp e_u2) (.cons (.int _) (.cons (.tup (ntp e_q1) .nil) .nil)), rfl⟩
        · exact ⟨.tuple [.int 9, .tuple []], .tup (ntp e_u3) (.cons (.int _) (.cons (.tup (ntp e_q2) .nil) .nil)), rfl⟩
        · exact ⟨.tuple [K01.nD s, .none], .tup (ntp e_u4) (.cons (.int _) (.cons .non .nil)), book_no2⟩
        · exact ⟨.tuple [K01.nD s, .list (List.replicate 9 (opT (n, as)))], .tup (ntp e_u5) (.cons (.int _) (.cons (.lst (ntl e_l2 (by show ¬ 9 = 3; decide)) (dpAll_rep (dp_same k22.core dOne) 9)) .nil)), book_no (by rw [List.length_replicate]; decide)⟩
        · exact ⟨.tuple [.bool true, .list []], .tup (ntp e_u6) (.cons (.bl _) (.cons (.lst (ntl e_l3 (by show ¬ 0 = 3; decide)) .nil) .nil)), rfl⟩
        · exact ⟨.str "ab", .str _, rfl⟩
      have hT22 := K01.Tabs.but hTG bG bt22
      clear m1 m2 m3 m4 m5 m6 m7 m8 m9 m10 m11 m12 f1 f2 f3 f4 f5 f6 f7 f8 f9 f10 f11 e_u1 e_q1 e_u2 e_q2 e_u3 e_u4 e_l2 e_u5 e_l3 e_u6 e_lb bG hTG nlb ntp ntl hv bt22 hu1 hq1 hu2 hq2 hu3 hu4 hl1 hl2' hu5 hl3' hu6 hlb b21 hT21 dOne21 k21
      refine ⟨hT22, fun H23 x23 hT23 => ?_⟩
      refine ⟨_, rfl, v2, db, rfl, dp_same core_le (dp_same (Keep.ext x23).core dbv), fun _ => ?_, fun e => absurd (hbf.symm.trans e) (by decide)⟩
      intro H24 dd HS hdd
      refine .inl ⟨rfl, dd, _, rfl, upd_same, fun t ht => ?_⟩
      refine ⟨_, rfl, (by show 2 ≤ sizeLine; decide), fun t2 ht2 => ⟨_, _, .tup (SqT.of (same_new ht2 _ _ upd_same)) (.cons (.str _) (.cons (.int _) .nil)), .tup (SqT.of upd_same) (.cons (.str _) (.cons (.int _) .nil)), shaped_si _ okS4, shaped_si _ okS4, _, rfl, ?_⟩⟩
      rw [told_eq _ okS4]
      refine go_f rfl ?_
      have tB := HS.trans ((same_new (o := .xd [("at", .int (-1))]) hdd).trans ((same_new (o := .tup [.str "book", .int (-1)]) ht).trans (same_new (o := .tup [.str "book", .int (-1)]) ht2)))
      have k25 := (k22.trans (Keep.ext x23)).trans (Keep.of tB)
      have b25 := (b22.ext x23).same tB
      have hT25 := hT23.ext tB
      clear hdd ht ht2 HS
      generalize upd _ t2 _ = H25 at tB k25 b25 hT25
      clear tB b22 hT23 x23 k22 hT22
      refine ⟨hT25, fun H26 x26 hT26 => ?_⟩
      have k26 := k25.trans (Keep.ext x26)
      refine ⟨_, rfl, _, rfl, .int (s : Nat), v, K01.nD s, dw, rfl, .int _, dp_same core_le (dp_same k26.core dwv), fun e => absurd ((bt_nat s2 (by omega : s ≤ 8)).symm.trans e) (by decide), fun _ _ => ?_, fun _ e => absurd (hwf.symm.trans e) (by decide)⟩
      intro H27 dd HS hdd
      refine .inr (.inl ⟨rfl, dd, _, rfl, upd_same, fun t ht => ?_⟩)
      refine ⟨_, rfl, (by show 2 ≤ sizeLine; decide), fun t2 ht2 => ⟨_, _, .tup (SqT.of (same_new ht2 _ _ upd_same)) (.cons (.str _) (.cons (.int _) .nil)), .tup (SqT.of upd_same) (.cons (.str _) (.cons (.int _) .nil)), shaped_si _ okS3, shaped_si _ okS3, _, rfl, ?_⟩⟩
      rw [told_eq _ okS3]
      refine go_f rfl ?_
      have tB := HS.trans ((same_new (o := .xd [("at", .int (-1))]) hdd).trans ((same_new (o := .tup [.str "operation", .int (-1)]) ht).trans (same_new (o := .tup [.str "operation", .int (-1)]) ht2)))
      have k28 := k26.trans (Keep.of tB)
      have b28 := (b25.ext x26).same tB
      have hT28 := hT26.ext tB
      clear hdd ht ht2 HS
      generalize upd _ t2 _ = H28 at tB k28 b28 hT28
      clear tB b25 hT26 x26 k26 hT25 k25
      have A1 : ∀ {H'}, Same H28 H' → SqT K H' a1 [.int (n : Nat), .ref aV] := fun s' => seqT (core_le.trans s') (seqT k28.core dA1)
      have AV : ∀ {H'}, Same H28 H' → SqT K H' aV (as.map fun n : Nat => V.int n) := fun s' => seqT (core_le.trans s') (seqT k28.core dAV)
      refine ⟨_, rfl, a1, _, _, _, rfl, rfl, A1 (Same.refl _), atI_nat (j := 0) rfl, _, rfl, a1, _, _, _, rfl, rfl, A1 (Same.refl _), atI_nat (j := 1) rfl, aV, _, rfl, .inr (AV (Same.refl _)), fun l hl' => ⟨(by show 2 ≤ sizeLine; decide), fun l2' hl2' => ?_⟩⟩
      have sN := (same_new (o := .lst (as.map fun n : Nat => V.int n)) hl').trans (same_new (o := .lst [.int (n : Nat), .ref l]) hl2')
      have tO := (opL_is (s := s) (o := (n, as)) n1 n3 la hl).table
      refine ⟨_, rfl, .int (s : Nat), .ref l2', K01.nD s, opL (n, as), rfl, .int _, .lst (SqL.of upd_same) (.cons (.int _) (.cons (.lst (SqL.of (same_new hl2' _ _ upd_same)) (dpAll_mkn as)) .nil)), fun e => absurd ((bt_nat s2 (by omega : s ≤ 8)).symm.trans e) (by decide), fun _ e => absurd (tO.symm.trans e) (by decide), fun _ _ H29 v3 s29 d29 => ?_⟩
      refine ⟨_, rfl, opT (n, as), opT (n, as), d29, dp_same (core_le.trans (sN.trans s29)) (dp_same k28.core dOne), shaped_held _ _, shaped_held _ _, _, rfl, ?_⟩
      have eO : PyData.eqv (opT (n, as)) (opT (n, as)) = true := held_eq _ _
      rw [eO]
      refine go_f rfl ?_
      have k29 := k28.trans (Keep.of (sN.trans s29))
      have b29 := b28.same (sN.trans s29)
      have hT29 := hT28.ext (sN.trans s29)
      clear sN s29 hl' hl2' A1 AV d29 tO b28 hT28 k28
      refine ⟨_, rfl, _, rfl, _, rfl, p, s, n, .ref a1, as, rfl, s2, s4, n1, n3, la, hl, dp_same k29.core dOne, b29, hT29, fun H30 k30' b30 hT30 => ⟨true, rfl, ?_⟩⟩
      refine go_f rfl ?_
      have k30 := k29.trans k30'
      have eD30 := k30 D _ eD17 nD (fun _ z => nomatch z) (fun _ z => nomatch z)
      refine ⟨_, rfl, D, rfl, ⟨_, SqL.of eD30⟩, for_list (K := K) (a := D) (xs := vs) (fun i σ H' => ∃ x2 x5 x6 x7 x8 x9 x10 x11 : Option V, σ = [some (.ref a), some (.ref tl), x2, some (.ref p), some (.int (s : Nat)), x5, x6, x7, x8, x9, x10, x11, none, none, none] ∧ Keep p H17 H' ∧ Box H' p ∧ Tabs T H')
        ⟨_, _, _, _, _, _, _, _, rfl, k30, b30, hT30⟩ (fun i σ H' _ h => by obtain ⟨_, _, _, _, _, _, _, _, _, k', _⟩ := h; exact SqL.of (k' D _ eD17 nD (fun _ z => nomatch z) (fun _ z => nomatch z))) ?_ ?_⟩
      · rintro i x σ H31 hx ⟨x2, x5, x6, x7, x8, x9, x10, x11, rfl, k31, b31, hT31⟩
        obtain ⟨dx, hdx, hxd⟩ := dpAll_get dOps hx
        obtain ⟨o, ho, rfl⟩ : ∃ o, os[i]? = some o ∧ dx = opT o := by
          rw [List.getElem?_map] at hdx
          cases e : os[i]? with
          | none =>
            rw [e] at hdx
            cases hdx
          | some c =>
            rw [e] at hdx
            exact ⟨c, rfl, (Option.some.inj hdx).symm⟩
        obtain ⟨g1, g2, g3, g4⟩ := go o (List.mem_of_getElem? ho)
        refine ⟨_, rfl, _, rfl, _, rfl, p, s, o.1, x, o.2, rfl, s2, s4, g1, g2, g3, g4, dp_same k31.core hxd, b31, hT31, fun H32 k32 b32 hT32 => ⟨true, rfl, ?_⟩⟩
        refine go_f rfl ?_
        exact ⟨_, _, _, _, _, _, _, _, rfl, k31.trans k32, b32, hT32⟩
      · rintro σ H31 ⟨x2, x5, x6, x7, x8, x9, x10, x11, rfl, k31, b31, hT31⟩
        exact ⟨_, _, _, _, _, _, _, _, _, _, rfl, sqL_keep hS6 np (k6.trans k31), hT31⟩
    · rintro σ H6 ⟨u2, u3, u4, u5, u6, u7, u8, u9, u10, u11, rfl, _, _⟩
      exact k H6
end
end K01
namespace K01
open PySem PySem.W L2 FX
section
variable {K : Frag} {h : Heap} {mg : Str → Option Value}
theorem base_mk {b : Str} {B N : Addr} {q : Str} {bs : List Value} {sn : List Str} {sub : List Value} {ab : Bool} {col : Option Bool} {dd : Option Addr} {k0 k1 k2 k3 k5 : Option Value} (X : K.In h) (G : h.Ns mainGlobals mg)
    (a : nsIn K mainGlobals b = some (some (.ref B))) (l : K.lookup B = some (excClassObj b q B N bs tl true sn sub ab col dd k0 k1 k2 k3 k5 "Exception.__new__")) : BaseTxt K mg b B := ⟨mg_of X G a, _, _, _, _, _, _, _, _, _, _, _, _, _, l⟩
theorem err_mk {x : Str} {B C N : Addr} {q : Str} {bs : List Value} {sn : List Str} {sub : List Value} {ab : Bool} {col : Option Bool} {dd : Option Addr} {k0 k1 k2 k3 k5 : Option Value} (X : K.In h) (G : h.Ns mainGlobals mg)
    (a : nsIn K mainGlobals x = some (some (.ref C))) (l : K.lookup C = some (excClassObj x q C N bs (.ref B :: tl) true sn sub ab col dd k0 k1 k2 k3 k5 "Exception.__new__")) (c : keepIn K (.ref C) = true) : ErrTxt K mg B x C :=
  ⟨mg_of X G a, ⟨_, _, _, _, _, _, _, _, _, _, _, _, _, l⟩, c⟩
theorem init_mk {qn f : Str} {C i : Addr} {oc : Value} {od : Option Addr} {doc pm : Value} {an : Option Addr} {cdv ct : Value} {osl : Array (Option Value)} {p1 p2 q1 q2 q3 q4 : Pos} (ff : f = "at" ∨ f = "word")
    (iC : findIn K (.ref C) "__init__" = some (some (.ref i))) (sa : findIn K (.ref C) "__setattr__" = some (some (.builtin "object.__setattr__"))) (ga : findIn K (.ref C) "__getattribute__" = some (some (.builtin "BaseException.__getattribute__")))
    (gg : findIn K (.ref C) "__getattr__" = some none) (nf : findIn K (.ref C) f = some none) (tI : typeIn K (.ref i) = some (.type "function"))
    (fn : K.lookup i = some ⟨oc, od, .func (fnOf "__init__" qn (inA f p1 p2) (inB f q1 q2 q3 q4) (inS f) .none .none doc pm an cdv ct), osl⟩) (cd : codeIn K cdv qn = true) : InitTxt K qn f C i :=
  ⟨sa, ga, gg, nf, iC, tI, ⟨_, _, _, _, _, _, _, _, _, _, _, _, _, _, fn, cd⟩, ff⟩
theorem at_mk {x : Str} {st : Stmt} {f : Addr} {ps : List Str} {oc : Value} {od : Option Addr} {kV doc pm : Value} {an : Option Addr} {cdv ct : Value} {osl : Array (Option Value)} (X : K.In h) (G : h.Ns mainGlobals mg)
    (hb : ∀ (kV doc pm : Value) (an : Option Addr) (cdv ct : Value) (us : List Value), us.length = ps.length → bindArgs (fnOf x x (defArgs st) (defBody st) (defScope st) .none kV doc pm an cdv ct) ⟨us, []⟩ = pure (ps.zip us))
    (a : nsIn K mainGlobals x = some (some (.ref f))) (l : K.lookup f = some ⟨oc, od, .func (fnOf x x (defArgs st) (defBody st) (defScope st) .none kV doc pm an cdv ct), osl⟩) (c : codeIn K cdv x = true) (k : keepIn K (.ref f) = true) :
    At K mg x st f (fnOf x x (defArgs st) (defBody st) (defScope st) .none kV doc pm an cdv ct) ps := ⟨fun_mk l c k, mg_of X G a, (fun_mk (st := st) l c k).binds hb⟩
/-- a def that makes lambdas: its code object and the table of these -/
structure AtC (K : Frag) (h : Heap) (mg : Str → Option Value) (x : Str) (st : Stmt) (f c P : Addr) (fd : FuncData) (ps : List Str) : Prop where
  F : FunC K x st f c fd
  g : mg x = some (.ref f)
  b : Binds K fd ps []
  C : CodeHd h c P
  n : K.lookup P = none
  z : h.get? P = some { cls := .none, data := .fields #[] }
theorem atC_mk {x : Str} {st : Stmt} {f c P : Addr} {ps : List Str} {oc : Value} {od : Option Addr} {kV doc pm : Value} {an : Option Addr} {ct cl : Value} {osl sl : Array (Option Value)} {dd : Option Addr} {vs : Array Value} (X : K.In h) (G : h.Ns mainGlobals mg)
    (hb : ∀ (kV doc pm : Value) (an : Option Addr) (cdv ct : Value) (us : List Value), us.length = ps.length → bindArgs (fnOf x x (defArgs st) (defBody st) (defScope st) .none kV doc pm an cdv ct) ⟨us, []⟩ = pure (ps.zip us))
    (a : nsIn K mainGlobals x = some (some (.ref f))) (l : K.lookup f = some ⟨oc, od, .func (fnOf x x (defArgs st) (defBody st) (defScope st) .none kV doc pm an (.ref c) ct), osl⟩) (cd : codeIn K (.ref c) x = true) (k : keepIn K (.ref f) = true)
    (lc : K.lookup c = some ⟨cl, dd, .fields vs, sl⟩) (v : vs[11]? = some (.ref P)) (e : codeHdIn K c P = true) (n : K.lookup P = none) (z : h.get? P = some { cls := .none, data := .fields #[] }) :
    AtC K h mg x st f c P (fnOf x x (defArgs st) (defBody st) (defScope st) .none kV doc pm an (.ref c) ct) ps := ⟨⟨⟨_, _, _, _, _, _, _, _, rfl, l, cd⟩, k⟩, mg_of X G a, (fun_mk (st := st) l cd k).binds hb, codeHd_of_K X e, n, z⟩
theorem tabS_0 {H : Hp} {P : Addr} {q : Str} (e : H P = some (.tbl #[])) : LamX.TabS H P q := ⟨#[], e, trivial, fun pos cv h => nomatch h⟩
end
set_option maxHeartbeats 4000000 in
theorem all_mk {l : OpenLaw} {w : World} {K : Frag} {h : Heap} {mg : Str → Option Value} {fa B cB cO cV cS iB iO iV iS f0 f1 f2 f3 f4 f5 f6 f7 f8 f9 f10 f11 f12 f13 f14 f15 f16 f17 f18 f19 f20 f21 f22 f23 f24 f25 f26 f27 g0 k0 t0 g1 k1 t1 : Addr} {d0 d1 d2 d3 d4 d5 d6 d7 d8 d9 d10 d11 d12 d13 d14 d15 d16 d17 d18 d19 d20 d21 d22 d23 d24 d25 d26 d27 m0 : FuncData} {kV doc pm ct : Value} {an : Option Addr} (X : K.In h) (G : h.Ns mainGlobals mg) (hfa : mg "law" = some (.ref fa))
    (S : BaseTxt K mg "FoldError" B)
    (EB : ErrTxt K mg B "InvalidBook" cB)
    (UB : InitTxt K "InvalidBook.__init__" "at" cB iB)
    (EO : ErrTxt K mg B "InvalidOperation" cO)
    (UO : InitTxt K "InvalidOperation.__init__" "at" cO iO)
    (EV : ErrTxt K mg B "InvalidValues" cV)
    (UV : InitTxt K "InvalidValues.__init__" "at" cV iV)
    (ES : ErrTxt K mg B "InvalidSize" cS)
    (US : InitTxt K "InvalidSize.__init__" "word" cS iS)
    (D0 : At K mg "is_integer" sInteger f0 d0 ["value"])
    (D1 : At K mg "is_number" sNumber f1 d1 ["value"])
    (D2 : At K mg "is_below" sBelow f2 d2 ["many", "value"])
    (D3 : At K mg "is_between" sBetween f3 d3 ["least", "most", "value"])
    (D4 : At K mg "is_sequence" sSequence f4 d4 ["value"])
    (D5 : At K mg "is_row_of" sRowOf f5 d5 ["many", "value"])
    (D6 : At K mg "power" sPower f6 d6 ["base", "times"])
    (D7 : At K mg "all_rows" sRows f7 d7 ["choices"])
    (D8 : At K mg "spot_in" sSpot f8 d8 ["sizes", "row"])
    (D9 : At K mg "is_alike" sAlike f9 d9 ["row"])
    (D10 : At K mg "left_many" sHeldN f10 d10 ["held"])
    (D11 : At K mg "held_answers" sHeldA f11 d11 ["answers", "sizes", "held"])
    (D12 : At K mg "is_size" sSize f12 d12 ["value"])
    (D13 : At K mg "need_size" sNeedSize f13 d13 ["value"])
    (D14 : At K mg "is_table" sTable f14 d14 ["size", "least", "most", "value"])
    (D15 : At K mg "is_operation" sOper f15 d15 ["size", "value"])
    (D16 : At K mg "need_operation" sNeedOp f16 d16 ["size", "value"])
    (D17 : At K mg "need_book" sNeedBook f17 d17 ["value"])
    (D18 : At K mg "need_held" sNeedHeld f18 d18 ["size", "places", "held"])
    (D19 : At K mg "held_table" sHT f19 d19 ["size", "operation", "held"])
    (D20 : At K mg "settled_value" sSettled f20 d20 ["size", "operation", "held"])
    (D21 : At K mg "_law_box" sBox f21 d21 ["script", "k"])
    (D22 : At K mg "_law_take" sTake f22 d22 ["box", "many"])
    (D23 : At K mg "_law_pick" sPick f23 d23 ["box", "some"])
    (D24 : At K mg "_law_grid" sGrid f24 d24 ["size", "many"])
    (D25 : At K mg "_law_operation" sOpn f25 d25 ["box", "size"])
    (D26 : At K mg "_law_held" sHeldL f26 d26 ["size", "operation", "held"])
    (D27 : At K mg "_law_error" sErr f27 d27 ["work"])
    (M0 : AtC K h mg "_law_held_right" sHR g0 k0 t0 m0 ["box", "size", "operation"])
    (M1 : AtC K h mg "law" sLaw g1 k1 t1 (fnOf "law" "law" (defArgs sLaw) (defBody sLaw) (defScope sLaw) .none kV doc pm an (.ref k1) ct) ["script"])
    (ne0_1 : (t0 == t1) = false)
    (n_int : nsIn K mainGlobals "int" = some none)
    (n_bool : nsIn K mainGlobals "bool" = some none)
    (n_list : nsIn K mainGlobals "list" = some none)
    (n_tuple : nsIn K mainGlobals "tuple" = some none)
    (n_isinstance : nsIn K mainGlobals "isinstance" = some none)
    (n_len : nsIn K mainGlobals "len" = some none)
    (n_range : nsIn K mainGlobals "range" = some none)
    (n_zip : nsIn K mainGlobals "zip" = some none)
    (n_all : nsIn K mainGlobals "all" = some none)
    (n_enumerate : nsIn K mainGlobals "enumerate" = some none)
    (n_abs : nsIn K mainGlobals "abs" = some none)
    (n_max : nsIn K mainGlobals "max" = some none)
    (n_min : nsIn K mainGlobals "min" = some none)
    (n_set : nsIn K mainGlobals "set" = some none)
    (n_repr : nsIn K mainGlobals "repr" = some none) :
    LamX.LawAtS l w K CX0 13 63 "script" mg fa h := by
  have e := hfa.symm.trans M1.g
  cases e
  have n01 : t0 ≠ t1 := fun z => by
    rw [z] at ne0_1
    simp at ne0_1
  have Z : Bi mg := ⟨mg_none_of X G n_int, mg_none_of X G n_bool, mg_none_of X G n_list, mg_none_of X G n_tuple, mg_none_of X G n_isinstance, mg_none_of X G n_len, mg_none_of X G n_range, mg_none_of X G n_zip, mg_none_of X G n_all, mg_none_of X G n_enumerate, mg_none_of X G n_abs, mg_none_of X G n_max, mg_none_of X G n_min, mg_none_of X G n_set, mg_none_of X G n_repr⟩
  have R : Ers K mg B cB iB cO iO cV iV cS iS := ⟨S, ⟨EB, UB⟩, ⟨EO, UO⟩, ⟨EV, UV⟩, ⟨ES, US⟩⟩
  refine ⟨fnOf "law" "law" (defArgs sLaw) (defBody sLaw) (defScope sLaw) .none kV doc pm an (.ref k1) ct, [(k0, t0), (k1, t1)], spLaw K [(t0, qHR), (t1, qLaw)], (List.forall_mem_cons.mpr ⟨M0.z, (List.forall_mem_cons.mpr ⟨M1.z, (fun _ h => nomatch h)⟩)⟩), (List.forall_mem_cons.mpr ⟨M0.n, (List.forall_mem_cons.mpr ⟨M1.n, (fun _ h => nomatch h)⟩)⟩), (List.forall_mem_cons.mpr ⟨M0.C, (List.forall_mem_cons.mpr ⟨M1.C, (fun _ h => nomatch h)⟩)⟩), fun s v => .of_eq rfl, fun H a ns _ _ hH hS => ⟨a, ns, rfl, hS, (List.forall_mem_cons.mpr ⟨tabS_0 (hH _ (List.mem_cons_self ..)), (List.forall_mem_cons.mpr ⟨tabS_0 (hH _ (List.mem_cons_of_mem _ (List.mem_cons_self ..))), (fun _ h => nomatch h)⟩)⟩), fun _ => rfl⟩, fun base _ _ TB => ?_⟩
  · have gInt : FnOk l.prog w K mg base CX0 1 _ _ ["value"] (spB K isI) := ok_integer D0.F Z
    have gNum : FnOk l.prog w K mg base CX0 2 _ _ ["value"] (spB K isN) := ok_number D1.F Z D0
    have gBel : FnOk l.prog w K mg base CX0 3 _ _ ["many", "value"] (spB1 K isB) := ok_below D2.F D1 gNum
    have gBet : FnOk l.prog w K mg base CX0 2 _ _ ["least", "most", "value"] (spB2 K isBt) := ok_between D3.F D0 gInt
    have gSeq : FnOk l.prog w K mg base CX0 1 _ _ ["value"] (spB K isSq) := ok_sequence D4.F Z
    have gRow : FnOk l.prog w K mg base CX0 2 _ _ ["many", "value"] (spB1 K isRow) := ok_rowOf D5.F Z D4 gSeq
    have gSize : FnOk l.prog w K mg base CX0 3 _ _ ["value"] (spB K (isBt 2 8)) := ok_size D12.F D3 gBet
    have gNS : FnOk l.prog w K mg base (L2.CX l.prog w) 4 _ _ ["value"] (spNeedSize K cS) := ok_needSize D13.F R D12 gSize
    have gTab : FnOk l.prog w K mg base CX0 4 _ _ ["size", "least", "most", "value"] (spTable K) := ok_table D14.F Z D5 gRow D6 D3 gBet D2 gBel
    have gOp : FnOk l.prog w K mg base CX0 5 _ _ ["size", "value"] (spOper K) := ok_oper D15.F D14 gTab
    have gNO : FnOk l.prog w K mg base (L2.CX l.prog w) 6 _ _ ["size", "value"] (spNeedOp K cO cS) := ok_needOp D16.F Z R D13 gNS D15 gOp
    have gNB : FnOk l.prog w K mg base (L2.CX l.prog w) 6 _ _ ["value"] (spNeedBook K cB) := ok_book D17.F Z R D5 gRow D12 gSize D4 gSeq D15 gOp
    have gNH : FnOk l.prog w K mg base (L2.CX l.prog w) 4 _ _ ["size", "places", "held"] (spNeedHeld K cV) := ok_needHeld D18.F Z R D5 gRow D2 gBel
    have gHA : FnOk l.prog w K mg base CX0 2 _ _ ["answers", "sizes", "held"] (spHeldA K) := ok_heldA D11.F Z D8 D7
    have gHT : FnOk l.prog w K mg base (L2.CX l.prog w) 7 _ _ ["size", "operation", "held"] (spHT K cO cV cS) := ok_HT D19.F Z D16 gNO D18 gNH D10 D11 gHA
    have gSt : FnOk l.prog w K mg base (L2.CX l.prog w) 8 _ _ ["size", "operation", "held"] (spSett K cO cV cS) := ok_sett D20.F Z D19 gHT D9
    have gBox : FnOk l.prog w K mg base CX0 1 _ _ ["script", "k"] (spBox K) := ok_box D21.F Z
    have gTake : FnOk l.prog w K mg base CX0 1 _ _ ["box", "many"] spTake := ok_take D22.F Z
    have gPick : FnOk l.prog w K mg base CX0 2 _ _ ["box", "some"] (spPick K) := ok_pick D23.F Z D22
    have gGrid : FnOk l.prog w K mg base CX0 1 _ _ ["size", "many"] (spGrid K) := ok_grid D24.F Z
    have gOpn : FnOk l.prog w K mg base CX0 3 _ _ ["box", "size"] (spOpn K) := ok_opn D25.F Z D22 gTake D23 gPick D24 gGrid
    have gHL : FnOk l.prog w K mg base CX0 2 _ _ ["size", "operation", "held"] (spHeldL K) := ok_heldL D26.F Z D24 gGrid
    have Gf := Fs.mk D22 gTake D23 gPick D19 gHT D20 gSt D26 gHL D27
    have gHR := ok_HR (T := [(t0, qHR), (t1, qLaw)]) M0.F Z R Gf (TB _ (List.mem_cons_self ..)) (List.mem_cons_self ..) (List.forall_mem_cons.mpr ⟨fun _ => rfl, (List.forall_mem_cons.mpr ⟨fun z => absurd z (Ne.symm n01), (fun _ h => nomatch h)⟩)⟩)
    exact ok_law (T := [(t0, qHR), (t1, qLaw)]) M1.F Z R Gf (Gs.mk D21 gBox D25 gOpn D17 gNB D16 gNO M0.g M0.F.kp M0.b gHR) (TB _ (List.mem_cons_of_mem _ (List.mem_cons_self ..))) (List.mem_cons_of_mem _ (List.mem_cons_self ..)) (List.forall_mem_cons.mpr ⟨fun z => absurd z n01, (List.forall_mem_cons.mpr ⟨fun _ => rfl, (fun _ h => nomatch h)⟩)⟩)
end K01
open PySem PySem.W PyProof.Rows
set_option maxRecDepth 100000 in
set_option maxHeartbeats 0 in
theorem PySem.Challenge.cw_foldsall_k01_whole_operations_held_and_s_holds : PySem.Challenge.rw_foldsall_k01_whole_operations_held_and_s.Holds := by
  w_on; o_law; k_head; (case hw => w_witness2)
  k_fill
  refine LamX.walk_ofTs (l := PySem.Challenge.rw_foldsall_k01_whole_operations_held_and_s) (n := 63) (k := 13) (x := "script") (CX := fun _ => L2.CX0) rfl (by decide) rfl ⟨rfl, by decide, by decide⟩ (fun w h Y => PySem.W.km_in_of Y) ?F fun _ _ _ _ _ z => z
  case F =>
    intro w mg fa h Y KX G hmg
    refine' K01.all_mk KX G hmg ?S ?EB ?UB ?EO ?UO ?EV ?UV ?ES ?US ?D0 ?D1 ?D2 ?D3 ?D4 ?D5 ?D6 ?D7 ?D8 ?D9 ?D10 ?D11 ?D12 ?D13 ?D14 ?D15 ?D16 ?D17 ?D18 ?D19 ?D20 ?D21 ?D22 ?D23 ?D24 ?D25 ?D26 ?D27 ?M0 ?M1 ?ne0_1 ?n_int ?n_bool ?n_list ?n_tuple ?n_isinstance ?n_len ?n_range ?n_zip ?n_all ?n_enumerate ?n_abs ?n_max ?n_min ?n_set ?n_repr
    (case S => (refine' K01.base_mk KX G ?a ?l; (case a => k_is); (case l => k_is)))
    (case EB => (refine' K01.err_mk KX G ?a ?l ?c; (case a => k_is); (case l => k_is); (case c => k_is)))
    (case UB => (refine' K01.init_mk (Or.inl rfl) ?a ?b ?c ?d ?e ?f ?g ?h; (case a => k_is); (case b => k_is); (case c => k_is); (case d => k_is); (case e => k_is); (case f => k_is); (case g => k_is); (case h => k_is)))
    (case EO => (refine' K01.err_mk KX G ?a ?l ?c; (case a => k_is); (case l => k_is); (case c => k_is)))
    (case UO => (refine' K01.init_mk (Or.inl rfl) ?a ?b ?c ?d ?e ?f ?g ?h; (case a => k_is); (case b => k_is); (case c => k_is); (case d => k_is); (case e => k_is); (case f => k_is); (case g => k_is); (case h => k_is)))
    (case EV => (refine' K01.err_mk KX G ?a ?l ?c; (case a => k_is); (case l => k_is); (case c => k_is)))
    (case UV => (refine' K01.init_mk (Or.inl rfl) ?a ?b ?c ?d ?e ?f ?g ?h; (case a => k_is); (case b => k_is); (case c => k_is); (case d => k_is); (case e => k_is); (case f => k_is); (case g => k_is); (case h => k_is)))
    (case ES => (refine' K01.err_mk KX G ?a ?l ?c; (case a => k_is); (case l => k_is); (case c => k_is)))
    (case US => (refine' K01.init_mk (Or.inr rfl) ?a ?b ?c ?d ?e ?f ?g ?h; (case a => k_is); (case b => k_is); (case c => k_is); (case d => k_is); (case e => k_is); (case f => k_is); (case g => k_is); (case h => k_is)))
    (case D0 => (refine' K01.at_mk KX G (fun _ _ _ _ _ _ us hl => match us, hl with | [_], _ => rfl) ?a ?l ?c ?k; (case a => k_is); (case l => k_is); (case c => k_is); (case k => k_is)))
    (case D1 => (refine' K01.at_mk KX G (fun _ _ _ _ _ _ us hl => match us, hl with | [_], _ => rfl) ?a ?l ?c ?k; (case a => k_is); (case l => k_is); (case c => k_is); (case k => k_is)))
    (case D2 => (refine' K01.at_mk KX G (fun _ _ _ _ _ _ us hl => match us, hl with | [_, _], _ => rfl) ?a ?l ?c ?k; (case a => k_is); (case l => k_is); (case c => k_is); (case k => k_is)))
    (case D3 => (refine' K01.at_mk KX G (fun _ _ _ _ _ _ us hl => match us, hl with | [_, _, _], _ => rfl) ?a ?l ?c ?k; (case a => k_is); (case l => k_is); (case c => k_is); (case k => k_is)))
    (case D4 => (refine' K01.at_mk KX G (fun _ _ _ _ _ _ us hl => match us, hl with | [_], _ => rfl) ?a ?l ?c ?k; (case a => k_is); (case l => k_is); (case c => k_is); (case k => k_is)))
    (case D5 => (refine' K01.at_mk KX G (fun _ _ _ _ _ _ us hl => match us, hl with | [_, _], _ => rfl) ?a ?l ?c ?k; (case a => k_is); (case l => k_is); (case c => k_is); (case k => k_is)))
    (case D6 => (refine' K01.at_mk KX G (fun _ _ _ _ _ _ us hl => match us, hl with | [_, _], _ => rfl) ?a ?l ?c ?k; (case a => k_is); (case l => k_is); (case c => k_is); (case k => k_is)))
    (case D7 => (refine' K01.at_mk KX G (fun _ _ _ _ _ _ us hl => match us, hl with | [_], _ => rfl) ?a ?l ?c ?k; (case a => k_is); (case l => k_is); (case c => k_is); (case k => k_is)))
    (case D8 => (refine' K01.at_mk KX G (fun _ _ _ _ _ _ us hl => match us, hl with | [_, _], _ => rfl) ?a ?l ?c ?k; (case a => k_is); (case l => k_is); (case c => k_is); (case k => k_is)))
    (case D9 => (refine' K01.at_mk KX G (fun _ _ _ _ _ _ us hl => match us, hl with | [_], _ => rfl) ?a ?l ?c ?k; (case a => k_is); (case l => k_is); (case c => k_is); (case k => k_is)))
    (case D10 => (refine' K01.at_mk KX G (fun _ _ _ _ _ _ us hl => match us, hl with | [_], _ => rfl) ?a ?l ?c ?k; (case a => k_is); (case l => k_is); (case c => k_is); (case k => k_is)))
    (case D11 => (refine' K01.at_mk KX G (fun _ _ _ _ _ _ us hl => match us, hl with | [_, _, _], _ => rfl) ?a ?l ?c ?k; (case a => k_is); (case l => k_is); (case c => k_is); (case k => k_is)))
    (case D12 => (refine' K01.at_mk KX G (fun _ _ _ _ _ _ us hl => match us, hl with | [_], _ => rfl) ?a ?l ?c ?k; (case a => k_is); (case l => k_is); (case c => k_is); (case k => k_is)))
    (case D13 => (refine' K01.at_mk KX G (fun _ _ _ _ _ _ us hl => match us, hl with | [_], _ => rfl) ?a ?l ?c ?k; (case a => k_is); (case l => k_is); (case c => k_is); (case k => k_is)))
    (case D14 => (refine' K01.at_mk KX G (fun _ _ _ _ _ _ us hl => match us, hl with | [_, _, _, _], _ => rfl) ?a ?l ?c ?k; (case a => k_is); (case l => k_is); (case c => k_is); (case k => k_is)))
    (case D15 => (refine' K01.at_mk KX G (fun _ _ _ _ _ _ us hl => match us, hl with | [_, _], _ => rfl) ?a ?l ?c ?k; (case a => k_is); (case l => k_is); (case c => k_is); (case k => k_is)))
    (case D16 => (refine' K01.at_mk KX G (fun _ _ _ _ _ _ us hl => match us, hl with | [_, _], _ => rfl) ?a ?l ?c ?k; (case a => k_is); (case l => k_is); (case c => k_is); (case k => k_is)))
    (case D17 => (refine' K01.at_mk KX G (fun _ _ _ _ _ _ us hl => match us, hl with | [_], _ => rfl) ?a ?l ?c ?k; (case a => k_is); (case l => k_is); (case c => k_is); (case k => k_is)))
    (case D18 => (refine' K01.at_mk KX G (fun _ _ _ _ _ _ us hl => match us, hl with | [_, _, _], _ => rfl) ?a ?l ?c ?k; (case a => k_is); (case l => k_is); (case c => k_is); (case k => k_is)))
    (case D19 => (refine' K01.at_mk KX G (fun _ _ _ _ _ _ us hl => match us, hl with | [_, _, _], _ => rfl) ?a ?l ?c ?k; (case a => k_is); (case l => k_is); (case c => k_is); (case k => k_is)))
    (case D20 => (refine' K01.at_mk KX G (fun _ _ _ _ _ _ us hl => match us, hl with | [_, _, _], _ => rfl) ?a ?l ?c ?k; (case a => k_is); (case l => k_is); (case c => k_is); (case k => k_is)))
    (case D21 => (refine' K01.at_mk KX G (fun _ _ _ _ _ _ us hl => match us, hl with | [_, _], _ => rfl) ?a ?l ?c ?k; (case a => k_is); (case l => k_is); (case c => k_is); (case k => k_is)))
    (case D22 => (refine' K01.at_mk KX G (fun _ _ _ _ _ _ us hl => match us, hl with | [_, _], _ => rfl) ?a ?l ?c ?k; (case a => k_is); (case l => k_is); (case c => k_is); (case k => k_is)))
    (case D23 => (refine' K01.at_mk KX G (fun _ _ _ _ _ _ us hl => match us, hl with | [_, _], _ => rfl) ?a ?l ?c ?k; (case a => k_is); (case l => k_is); (case c => k_is); (case k => k_is)))
    (case D24 => (refine' K01.at_mk KX G (fun _ _ _ _ _ _ us hl => match us, hl with | [_, _], _ => rfl) ?a ?l ?c ?k; (case a => k_is); (case l => k_is); (case c => k_is); (case k => k_is)))
    (case D25 => (refine' K01.at_mk KX G (fun _ _ _ _ _ _ us hl => match us, hl with | [_, _], _ => rfl) ?a ?l ?c ?k; (case a => k_is); (case l => k_is); (case c => k_is); (case k => k_is)))
    (case D26 => (refine' K01.at_mk KX G (fun _ _ _ _ _ _ us hl => match us, hl with | [_, _, _], _ => rfl) ?a ?l ?c ?k; (case a => k_is); (case l => k_is); (case c => k_is); (case k => k_is)))
    (case D27 => (refine' K01.at_mk KX G (fun _ _ _ _ _ _ us hl => match us, hl with | [_], _ => rfl) ?a ?l ?c ?k; (case a => k_is); (case l => k_is); (case c => k_is); (case k => k_is)))
    (case M0 => (refine' K01.atC_mk KX G (fun _ _ _ _ _ _ us hl => match us, hl with | [_, _, _], _ => rfl) ?a ?l ?c ?k ?lc ?v ?e ?n ?z; (case a => k_is); (case l => k_is); (case c => k_is); (case k => k_is); (case lc => k_is); (case v => rfl); (case e => kernel_rfl); (case n => kernel_rfl); (case z => exact PySem.W.km_tabs_of Y _ (by simp))))
    (case M1 => (refine' K01.atC_mk KX G (fun _ _ _ _ _ _ us hl => match us, hl with | [_], _ => rfl) ?a ?l ?c ?k ?lc ?v ?e ?n ?z; (case a => k_is); (case l => k_is); (case c => k_is); (case k => k_is); (case lc => k_is); (case v => rfl); (case e => kernel_rfl); (case n => kernel_rfl); (case z => exact PySem.W.km_tabs_of Y _ (by simp))))
    (case ne0_1 => rfl)
    (case n_int => k_is)
    (case n_bool => k_is)
    (case n_list => k_is)
    (case n_tuple => k_is)
    (case n_isinstance => k_is)
    (case n_len => k_is)
    (case n_range => k_is)
    (case n_zip => k_is)
    (case n_all => k_is)
    (case n_enumerate => k_is)
    (case n_abs => k_is)
    (case n_max => k_is)
    (case n_min => k_is)
    (case n_set => k_is)
    (case n_repr => k_is)
#print axioms PySem.Challenge.cw_foldsall_k01_whole_operations_held_and_s_holds
