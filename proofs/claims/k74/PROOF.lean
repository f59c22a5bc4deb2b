import PyProof.Rows.All
import Wide.All
import OpenK.AllK
import Wide.FinOn
import PyProof.EqAt
import PyProof.EqKinds
import PyProof.TupleCall
import KE.KExcInit
import HandS.ExcOwn
import HandS.Words
import HandS.WordsList
import HandS.TryMany
import HandS.WordsExc
import HandS.ForMost
import HandS.ForExc
import HandS.IsInst
import HandS.Zip
import HandS.Walk
import HandS.Conv
import HandS.Star
import HandS.TupAny
import KE.GoesNew
import KE.GoesMore
import KE.GoesEnum
import HandS.Deep
import HandS.SetFor
import HandS.Set
import HandS.RaiseMore
import HandS.Comp
import HandS.Lambda
import HandS.TryOnly
import HandS.Style
import KE.DataMinMax
import KE.KTupSum
import HandS.SortKw
import HandS.CallSlots
import HandS.HeadEnd
import PySem.Challenge.RW_foldsall_k74_whole_fewest_cells_of_lines
set_option Elab.async false
set_option linter.all false
set_option maxRecDepth 100000
set_option maxHeartbeats 8000000
/-! Error classes over a base class of the program over Exception, one field or none: made, raised, named by a clause. -/
namespace FX
open PySem PySem.W PySem.Calls PyProof.Rows PySem.HandSPX
/-! ### what the written part says of the classes -/
abbrev tl : List Value := [.type "Exception", .type "BaseException", .type "object"]
/-- the base class, at B -/
structure BaseTxt (K : Frag) (mg : Str → Option Value) (b : Str) (B : Addr) : Prop where
  gB : mg b = some (.ref B)
  at_ : ∃ q N bs sn sub ab col dd k0 k1 k2 k3 k5, K.lookup B = some (excClassObj b q B N bs tl true sn sub ab col dd k0 k1 k2 k3 k5 "Exception.__new__")
/-- a class called x at C, over the one at B -/
structure ErrTxt (K : Frag) (mg : Str → Option Value) (B : Addr) (x : Str) (C : Addr) : Prop where
  gC : mg x = some (.ref C)
  at_ : ∃ q N bs sn sub ab col dd k0 k1 k2 k3 k5, K.lookup C = some (excClassObj x q C N bs (.ref B :: tl) true sn sub ab col dd k0 k1 k2 k3 k5 "Exception.__new__")
  kC : keepIn K (.ref C) = true
theorem cls_of {K : Frag} {x q : Str} {C N : Addr} {bs bm : List Value} {hd : Bool} {sn : List Str} {sub : List Value} {ab : Bool} {col : Option Bool} {dd : Option Addr} {k0 k1 k2 k3 k5 : Option Value} {ni : String}
    (h : K.lookup C = some (excClassObj x q C N bs bm hd sn sub ab col dd k0 k1 k2 k3 k5 ni)) :
    clsIn K C = some { name := x, bases := bs, mro := .ref C :: bm, ns := N, qualname := q, hasDict := hd, slotNames := sn, subclasses := sub, abstract := ab, collection := col, hasDel := false } := by
  unfold clsIn
  rw [h]
theorem mro_of {K : Frag} {x q : Str} {C N : Addr} {bs bm : List Value} {hd : Bool} {sn : List Str} {sub : List Value} {ab : Bool} {col : Option Bool} {dd : Option Addr} {k0 k1 k2 k3 k5 : Option Value} {ni : String}
    (h : K.lookup C = some (excClassObj x q C N bs bm hd sn sub ab col dd k0 k1 k2 k3 k5 ni)) (v : Value) : subIn K (.ref C) v = some ((Value.ref C :: bm).contains v) := by
  show mroIn K C v = _
  unfold mroIn
  rw [cls_of h]
  rfl
theorem ty_of {K : Frag} {x q : Str} {C N : Addr} {bs bm : List Value} {hd : Bool} {sn : List Str} {sub : List Value} {ab : Bool} {col : Option Bool} {dd : Option Addr} {k0 k1 k2 k3 k5 : Option Value} {ni : String}
    (h : K.lookup C = some (excClassObj x q C N bs bm hd sn sub ab col dd k0 k1 k2 k3 k5 ni)) : typeIn K (.ref C) = some (.type "type") := by
  show (K.lookup C).map (·.cls) = _
  rw [h]
  rfl
/-- whether «except D» names an error of the class C -/
theorem exm_of {K : Frag} {cls : Value} {y q : Str} {D N : Addr} {bs bm : List Value} {hd : Bool} {sn : List Str} {sub : List Value} {ab : Bool} {col : Option Bool} {dd : Option Addr} {k0 k1 k2 k3 k5 : Option Value} {ni : String} {r : Bool}
    (h : K.lookup D = some (excClassObj y q D N bs bm hd sn sub ab col dd k0 k1 k2 k3 k5 ni)) (hb : bm.contains (.type "BaseException") = true) (hs : subIn K cls (.ref D) = some r) : exmOne K cls (.ref D) = some r := by
  have e1 : subIn K (.ref D) (.type "BaseException") = some true := by
    rw [mro_of h, List.contains_cons, hb, Bool.or_true]
  unfold exmOne
  rw [e1, if_pos (by decide)]
  have e2 : ((clsIn K D).isSome && typeIn K (.ref D) == some (.type "type")) = true := by
    rw [cls_of h, ty_of h]
    rfl
  show (if ((clsIn K D).isSome && typeIn K (.ref D) == some (.type "type")) = true then subIn K cls (.ref D) else none) = _
  rw [if_pos e2]
  exact hs
variable {K : Frag} {mg : Str → Option Value} {b x y : Str} {B C D : Addr}
theorem ErrTxt.sub (T : ErrTxt K mg B x C) : subIn K (.ref C) (.type "BaseException") = some true := by
  obtain ⟨q, N, bs, sn, sub, ab, col, dd, k0, k1, k2, k3, k5, h⟩ := T.at_
  rw [mro_of h]
  rfl
theorem ErrTxt.ty (T : ErrTxt K mg B x C) : typeIn K (.ref C) = some (.type "type") := by
  obtain ⟨q, N, bs, sn, sub, ab, col, dd, k0, k1, k2, k3, k5, h⟩ := T.at_
  exact ty_of h
theorem ErrTxt.dict (T : ErrTxt K mg B x C) : hasDictIn K C = true := by
  obtain ⟨q, N, bs, sn, sub, ab, col, dd, k0, k1, k2, k3, k5, h⟩ := T.at_
  unfold hasDictIn
  rw [cls_of h]
  rfl
theorem ErrTxt.over (T : ErrTxt K mg B x C) : excOver K C tl = true := by
  obtain ⟨q, N, bs, sn, sub, ab, col, dd, k0, k1, k2, k3, k5, h⟩ := T.at_
  unfold excOver
  rw [cls_of h]
  show (C == C && excTail tl (.ref B :: tl)) = true
  rw [beq_self_eq_true]
  show excTail tl tl = true
  decide +kernel
theorem ErrTxt.ne (T : ErrTxt K mg B x C) (U : ErrTxt K mg B y D) (h : x ≠ y) : C ≠ D := by
  obtain ⟨q, N, bs, sn, sub, ab, col, dd, k0, k1, k2, k3, k5, h1⟩ := T.at_
  obtain ⟨q', N', bs', sn', sub', ab', col', dd', k0', k1', k2', k3', k5', h2⟩ := U.at_
  intro e
  subst e
  rw [h1] at h2
  injection h2 with h2
  injection h2 with _ _ h2 _
  injection h2 with h2
  injection h2 with h2
  exact h h2
theorem ErrTxt.neB (T : ErrTxt K mg B x C) (U : BaseTxt K mg b D) (h : x ≠ b) : C ≠ D := by
  obtain ⟨q, N, bs, sn, sub, ab, col, dd, k0, k1, k2, k3, k5, h1⟩ := T.at_
  obtain ⟨q', N', bs', sn', sub', ab', col', dd', k0', k1', k2', k3', k5', h2⟩ := U.at_
  intro e
  subst e
  rw [h1] at h2
  injection h2 with h2
  injection h2 with _ _ h2 _
  injection h2 with h2
  injection h2 with h2
  exact h h2
/-- its own clause names it -/
theorem ErrTxt.own (T : ErrTxt K mg B x C) : exmOne K (.ref C) (.ref C) = some true := by
  obtain ⟨q, N, bs, sn, sub, ab, col, dd, k0, k1, k2, k3, k5, h⟩ := T.at_
  refine exm_of h rfl ?_
  rw [mro_of h, List.contains_cons, beq_self_eq_true, Bool.true_or]
/-- another's doesn't -/
theorem ErrTxt.other (T : ErrTxt K mg B x C) (S : BaseTxt K mg b B) (U : ErrTxt K mg B y D) (h : x ≠ y) (hb : y ≠ b) : exmOne K (.ref C) (.ref D) = some false := by
  have n1 : C ≠ D := T.ne U h
  have n2 : D ≠ B := U.neB S hb
  obtain ⟨q, N, bs, sn, sub, ab, col, dd, k0, k1, k2, k3, k5, h1⟩ := T.at_
  obtain ⟨q', N', bs', sn', sub', ab', col', dd', k0', k1', k2', k3', k5', h2⟩ := U.at_
  refine exm_of h2 rfl ?_
  rw [mro_of h1]
  have e1 : (Value.ref D == Value.ref C) = false := by simpa using fun z : D = C => n1 z.symm
  have e2 : (Value.ref D == Value.ref B) = false := by simpa using n2
  rw [List.contains_cons, List.contains_cons, e1, e2]
  rfl
/-- the base's does -/
theorem ErrTxt.base (T : ErrTxt K mg B x C) (S : BaseTxt K mg b B) : exmOne K (.ref C) (.ref B) = some true := by
  obtain ⟨q, N, bs, sn, sub, ab, col, dd, k0, k1, k2, k3, k5, h1⟩ := T.at_
  obtain ⟨q', N', bs', sn', sub', ab', col', dd', k0', k1', k2', k3', k5', h2⟩ := S.at_
  refine exm_of h2 rfl ?_
  rw [mro_of h1, List.contains_cons, List.contains_cons, beq_self_eq_true, Bool.true_or, Bool.or_true]
end FX
/-! The one-field __init__ of an error, and the making of the error. -/
namespace FX
open PySem PySem.W PySem.Calls PyProof.Rows PySem.HandSPX
def inA (f : Str) (p1 p2 : Pos) : Arguments := { posonlyargs := [], args := [{ arg := "self", annotation := none, pos := p1 }, { arg := f, annotation := none, pos := p2 }], vararg := none, kwonlyargs := [], kw_defaults := [], kwarg := none, defaults := [] }
def inB (f : Str) (q1 q2 q3 q4 : Pos) : List Stmt := [.Assign [.Attribute (.Name "self" q1) f q2] (.Name f q3) q4]
def inS (f : Str) : Scope := { kind := .function, names := [(PySem.Str.ofString "self", .local), (f, .local)], isGenerator := false, isCoroutine := false, more := [] }
/-- what the written part says of the __init__ (at i) of the class at C: it stores its one argument under f -/
structure InitTxt (K : Frag) (qn f : Str) (C i : Addr) : Prop where
  sa : findIn K (.ref C) "__setattr__" = some (some (.builtin "object.__setattr__"))
  ga : findIn K (.ref C) "__getattribute__" = some (some (.builtin "BaseException.__getattribute__"))
  gg : findIn K (.ref C) "__getattr__" = some none
  noF : findIn K (.ref C) f = some none
  iC : findIn K (.ref C) "__init__" = some (some (.ref i))
  tI : typeIn K (.ref i) = some (.type "function")
  fn : ∃ (oc : Value) (od : Option Addr) (doc pm : Value) (an : Option Addr) (cdv ct : Value) (osl : Array (Option Value)) (p1 p2 q1 q2 q3 q4 : Pos),
    K.lookup i = some ⟨oc, od, .func (fnOf "__init__" qn (inA f p1 p2) (inB f q1 q2 q3 q4) (inS f) .none .none doc pm an cdv ct), osl⟩ ∧ codeIn K cdv qn = true
  ff : f = "at" ∨ f = "word"
theorem InitTxt.taker {K : Frag} {qn f : Str} {C i : Addr} (T : InitTxt K qn f C i) : takerIn K C f = some none := by
  unfold takerIn
  rw [T.noF]
  rfl
/-- an attribute stored into an exception that has none yet -/
theorem store_first {prog : Program} {w : World} {A : Around} {R : Result → Shared → Prop} {hp : Heap} {g : Array GenState} {d : Drawn} {t : Nat} {os : OsState} {K : Frag} {f : Str} {tk : Tok} {v : Value} {x C : Addr} {fv : Array Value}
    (X : K.In hp) (hx : hp.get? x = some { cls := .ref C, data := .fields fv }) (ho : excOver K C tl = true) (hh : hasDictIn K C = true) (ht : takerIn K C f = some none)
    (hq : ∀ h' tk' dx, (∀ b o, b ≠ x → hp.get? b = some o → h'.get? b = some o) → hp.objs.size ≤ dx → dx ≠ x → h'.get? x = some { cls := .ref C, dict := some dx, data := .fields fv } →
      h'.Ns1 dx (fun y => if y = f then some v else none) → R (.ok (.ret .none)) ⟨h', g, d, tk', os⟩) :
    codeAny (model prog w) A (.call (.builtin "object.__setattr__") ⟨[.ref x, .str f tk, v], []⟩) R ⟨hp, g, d, t, os⟩ := by
  have ne : x ≠ hp.objs.size := Nat.ne_of_lt (Heap.lt_size hx)
  refine osa_openX (od := none) (ox := { cls := .ref C, data := .fields fv }) F.store_Exception X ⟨hx, rfl, rfl, trivial⟩ ho ht fun b => ?_
  obtain ⟨cd, hc, hd⟩ := any_some hh
  have Lc : Looks (model prog w) hp (classData C) cd := looks_clsIn X hc
  obtain ⟨nm, bs, mro, ns, qn, hd', sn, sb, ab, col, del⟩ := cd
  dsimp only at hd
  subst hd
  show wpAny _ _ (Builtin.ObjectAttr.storeInOwnDict (.ref x) (.ref C) (.str f tk) f v b) _ _ _
  unfold Builtin.ObjectAttr.storeInOwnDict Builtin.ObjectAttr.ownDictForStores
  repeat (first | (with_reducible refine store_in_new ?_ ?_) | (with_reducible refine wpAny_loadPart_at hx ?_) | (with_reducible refine Lc.at ?_) | wp_step)
  · refine ⟨_, #[], _, (Heap.get?_update_ne _ _ _ _ (Ne.symm ne)).trans (Heap.get?_push_at rfl rfl), rfl, fun e he => ?_, fun _ => rfl⟩
    simp at he
  · intro h' tk' n1 sb'
    have hx1 : (hp.push { cls := .type "dict", data := .dict #[] }).get? x = some { cls := .ref C, data := .fields fv } := Heap.get?_push_of_some _ hx
    refine hq h' tk' hp.objs.size (fun c o hc ho' => ?_) (Nat.le_refl _) (Ne.symm ne) ?_ n1
    · rw [sb'.2 c (Nat.ne_of_lt (Heap.lt_size ho')), Heap.get?_update_ne _ _ _ _ hc]
      exact Heap.get?_push_of_some _ ho'
    · rw [sb'.2 x ne]
      exact Heap.get?_update_self _ hx1 rfl
end FX
namespace FX
open PySem PySem.W PySem.Calls PyProof.Rows PySem.HandSPX
/-- a local name is read -/
theorem local_read {M : Model} {s : Shared} {nm : Str} {sc : Scope} {L a : Addr} {cd : Value} {m : Str → Option Value} {y : Str} {pos : Pos} {v : Value} {Q : Value → Shared → Prop} {A : Around} {E : Value → Shared → Prop}
    (hn : s.heap.Ns L m) (hv : m y = some v) (h : Q v s) (hk : sc.kind = .function := by rfl) (hl : (envOfC nm sc L a cd).kindOf y = some .local := by rfl) (hd : (y == ("__debug__" : Str)) = false := by decide) :
    wpAny M A (eval (.Name y pos) (envOfC nm sc L a cd)) Q E s :=
  wpAny_Name (wpAny_loadName_local hk hl hn hv h) hd
/-- the error at a behind its __init__: its dict at dx holds f -/
structure Inited (h h' : Heap) (a C dx t1 : Addr) (f : Str) (v : Value) : Prop where
  stay : ∀ c o, c ≠ a → h.get? c = some o → h'.get? c = some o
  it : h'.get? a = some { cls := .ref C, dict := some dx, data := .fields #[.ref t1, .none, .none, .none, .bool false, .none] }
  up : h.objs.size ≤ dx
  ne : dx ≠ a
  has : h'.Ns1 dx (fun y => if y = f then some v else none)
section
variable {prog : Program} {w : World} {A : Around} {E : Value → Shared → Prop} {R : Result → Shared → Prop} {s : Shared} {K : Frag} {mg : Str → Option Value} {b x qn f : Str} {B C i : Addr}
theorem init_run (T : ErrTxt K mg B x C) (U : InitTxt K qn f C i) {a t0 : Addr} {v : Value} (X : K.In s.heap) (hlim : s.heap.NoLimit) (ha : s.heap.get? a = some (excO C t0)) (hroom : A.depth < recursionLimit)
    (hq : ∀ h' tk dx, Inited s.heap h' a C dx t0 f v → R (.ok (.ret .none)) { s with heap := h', toks := tk }) : codeAny (model prog w) A (.call (.ref i) ⟨[.ref a, v], []⟩) R s := by
  have hdict := T.dict
  have hover := T.over
  have htk := U.taker
  obtain ⟨oc, od, doc, pm, an, cdv, ct, osl, p1, p2, q1, q2, q3, q4, hfn, hcd⟩ := U.fn
  have hsa := U.sa
  rcases U.ff with e | e
  all_goals
    subst e
    refine Att.call_fn (binds := [("self", .ref a), (_, v)]) X hlim hfn hcd hroom (BindsTo.of_eq (by first | rfl | with_unfolding_all rfl)) (by first | rfl | decide | with_unfolding_all rfl) (fun s1 IC => ?_) rfl rfl rfl
    obtain ⟨h1, tk1, rfl⟩ := IC.toInCall.same
    have kp : ∀ c o, s.heap.get? c = some o → h1.get? c = some o := IC.toInCall.keep
    have ns := IC.toInCall.ns
    have X1 : K.In h1 := X.keeps kp
    have a1 := kp _ _ ha
    show wpAny _ _ (execs _ _) _ _ _
    refine wpAny_execs_cons (plainObj_wpAny_Assign_Attribute ?_)
    refine local_read (v := v) ns (by first | rfl | with_unfolding_all rfl | kernel_rfl) ?_
    refine local_read (v := .ref a) ns (by first | rfl | with_unfolding_all rfl | kernel_rfl) ?_
    refine set_plain X1 (ox := excO C t0) (od := none) ⟨a1, rfl, rfl, trivial⟩ hsa ?_
    refine store_first X1 a1 hover hdict htk (fun h3 tk3 dx k3 dn dne a3 n3 => ?_)
    show wpAny _ _ (execs _ _) _ _ _
    have lt : s.heap.objs.size < h1.objs.size := ns.lt
    exact wpAny_execs_nil (hq h3 tk3 dx ⟨fun c o hc e => k3 c o hc (kp c o e), a3, Nat.le_of_lt (Nat.lt_of_lt_of_le lt dn), dne, n3⟩)
/-- the error made -/
structure MadeErr (h h' : Heap) (e C d : Addr) (f : Str) (v : Value) : Prop where
  stay : ∀ c o, h.get? c = some o → h'.get? c = some o
  new : h.objs.size ≤ e
  it : ∃ oe vs, h'.get? e = some oe ∧ oe.cls = .ref C ∧ oe.dict = some d ∧ oe.data = .fields vs ∧ vs[1]? = some .none
  up : h.objs.size ≤ d
  ne : d ≠ e
  has : h'.Ns1 d (fun y => if y = f then some v else none)
theorem made_run (T : ErrTxt K mg B x C) (U : InitTxt K qn f C i) {v : Value} (X : K.In s.heap) (hlim : s.heap.NoLimit) (hroom : A.depth + 1 < recursionLimit)
    (hq : ∀ h' tk e d, MadeErr s.heap h' e C d f v → R (.ok (.ret (.ref e))) { s with heap := h', toks := tk }) : codeAny (model prog w) A (.call (.ref C) ⟨[v], []⟩) R s := by
  obtain ⟨q, N, bs, sn, sub, ab, col, dd, k0, k1, k2, k3, k5, hC⟩ := T.at_
  obtain ⟨hp, g, dr, tk, os⟩ := s
  have kp : ∀ c o, hp.get? c = some o → ((hp.push (kdv_tup [v])).push (excO C hp.objs.size)).get? c = some o := fun c o e => Heap.get?_push_of_some _ (Heap.get?_push_of_some _ e)
  have it : ((hp.push (kdv_tup [v])).push (excO C hp.objs.size)).get? (hp.objs.size + 1) = some (excO C hp.objs.size) := by heap_get
  refine call_own F.excBase_Exception (bm := .ref B :: tl) (fun Y => excTail_contains (bmB := tl) Y _ (by show excTail tl tl = true; decide +kernel)) (X _ _ hC) (looks_findIn X U.iC) (fun self => bind_fn X self U.tI)
    (by show 1 ≤ sizeLine; rw [sizeLine_eq]; omega) ?_
  refine init_run (s := ⟨(hp.push (kdv_tup [v])).push (excO C hp.objs.size), g, dr, tk, os⟩) T U (X.keeps kp) (hlim.keeps kp) it ?_ fun h' tk' dx ⟨st, hx, dn, dne, hns⟩ => ?_
  · show A.depth + 1 < recursionLimit
    exact hroom
  · have old : ∀ c o, hp.get? c = some o → h'.get? c = some o := fun c o e => st c o (Nat.ne_of_lt (Nat.lt_succ_of_lt (Heap.lt_size e))) (kp c o e)
    have z : hp.objs.size + 1 + 1 ≤ dx := by
      have q := dn
      rw [Heap.size_push, Heap.size_push] at q
      exact q
    refine ⟨rfl, hq h' tk' (hp.objs.size + 1) dx ⟨old, Nat.le_succ _, ⟨_, _, hx, rfl, rfl, rfl, rfl⟩, ?_, dne, hns⟩⟩
    show hp.objs.size ≤ dx
    omega
end
end FX
/-! The error made by a call with the field's name: x(f=v). -/
namespace FX
open PySem PySem.W PySem.Calls PyProof.Rows PySem.HandSPX
section
variable {prog : Program} {w : World} {A : Around} {E : Value → Shared → Prop} {R : Result → Shared → Prop} {s : Shared} {K : Frag} {mg : Str → Option Value} {b x qn f : Str} {B C i : Addr}
theorem init_kw (T : ErrTxt K mg B x C) (U : InitTxt K qn f C i) {a t0 : Addr} {v : Value} (X : K.In s.heap) (hlim : s.heap.NoLimit) (ha : s.heap.get? a = some (excO C t0)) (hroom : A.depth < recursionLimit)
    (hq : ∀ h' tk dx, Inited s.heap h' a C dx t0 f v → R (.ok (.ret .none)) { s with heap := h', toks := tk }) : codeAny (model prog w) A (.call (.ref i) ⟨[.ref a], [(f, v)]⟩) R s := by
  have hdict := T.dict
  have hover := T.over
  have htk := U.taker
  obtain ⟨oc, od, doc, pm, an, cdv, ct, osl, p1, p2, q1, q2, q3, q4, hfn, hcd⟩ := U.fn
  have hsa := U.sa
  rcases U.ff with e | e
  all_goals
    subst e
    refine Att.call_fn (binds := [("self", .ref a), (_, v)]) X hlim hfn hcd hroom (BindsTo.of_eq (by first | rfl | with_unfolding_all rfl)) (by first | rfl | decide | with_unfolding_all rfl) (fun s1 IC => ?_) rfl rfl rfl
    obtain ⟨h1, tk1, rfl⟩ := IC.toInCall.same
    have kp : ∀ c o, s.heap.get? c = some o → h1.get? c = some o := IC.toInCall.keep
    have ns := IC.toInCall.ns
    have X1 : K.In h1 := X.keeps kp
    have a1 := kp _ _ ha
    show wpAny _ _ (execs _ _) _ _ _
    refine wpAny_execs_cons (plainObj_wpAny_Assign_Attribute ?_)
    refine local_read (v := v) ns (by first | rfl | with_unfolding_all rfl | kernel_rfl) ?_
    refine local_read (v := .ref a) ns (by first | rfl | with_unfolding_all rfl | kernel_rfl) ?_
    refine set_plain X1 (ox := excO C t0) (od := none) ⟨a1, rfl, rfl, trivial⟩ hsa ?_
    refine store_first X1 a1 hover hdict htk (fun h3 tk3 dx k3 dn dne a3 n3 => ?_)
    show wpAny _ _ (execs _ _) _ _ _
    have lt : s.heap.objs.size < h1.objs.size := ns.lt
    exact wpAny_execs_nil (hq h3 tk3 dx ⟨fun c o hc e => k3 c o hc (kp c o e), a3, Nat.le_of_lt (Nat.lt_of_lt_of_le lt dn), dne, n3⟩)
end
section
variable {M : Model} {prog : Program} {w : World} {A : Around} {E : Value → Shared → Prop} {R : Result → Shared → Prop} {h : Heap} {g : Array GenState} {d : Drawn} {t : Nat} {os : OsState}
variable {nm q : Str} {C N : Addr} {bs bm : List Value} {hdct : Bool} {sn : List Str} {sub : List Value} {ab : Bool} {col : Option Bool} {dd : Option Addr} {k0 k1 k2 k3 k5 : Option Value}
/-- the base's own tail, told -/
structure TailIs (bm : List Value) : Prop where
  ex : bm.contains (.type "Exception") = true
  atr : bm.contains (.type "AttributeError") = false
  nme : bm.contains (.type "NameError") = false
theorem check_call_kw {kw : List (Str × Value)} {Q : Unit → Shared → Prop} (hC : h.get? C = some (excClassObj nm q C N bs bm hdct sn sub ab col dd k0 k1 k2 k3 k5 "Exception.__new__")) (hq : Q () ⟨h, g, d, t, os⟩) :
    wpAny M A (checkBuiltinCall "type.__call__" ⟨[.ref C], kw⟩) Q E ⟨h, g, d, t, os⟩ := by
  have f3 := tc_sub
  have hT : (⟨h, g, d, t, os⟩ : Shared).TypeIs (.ref C) "type" := ⟨_, hC, rfl⟩
  simp only [checkBuiltinCall, tc_kind, tc_split]
  repeat (any_goals (first | assumption | (with_reducible refine wpAny_loadPart_at hC ?_) | (with_reducible refine wpAny_onRaise ?_) | (with_reducible refine wpAny_map ?_) | wp_step))
theorem check_new_kw (T : TailIs bm) {kw : List (Str × Value)} {Q : Unit → Shared → Prop} (hC : h.get? C = some (excClassObj nm q C N bs bm hdct sn sub ab col dd k0 k1 k2 k3 k5 "Exception.__new__")) (hq : Q () ⟨h, g, d, t, os⟩) :
    wpAny M A (checkBuiltinCall "Exception.__new__" ⟨[.ref C], kw⟩) Q E ⟨h, g, d, t, os⟩ := by
  have FB := F.excBase_Exception
  have hc : (Value.ref C :: bm).contains (.type "Exception") = true := by rw [List.contains_cons, T.ex, Bool.or_true]
  have hstar := FB.noStar
  simp only [checkBuiltinCall, FB.newKind, FB.newSplit, FB.newRow]
  repeat (first | (refine wpAny_loadPart_at hC ?_) | (refine wpAny_isSubtype_exc hC ?_; rw [hc]) | (refine wpAny_staticBase_exc hC ?_) | (refine wpAny_madeBy_exc hC ?_) | (simp only [bne_self_eq_false, Bool.false_eq_true, if_false]) | wp_step)
  exact hq
theorem new_kw (T : TailIs bm) {kw : List (Str × Value)} (hC : h.get? C = some (excClassObj nm q C N bs bm hdct sn sub ab col dd k0 k1 k2 k3 k5 "Exception.__new__"))
    (hq : R (.ok (.ret (.ref (h.objs.size + 1)))) ⟨(h.push { cls := .type "tuple", data := .seq #[] }).push (excO C h.objs.size), g, d, t, os⟩) :
    codeAny (model prog w) A (.builtin "Exception.__new__" ⟨[.ref C], kw⟩) R ⟨h, g, d, t, os⟩ := by
  have FB := F.excBase_Exception
  have hends := FB.ends
  have c1 : (Value.ref C :: bm).contains (.type "Exception") = true := by rw [List.contains_cons, T.ex, Bool.or_true]
  have c2 : (Value.ref C :: bm).contains (.type "AttributeError") = false := by
    rw [List.contains_cons, T.atr]
    rfl
  have c3 : (Value.ref C :: bm).contains (.type "NameError") = false := by
    rw [List.contains_cons, T.nme]
    rfl
  refine codeAny_builtinAt FB.entry ?_
  unfold Builtin.«BaseException.__new__»
  refine PySem.wpAt_bind ?_
  show PySem.wpAt _ _ _ (stack >>= _) _ _ _
  refine PySem.wpAt_bind (PySem.wpAt_stack fun p below => PySem.wpAt_of_wpAny ?_)
  wp_walk
  refine PySem.wpAt_of_wpAny ?_
  rw [FB.owner]
  repeat (first | (with_reducible refine wpAny_madeHere_exc FB.canon hC ?_) | (with_reducible refine wpAny_loadPart_at hC ?_) | (with_reducible refine wpAny_isSubtype_exc hC ?_; first | rw [c1] | rw [c2] | rw [c3]) | wp_step)
  show R _ _
  rw [Heap.size_push]
  exact hq
theorem type_call_kw (T : TailIs bm) {kw : List (Str × Value)} {i : Addr} {Q : Fin → Shared → Prop} (hC : h.get? C = some (excClassObj nm q C N bs bm hdct sn sub ab col dd k0 k1 k2 k3 k5 "Exception.__new__"))
    (hi : Looks (model prog w) h (typeLookup (.ref C) "__init__") (some (.ref i))) (hb : ∀ self, Looks (model prog w) h (bindSpecial (.ref i) self) (.ref i, [self]))
    (hq : codeAny (model prog w) A (.call (.ref i) ⟨[.ref (h.objs.size + 1)], kw⟩)
      (fun r s' => match r with | .ok (.ret v) => v = .none ∧ Q (.done (.ret (.ref (h.objs.size + 1)))) s' | .ok _ => False | .error e => E e s')
      ⟨(h.push (kdv_tup [])).push (excO C h.objs.size), g, d, t, os⟩) :
    wpAny (model prog w) A (Builtin.«type.__call__» ⟨[.ref C], kw⟩) Q E ⟨h, g, d, t, os⟩ := by
  have FB := F.excBase_Exception
  repeat (first | (with_reducible refine wpAny_loadPart_at hC ?_) | (with_reducible refine wpAny_madeBy_exc hC ?_) | wp_step)
  refine codeAny_call_builtin_code (Code.quiet_builtin _ FB.quiet) (check_new_kw T hC ?_)
  refine new_kw T hC ?_
  show wpAny _ _ _ _ _ _
  have kp : ∀ c o, h.get? c = some o → ((h.push (kdv_tup [])).push (excO C h.objs.size)).get? c = some o := fun c o e => Heap.get?_push_of_some _ (Heap.get?_push_of_some _ e)
  have hC1 := kp _ _ hC
  have it : ((h.push (kdv_tup [])).push (excO C h.objs.size)).get? (h.objs.size + 1) = some (excO C h.objs.size) := by heap_get
  have cc : (Value.ref C :: bm).contains (.ref C) = true := by simp
  have i1 := hi.keeps kp
  have b1 := (hb (.ref (h.objs.size + 1))).keeps kp
  unfold isInstance
  repeat (first | (with_reducible refine wpAny_loadPart_at it ?_) | (with_reducible refine wpAny_isSubtype_exc hC1 ?_; rw [cc]) | wp_step)
  show wpAny _ _ (typeLookup (.ref C) _) _ _ _
  refine i1.at (wpAny_holding (wpAny_bind (b1.at (wpAny_bind (wpAny_call (codeAny_mono hq fun r s' z => ?_))))))
  rcases r with e | (v | _ | _ | _) <;> first | exact z | exact z.elim | skip
  obtain ⟨rfl, z⟩ := z
  first
    | exact wpAny_pure (wpAny_pure z)
    | (wp_walk; exact z)
theorem call_kw (T : TailIs bm) {kw : List (Str × Value)} {i : Addr} (hC : h.get? C = some (excClassObj nm q C N bs bm hdct sn sub ab col dd k0 k1 k2 k3 k5 "Exception.__new__"))
    (hi : Looks (model prog w) h (typeLookup (.ref C) "__init__") (some (.ref i))) (hb : ∀ self, Looks (model prog w) h (bindSpecial (.ref i) self) (.ref i, [self]))
    (hq : codeAny (model prog w) (A.under (.builtin "type.__call__" ⟨[.ref C], kw⟩)) (.call (.ref i) ⟨[.ref (h.objs.size + 1)], kw⟩) (InitBack (h.objs.size + 1) R)
      ⟨(h.push (kdv_tup [])).push (excO C h.objs.size), g, d, t, os⟩) :
    codeAny (model prog w) A (.call (.ref C) ⟨[], kw⟩) R ⟨h, g, d, t, os⟩ := by
  have f1 := tc_lookup
  have f2 := tc_bind (.ref C)
  have hT : (⟨h, g, d, t, os⟩ : Shared).TypeIs (.ref C) "type" := ⟨_, hC, rfl⟩
  refine codeAny_of_tree ?_
  show wpAny _ _ (callAny (.ref C) _) _ _ _
  repeat (any_goals (first | assumption | (with_reducible refine wpAny_loadPart_at hC ?_) | wp_step))
  refine ⟨rfl, ?_⟩
  refine codeAny_call_builtin_at (Code.quiet_builtin _ (by decide +kernel)) entry_typeCall (check_call_kw hC (type_call_kw T hC hi hb ?_))
  refine codeAny_mono hq fun r s' z => ?_
  rcases r with e | (v | _ | _ | _) <;> exact z
end
section
variable {prog : Program} {w : World} {A : Around} {E : Value → Shared → Prop} {R : Result → Shared → Prop} {s : Shared} {K : Frag} {mg : Str → Option Value} {b x qn f : Str} {B C i : Addr}
theorem made_kw (T : ErrTxt K mg B x C) (U : InitTxt K qn f C i) {v : Value} (X : K.In s.heap) (hlim : s.heap.NoLimit) (hroom : A.depth + 1 < recursionLimit)
    (hq : ∀ h' tk e d, MadeErr s.heap h' e C d f v → R (.ok (.ret (.ref e))) { s with heap := h', toks := tk }) : codeAny (model prog w) A (.call (.ref C) ⟨[], [(f, v)]⟩) R s := by
  obtain ⟨q, N, bs, sn, sub, ab, col, dd, k0, k1, k2, k3, k5, hC⟩ := T.at_
  obtain ⟨hp, g, dr, tk, os⟩ := s
  have kp : ∀ c o, hp.get? c = some o → ((hp.push (kdv_tup [])).push (excO C hp.objs.size)).get? c = some o := fun c o e => Heap.get?_push_of_some _ (Heap.get?_push_of_some _ e)
  have it : ((hp.push (kdv_tup [])).push (excO C hp.objs.size)).get? (hp.objs.size + 1) = some (excO C hp.objs.size) := by heap_get
  refine call_kw ⟨rfl, rfl, rfl⟩ (X _ _ hC) (looks_findIn X U.iC) (fun self => bind_fn X self U.tI) ?_
  refine init_kw (s := ⟨(hp.push (kdv_tup [])).push (excO C hp.objs.size), g, dr, tk, os⟩) T U (X.keeps kp) (hlim.keeps kp) it ?_ fun h' tk' dx ⟨st, hx, dn, dne, hns⟩ => ?_
  · show A.depth + 1 < recursionLimit
    exact hroom
  · have old : ∀ c o, hp.get? c = some o → h'.get? c = some o := fun c o e => st c o (Nat.ne_of_lt (Nat.lt_succ_of_lt (Heap.lt_size e))) (kp c o e)
    have z : hp.objs.size + 1 + 1 ≤ dx := by
      have q := dn
      rw [Heap.size_push, Heap.size_push] at q
      exact q
    refine ⟨rfl, hq h' tk' (hp.objs.size + 1) dx ⟨old, Nat.le_succ _, ⟨_, _, hx, rfl, rfl, rfl, rfl⟩, ?_, dne, hns⟩⟩
    show hp.objs.size ≤ dx
    omega
end
end FX
/-! The layer's rules for such errors. -/
namespace FX
open PySem PySem.Spec PyProof.Rows L2
/-- what a field's dict answers -/
theorem one_field {v : V} {u : Value} (r : RelV v u) (f g : Str) : RelO (List.lookup g [(f, v)]) (if g = f then some u else none) := by
  by_cases e : g = f
  · subst e
    have q : List.lookup g [(g, v)] = some v := by simp [List.lookup]
    rw [q, if_pos rfl]
    exact r
  · have q : List.lookup g [(f, v)] = none := by
      have z : (g == f) = false := by simpa using e
      simp [List.lookup, z]
    rw [q, if_neg e]
    exact True.intro
section
variable {X : Cx} {x b qn f : Str} {B C i : Addr}
/-- behind the making: the error is no object of ours, its dict is -/
theorem make_end {pins : List (Addr × Obj)} {σ : L2.St} {H1 : Hp} {s1 : Shared} {h' : Heap} {tk' : Nat} {e d : Addr} {v : V} {u : Value} (I1 : Inv X pins σ H1 s1) (rv : RelV v u) (M : MadeErr s1.heap h' e C d f u) :
    ∃ G : Heap, Inv X pins σ (upd H1 d (.xd [(f, v)])) { s1 with heap := G, toks := tk' } ∧ (∀ c o, G.get? c = some o → h'.get? c = some o) ∧ G.get? e = none ∧ (upd H1 d (.xd [(f, v)])) e = none ∧ H1 d = none := by
  obtain ⟨G, g1, g2⟩ := restrict h' fun c => decide (c ≠ e)
  have gk : ∀ c, c ≠ e → G.get? c = h'.get? c := fun c hc => g1 c (decide_eq_true hc)
  have ge : G.get? e = none := g2 e (by simp)
  have ob : ObjOk X.prog X.w (upd H1 d (.xd [(f, v)])) G d (.xd [(f, v)]) := ⟨_, M.has.at (fun o q => (gk d M.ne).trans q), fun g => one_field rv f g⟩
  refine ⟨G, I1.laid (fun c o q => ?_) M.up ob, fun c o q => ?_, ge, ?_, I1.hok.fresh M.up⟩
  · have hce : c ≠ e := Nat.ne_of_lt (Nat.lt_of_lt_of_le (Heap.lt_size q) M.new)
    rw [gk c hce]
    exact M.stay c o q
  · by_cases hce : c = e
    · subst hce
      rw [ge] at q
      cases q
    · rw [← gk c hce]
      exact q
  · rw [upd_ne (Ne.symm M.ne)]
    exact I1.hok.fresh M.new
/-- x(e), e's value kept under f -/
def tMk (C : Addr) (f : Str) (ta : TA) : L2.St → Hp → XK → Prop := fun σ H Q => ta σ H fun vs H1 => ∃ v, vs = [v] ∧ ∀ d, H1 d = none → Q (.ref C) (some d) (upd H1 d (.xd [(f, v)]))
theorem pmk_err {a : Expr} {ta : TA} {p pos : Pos} {k : Nat} (T : ErrTxt X.K X.mg B x C) (U : InitTxt X.K qn f C i) (hr : Room k X.A) (ha : PA X [a] ta) (hg : Gl X x := by rfl) (hdb : (x == ("__debug__" : Str)) = false := by decide)
    (he : starEach (a :: []) X.env = (false, eval a X.env) :: starEach [] X.env := by rfl) (hpl : (backTo pos (starEach [] X.env)).any (·.1) = false := by rfl) :
    PMk X (.Call (.Name x p) [a] [] pos) (tMk C f ta) := fun pins s σ H Q I h => by
  refine wpAny_Call_Name_kw (ld_glob I hg T.gC ?_ hdb)
  refine PySem.W.callWith_K (h₀ := X.base) I.ok.mod.kin T.kC (thn (ha.run pos pins s σ H _ I h) fun us s1 hh => ?_) he hpl
  obtain ⟨vs, H1, I1, r1, v, ev, q1⟩ := hh
  subst ev
  cases r1 with
  | @cons _ u _ us' rv rn =>
    cases rn
    refine ⟨I1.kIn, ?_⟩
    show wpAny _ _ (call (.ref C) [u]) _ _ _
    refine wpAny_call (made_run T U I1.kIn I1.nolimit (by have := hr.dp; omega) fun h' tk' e d M => ?_)
    obtain ⟨G, J, kG, ge, ne, nd⟩ := make_end (tk' := tk') I1 rv M
    obtain ⟨oe, fv, hoe, hc, hd, hdat, h1⟩ := M.it
    exact ⟨e, oe, fv, _, _, .ref C, some d, rfl, J, kG, ge, hoe, ⟨hc, hd⟩, hdat, h1, ne, rfl, I1.bare, raises_own T.sub T.ty, q1 d nd⟩
def tRaise (C : Addr) (f : Str) (W : WX) (ta : TA) : TS := fun _ σ H => tMk C f ta σ H fun cls d H' => W cls d σ H'
/-- raise x(e) -/
theorem ps_err {a : Expr} {ta : TA} {W : WX} {p pos pos2 : Pos} {k : Nat} (hc : X.calm = true) (T : ErrTxt X.K X.mg B x C) (U : InitTxt X.K qn f C i) (hr : Room k X.A) (tk : Takes X W) (ha : PA X [a] ta) (hg : Gl X x := by rfl) (hdb : (x == ("__debug__" : Str)) = false := by decide)
    (he : starEach (a :: []) X.env = (false, eval a X.env) :: starEach [] X.env := by rfl) (hpl : (backTo pos (starEach [] X.env)).any (·.1) = false := by rfl) :
    PS X (.Raise (some (.Call (.Name x p) [a] [] pos)) none pos2) (tRaise C f W ta) := ps_raise hc tk (pmk_err T U hr ha hg hdb he hpl)
/-- x() where no class over it has an __init__ of the program -/
theorem pmk_bare {bmB : List Value} {Bn newId initId : String} {p pos : Pos} (F : ExcBaseFacts Bn newId initId bmB) (q : PySem.W.excIn X.K C bmB newId = true) (gC : X.mg x = some (.ref C)) (kC : PySem.W.keepIn X.K (.ref C) = true) (r : Raises X (.ref C)) (hg : Gl X x := by rfl)
    (hdb : (x == ("__debug__" : Str)) = false := by decide) : PMk X (.Call (.Name x p) [] [] pos) (fun _ H Q => Q (.ref C) none H) := fun pins s σ H Q I h => by
  refine wpAny_Call_Name_kw (ld_glob I hg gC ?_ hdb)
  refine PySem.W.callWith_K0 (K := X.K) (Inv.kIn (I.tok _)) kC ?_
  show wpAny _ _ (call (.ref C) []) _ _ _
  obtain ⟨bm, N, nm, qn, bs, hdct, sn, sub, ab, col, dd, k0, k1, k2, k3, k5, mN, hC, hN, hni, T⟩ := exc_obj I.kIn q
  refine wpAny_call_exc_subT F T hC hN hni (fun h' e hm => ?_) (by show 0 ≤ sizeLine; exact Nat.zero_le _)
  exact mk_of (I.tok _) hm r h (I.hok.gone hm.new)
/-- x(f=e).f: the error is dropped -/
theorem pe_kwfield {e : Expr} {kp p2 p3 pos : Pos} {te : TE} {k : Nat} (T : ErrTxt X.K X.mg B x C) (U : InitTxt X.K qn f C i) (hr : Room k X.A) (he : PE X e te) (hg : Gl X x := by rfl) (hdb : (x == ("__debug__" : Str)) = false := by decide)
    (hb : attributeBase (.Call (.Name x p2) [] [{ arg := some f, value := e, pos := kp }] p3) f X.env (eval (.Call (.Name x p2) [] [{ arg := some f, value := e, pos := kp }] p3) X.env) = eval (.Call (.Name x p2) [] [{ arg := some f, value := e, pos := kp }] p3) X.env := by rfl) :
    PE X (.Attribute (.Call (.Name x p2) [] [{ arg := some f, value := e, pos := kp }] p3) f pos) te := by
  refine ⟨fun pins s σ H Q I h => attr_of hb ?_⟩
  refine wpAny_Call_Name_kw (ld_glob I hg T.gC ?_ hdb)
  refine PySem.W.callWith_KW0 (K := X.K) (h₀ := X.base) I.ok.mod.kin T.kC rfl ?_ rfl
  let Q1 : List V → Hp → Prop := fun vs H1 => match vs with
    | v :: _ => Q v H1
    | [] => False
  refine thn ((pk_cons (nm := some f) (kpos := kp) he pk_nil).run p3 pins _ σ H Q1 (I.tok _) h) fun us s1 hh => ?_
  obtain ⟨vs, H1, I1, r1, q1⟩ := hh
  cases r1 with
  | nil => exact q1.elim
  | @cons v u _ us' rv rn =>
    refine ⟨I1.kIn, ?_⟩
    show wpAny _ _ (call (.ref C) [] [(f, u)]) _ _ _
    refine wpAny_call (made_kw T U I1.kIn I1.nolimit (by have := hr.dp; omega) fun h' tk' e d M => ?_)
    obtain ⟨oe, fv, hoe, hc, hd, hdat, h1⟩ := M.it
    obtain ⟨od, ho, hl⟩ := lookIn_ns M.has
    have J : PySem.W.InstAt h' e oe C (some od) := ⟨hoe, hc, by unfold PySem.W.notCls; rw [hdat] <;> rfl, by rw [hd]; exact ho⟩
    refine HandSPX.exc_get (s := { s1 with heap := h', toks := tk' }) (I1.kIn.keeps M.stay) J U.ga U.gg T.sub (v := u) (PySem.W.findObj_own T.dict U.noF rfl (by rw [hl, if_pos rfl])) (handed_of rv) ?_
    exact ⟨v, H1, (I1.kept M.stay), rv, q1⟩
/-- what e.f reads off an error at a that a suite holds -/
def tFld (C : Addr) (f : Str) (a : Addr) (cls : Value) (d : Option Addr) (te : TE) : TE := fun σ H Q => te σ H fun z H1 => z = .ref a ∧ cls = .ref C ∧ ∃ (dd : Addr) (v : V), d = some dd ∧ H1 dd = some (.xd [(f, v)]) ∧ Q v H1
theorem pe_errfield {a : Addr} {oe : Obj} {cls : Value} {d : Option Addr} {pn : List (Addr × Obj)} {e : Expr} {te : TE} {pos : Pos} (T : ErrTxt X.K X.mg B x C) (U : InitTxt X.K qn f C i) (hz : Zc cls d oe) (hf : ∃ vs, oe.data = .fields vs) (he : PE (X.suite a ((a, oe) :: pn)) e te)
    (hb : attributeBase e f X.env (eval e X.env) = eval e X.env := by rfl) : PE (X.suite a ((a, oe) :: pn)) (.Attribute e f pos) (tFld C f a cls d te) := by
  refine ⟨fun pins s σ H Q I h => attr_of hb (thn (he.run pins s σ H _ I h) fun u s1 hh => ?_)⟩
  obtain ⟨z, H1, I1, rz, ez, ec, dd, v, ed, ea, q⟩ := hh
  subst ez ec ed
  obtain rfl : u = Value.ref a := rz
  obtain ⟨at_a, _⟩ := I1.pin (a, oe) (List.mem_append_left _ List.mem_cons_self)
  obtain ⟨vs, hd⟩ := hf
  obtain ⟨mA, hns, hrel⟩ : ObjOk X.prog X.w H1 s1.heap dd (.xd [(f, v)]) := I1.hok dd _ ea
  obtain ⟨od, ho, hl⟩ := lookIn_ns hns
  obtain ⟨w', hw, rw'⟩ := RelO.some_of (v := v) (o := mA f) (by
    have q := hrel f
    simpa [List.lookup] using q)
  have J : PySem.W.InstAt s1.heap a oe C (some od) := ⟨at_a, hz.1, by unfold PySem.W.notCls; rw [hd] <;> rfl, by rw [hz.2]; exact ho⟩
  exact HandSPX.exc_get I1.kIn J U.ga U.gg T.sub (PySem.W.findObj_own T.dict U.noF rfl (by rw [hl, hw])) (handed_of rw') ⟨v, H1, I1.tok _, rw', q⟩
end
end FX
/-! try: .. with several clauses, each with a name for the error or without one. -/
namespace FX
open PySem PySem.Spec PyProof.Rows L2
/-- a suite: the error's address, class, dict; then as a statement -/
abbrev Su := Addr → Value → Option Addr → TS
/-- behind a suite the slot i of the error's name is empty -/
def gone (i : Nat) (D : Ends) : Ends := { nx := fun σ H => D.nx (σ.set i none) H, rt := D.rt, bk := fun σ H => D.bk (σ.set i none) H, ct := fun σ H => D.ct (σ.set i none) H }
/-- what the clauses wish of the body's error; a clause: the class, the name's slot, the suite -/
def wCl (K : PySem.W.Frag) (Wout : WX) (D : Ends) : List (Value × Option Nat × Su) → WX
  | [] => Wout
  | (c, none, t) :: r => fun cls d σ H => ∃ y, PySem.W.exmOne K cls c = some y ∧ (y = true → ∀ a, H a = none → t a cls d D σ H) ∧ (y = false → wCl K Wout D r cls d σ H)
  | (c, some i, t) :: r => fun cls d σ H => ∃ y, PySem.W.exmOne K cls c = some y ∧ (y = true → ∀ a, H a = none → t a cls d (gone i D) (σ.set i (some (.ref a))) H) ∧ (y = false → wCl K Wout D r cls d σ H)
/-- the clauses' suites as terms of rules -/
inductive Cl (X : Cx) : List ExceptHandler → List (Value × Option Nat × Su) → Prop
  | nil : Cl X [] []
  | bare {x : Str} {c : Value} {t : Su} {b₀ : Stmt} {more : List Stmt} {np pos : Pos} {hds : List ExceptHandler} {l : List (Value × Option Nat × Su)} (hc : Names X x c)
      (hs : ∀ (a : Addr) (oe : Obj) (cls : Value) (d : Option Addr) (pn : List (Addr × Obj)), Zc cls d oe → (∃ vs, oe.data = .fields vs) → PSs (X.suite a ((a, oe) :: pn)) (b₀ :: more) (t a cls d)) (r : Cl X hds l) :
      Cl X (.ExceptHandler (some (.Name x np)) none (b₀ :: more) pos :: hds) ((c, none, t) :: l)
  | named {x n : Str} {i : Nat} {c : Value} {t : Su} {b₀ : Stmt} {more : List Stmt} {np pos : Pos} {hds : List ExceptHandler} {l : List (Value × Option Nat × Su)} (hi : X.N[i]? = some n) (hln : X.env.kindOf n = some .local) (hc : Names X x c)
      (hs : ∀ (a : Addr) (oe : Obj) (cls : Value) (d : Option Addr) (pn : List (Addr × Obj)), Zc cls d oe → (∃ vs, oe.data = .fields vs) → PSs (X.suite a ((a, oe) :: pn)) (b₀ :: more) (t a cls d)) (r : Cl X hds l) :
      Cl X (.ExceptHandler (some (.Name x np)) (some n) (b₀ :: more) pos :: hds) ((c, some i, t) :: l)
section
variable {X : Cx} {pins pins' : List (Addr × Obj)} {σ : L2.St} {H : Hp} {D : Ends} {Wout : WX} {a : Addr} {B : Heap} {sI s' : Shared} {cls : Value} {d : Option Addr}
/-- what is known when the clauses are asked -/
structure Asked (X : Cx) (pins : List (Addr × Obj)) (σ : L2.St) (H : Hp) (a : Addr) (B : Heap) (sI s' : Shared) (cls : Value) (d : Option Addr) (h3 : Heap) : Prop where
  J : Inv X pins σ H sI
  nb : ∀ b o, sI.heap.get? b = some o → b ∉ frs X.stack → B.get? b = some o
  up : sI.heap.UpToSlots h3
  fl : HandSPX.FlyingZ B (X.env :: X.outer) a (Zc cls d) h3
  na : H a = none
  os : s'.os = sI.os
  ag : AllBare s'.gens
theorem Asked.far (Z : Asked X pins σ H a B sI s' cls d h3) {h : Heap} {o : Obj} {vs : Array Value} (ff : h.FunFrames B (X.env :: X.outer)) (e : h.get? a = some o) (dd : o.data = .fields vs) : a ∉ frs (X.env :: X.outer) := fun hm => by
  obtain ⟨_, o', e', hnf⟩ := ff.mem hm
  rw [e] at e'
  cases e'
  exact hnf _ dd
theorem Asked.notL (Z : Asked X pins σ H a B sI s' cls d h3) (hf : X.env.frame = some X.env.locals) : a ≠ X.env.locals ∧ a ∉ X.fs := by
  obtain ⟨oe, vs, he, hz, hd⟩ := Z.fl.there
  have nfr := Z.far Z.fl.2.2.1 he hd
  refine ⟨fun z => nfr (List.mem_filterMap.mpr ⟨X.env, List.mem_cons_self, by rw [hf, z]⟩), fun hm => ?_⟩
  obtain ⟨e, q1, q2⟩ := List.mem_filterMap.mp hm
  exact nfr (List.mem_filterMap.mpr ⟨e, List.mem_cons_of_mem _ q1, q2⟩)
/-- the clauses, one behind another -/
theorem clauses (ok : X.Ok) (hs : X.stack = X.env :: X.outer) (hf : X.env.frame = some X.env.locals) (hN : X.N.Nodup) (tk : Takes X Wout) {h3 : Heap} (Z : Asked X pins σ H a B sI s' cls d h3) :
    ∀ {hds : List ExceptHandler} {l : List (Value × Option Nat × Su)}, Cl X hds l → wCl X.K Wout D l cls d σ H → wpAny (model X.prog X.w) X.A (handleBy (.ref a) X.env hds) (SP X pins D) X.xe { s' with heap := h3 } := by
  obtain ⟨nL, nF⟩ := Z.notL hf
  obtain ⟨oe3, vs3, he3, hz3, hd3⟩ := Z.fl.there
  have S3 := (Z.J.landed Z.nb Z.fl.1 (s' := { s' with heap := h3 }) Z.up Z.os Z.ag).suite he3 hd3 Z.na nL nF
  have kin : X.K.In h3 := (Z.J.landed Z.nb Z.fl.1 (s' := { s' with heap := h3 }) Z.up Z.os Z.ag).kIn
  have ask : ∀ {x : Str} {np : Pos} {c : Value} {Q : Value → Shared → Prop} {E : Value → Shared → Prop}, Names X x c → Q c { s' with heap := h3 } → wpAny (model X.prog X.w) (X.A.mark (some (.ref a))) (eval (.Name x np) X.env) Q E { s' with heap := h3 } := fun {x np c Q E} hc q => by
    obtain ⟨hg, hdbg, hm | ⟨hm, hv, hnn⟩⟩ := hc
    · exact ld_glob (X := X.suite a ((a, oe3) :: (X.pn ++ pins))) S3 hg hm q hdbg
    · exact ld_blt (X := X.suite a ((a, oe3) :: (X.pn ++ pins))) S3 hg hm hv q hnn hdbg
  have fits : ∀ {c : Value} {y : Bool}, PySem.W.exmOne X.K cls c = some y → PySem.W.Looks (model X.prog X.w) h3 (excMatches (.ref a) c) y := fun e =>
    PySem.W.exm_one (M := model X.prog X.w) kin (fun A Q E s k q => wpAny_typeOf_ref (k _ _ he3) (by rw [hz3.1]; exact q)) e
  intro hds l hk
  induction hk with
  | nil =>
    intro w
    refine wpAny_handleBy_nil ?_
    obtain ⟨k1, k2, k3, oe, vs, T, oT, ts', he, hz, hd, h1, hr⟩ := id Z.fl
    have fin : wpAny (model X.prog X.w) X.A (setFlight (.ref a) X.env.frame) (fun _ s4 => wpAny (model X.prog X.w) X.A (throw (.ref a) : Sem Flow) (SP X pins D) X.xe s4) X.xe { s' with heap := h3 } := by
      rw [hf]
      refine HandSPX.setFlight_upZ Z.fl fun h4 hh4 up4 => wpAny_throw (tk _ _ ?_)
      exact ⟨a, B, sI, pins, σ, H, cls, d, rfl, Z.J, Z.nb, Z.up.trans up4, .inr (.inr (by rw [hs]; exact hh4)), Z.na, Z.os, Z.ag, w⟩
    unfold PySem.passOn
    refine wpAny_bind (wpAny_field he hd h1 ?_)
    rw [if_neg (show ¬ ((Value.ref T == Value.none) = true) from by simp)]
    first
      | exact wpAny_bind (wpAny_pure (wpAny_bind fin))
      | exact wpAny_bind fin
  | @bare x c t b₀ more np pos hds2 l2 hc hsu r ih =>
    intro ⟨y, e, yes, no⟩
    refine wpAny_handleBy_cons (codeAny_handlers_test (ask hc ((fits e).here ?_))) (by intro q; cases q)
    cases y with
    | false => exact ih (no rfl)
    | true =>
      refine codeAny_handlers_suite (HandSPX.lands_againZ Z.fl fun h4 fl4 up4 => ?_)
      have J4 : Inv X pins σ H { s' with heap := h4 } := Z.J.landed Z.nb fl4.1 (Z.up.trans up4) Z.os Z.ag
      obtain ⟨oe4, vs4, he4, hz4, hd4⟩ := fl4.there
      refine wpAny_mono ((hsu a oe4 cls d (X.pn ++ pins) hz4 ⟨_, hd4⟩).run [] _ _ H _ (J4.suite he4 hd4 Z.na nL nF) (yes rfl a Z.na)) (fun f s6 hsp => ?_) (fun _ _ z => False.elim z)
      cases f with
      | ret u =>
        obtain ⟨v6, σ6, H6, S6, r6, q6⟩ := hsp
        exact ⟨_, _, _, S6.unsuite ok, r6, q6⟩
      | next | brk | cont =>
        obtain ⟨σ6, H6, S6, q6⟩ := hsp
        exact ⟨_, _, S6.unsuite ok, q6⟩
  | @named x n i c t b₀ more np pos hds2 l2 hi hln hc hsu r ih =>
    intro ⟨y, e, yes, no⟩
    refine wpAny_handleBy_cons (codeAny_handlers_test (ask hc ((fits e).here ?_))) (by intro q; cases q)
    cases y with
    | false => exact ih (no rfl)
    | true =>
      refine codeAny_handlers_suite_as (HandSPX.lands_againZ Z.fl fun h4 fl4 up4 => ?_)
      have J4 : Inv X pins σ H { s' with heap := h4 } := Z.J.landed Z.nb fl4.1 (Z.up.trans up4) Z.os Z.ag
      obtain ⟨oe4, vs4, he4, hz4, hd4⟩ := fl4.there
      refine store_ok (X := X.suite a ((a, oe4) :: (X.pn ++ pins))) (v := .ref a) (J4.suite he4 hd4 Z.na nL nF) hN hi (.inl hln) rfl (fun s5 S5 => ?_) (.inr hln)
      refine wpAny_mono ((hsu a oe4 cls d (X.pn ++ pins) hz4 ⟨_, hd4⟩).run [] s5 _ H _ S5 (yes rfl a Z.na)) (fun f s6 hsp => ?_) (fun _ _ z => False.elim z)
      cases f with
      | ret u =>
        obtain ⟨v6, σ6, H6, S6, r6, q6⟩ := hsp
        exact gone_ok (S6.unsuite ok) hN hi hln fun s7 J7 => ⟨_, _, _, J7, r6, q6⟩
      | next | brk | cont =>
        obtain ⟨σ6, H6, S6, q6⟩ := hsp
        exact gone_ok (S6.unsuite ok) hN hi hln fun s7 J7 => ⟨_, _, J7, q6⟩
end
/-- try: body, the clauses -/
theorem ps_tryCl {X : Cx} {body : List Stmt} {h₀ : ExceptHandler} {hds : List ExceptHandler} {l : List (Value × Option Nat × Su)} {pos : Pos} {tb : WX → TS} {Wout : WX} (hs : X.stack = X.env :: X.outer) (hf : X.env.frame = some X.env.locals) (hN : X.N.Nodup) (tk : Takes X Wout)
    (hb : ∀ (W : WX) (pn : List (Addr × Obj)) (xe : Value → Shared → Prop), Takes (X.tr pn xe) W → PassesOwn (model X.prog X.w) X.A X.env xe → PSs (X.tr pn xe) body (tb W)) (hh : Cl X (h₀ :: hds) l) :
    PS X (.Try body (h₀ :: hds) [] [] pos) (fun D σ H => tb (wCl X.K Wout D l) D σ H) := by
  refine ⟨fun pins s σ H D I h => ?_⟩
  have ok := I.ok
  have hfr : X.A.frames = some (X.env :: X.outer) := by rw [ok.frames, hs]
  refine wpAny_Try_except (wpAny_mono ((hb (wCl X.K Wout D l) (X.pn ++ pins) (fun e s1 => wpAny (model X.prog X.w) X.A (noteFrame e X.env) (fun _ s2 => wpAny (model X.prog X.w) X.A (setFlight e none) (fun _ s3 =>
    wpAny (model X.prog X.w) X.A (handleBy e X.env (h₀ :: hds)) (SP X pins D) X.xe s3) X.xe s2) X.xe s1) (fun u s' xx => ?_) PassesOwn.looking).run [] s σ H D (I.toTry _) h) (fun f s1 hsp => ?_) fun e s1 he => he)
  · obtain ⟨a, B, sI, pins', σ', H', cls, d, rfl, J', nb, up, sky, na, os, ag, w⟩ := xx
    have sky' : Sky B (X.env :: X.outer) a (Zc cls d) X.env.locals s'.heap := by rw [← hs]; exact sky
    exact Sky.land Zc.steady hfr hf sky' fun h3 fl3 up3 => clauses ok hs hf hN tk ⟨J'.ofTry ok, nb, up.trans up3, fl3, na, os, ag⟩ hh w
  · cases f with
    | next =>
      obtain ⟨σ', H', J', q⟩ := hsp
      exact wpAny_execs_nil ⟨σ', H', J'.ofTry ok, q⟩
    | ret u =>
      obtain ⟨v, σ', H', J', r, q⟩ := hsp
      exact ⟨v, σ', H', J'.ofTry ok, r, q⟩
    | brk | cont =>
      obtain ⟨σ', H', J', q⟩ := hsp
      exact ⟨σ', H', J'.ofTry ok, q⟩
end FX
namespace FX
open PySem PySem.Spec PyProof.Rows L2
theorem go_t {y : Bool} {A D : Prop} (h : y = true) (k : A) : if y = true then A else D := by
  rw [if_pos h]
  exact k
theorem go_f {y : Bool} {A D : Prop} (h : y = false) (k : D) : if y = true then A else D := by
  rw [if_neg (by rw [h]; decide)]
  exact k
/-- clauses told by numbers, each with a name for the error at the slot i -/
def byNo (C : Nat → Addr) (i : Nat) (su : Nat → Su) (js : List Nat) : List (Value × Option Nat × Su) := js.map fun j => (.ref (C j), some i, su j)
variable {K : PySem.W.Frag} {Wout : WX} {D : Ends} {C : Nat → Addr} {i n : Nat} {su : Nat → Su} {d : Option Addr} {σ : L2.St} {H : Hp} {l : List (Value × Option Nat × Su)}
theorem wCl_past (hno : ∀ j, j < 25 → j ≠ n → PySem.W.exmOne K (.ref (C n)) (.ref (C j)) = some false) (w : wCl K Wout D l (.ref (C n)) d σ H) :
    ∀ {js : List Nat}, (∀ j ∈ js, j < 25 ∧ j ≠ n) → wCl K Wout D (byNo C i su js ++ l) (.ref (C n)) d σ H
  | [], _ => w
  | j :: js, h => ⟨false, hno j (h j (List.mem_cons_self ..)).1 (h j (List.mem_cons_self ..)).2, fun z => (nomatch z), fun _ => wCl_past hno w fun y hy => h y (List.mem_cons_of_mem _ hy)⟩
theorem wCl_hit (hno : ∀ j, j < 25 → j ≠ n → PySem.W.exmOne K (.ref (C n)) (.ref (C j)) = some false) (hyes : PySem.W.exmOne K (.ref (C n)) (.ref (C n)) = some true)
    (w : ∀ a, H a = none → su n a (.ref (C n)) d (gone i D) (σ.set i (some (.ref a))) H) :
    ∀ {js : List Nat}, (∀ j ∈ js, j < 25) → n ∈ js → wCl K Wout D (byNo C i su js ++ l) (.ref (C n)) d σ H
  | [], _, h => by cases h
  | j :: js, h, hn => by
    by_cases e : j = n
    · subst e
      exact ⟨true, hyes, fun _ => w, fun z => (nomatch z)⟩
    · refine ⟨false, hno j (h j (List.mem_cons_self ..)) e, fun z => (nomatch z), fun _ => ?_⟩
      refine wCl_hit hno hyes w (fun y hy => h y (List.mem_cons_of_mem _ hy)) ?_
      rcases List.mem_cons.mp hn with q | q
      · exact absurd q.symm e
      · exact q
end FX
/-! The predicates over any value, told by data. -/
namespace K74
open PySem L2 FX
def top (i : Nat) : Stmt := PySem.Challenge.pw_foldsall_k74_whole_fewest_cells_of_lines.main.body.getD i (.Pass ⟨0, 0, 0, 0⟩)
/-- a def of the module -/
structure At (K : PySem.W.Frag) (mg : Str → Option Value) (x : Str) (st : Stmt) (f : Addr) (fd : FuncData) (ps : List Str) : Prop where
  F : Fun K x x st f fd
  g : mg x = some (.ref f)
  b : Binds K fd ps []
/-- the built-ins' names are free -/
structure Bi (mg : Str → Option Value) : Prop where
  int : mg "int" = none
  bool : mg "bool" = none
  list : mg "list" = none
  tuple : mg "tuple" = none
  isinstance : mg "isinstance" = none
  len : mg "len" = none
  range : mg "range" = none
  zip : mg "zip" = none
  all : mg "all" = none
  enumerate : mg "enumerate" = none
  abs : mg "abs" = none
  max : mg "max" = none
  min : mg "min" = none
  set : mg "set" = none
  repr : mg "repr" = none
  str : mg "str" = none
/-! ### data -/
abbrev D := PyData
def tyN : D → String
  | .none => "NoneType" | .bool _ => "bool" | .int _ => "int" | .str _ => "str" | .list _ => "list" | .tuple _ => "tuple" | .dict _ => "dict"
theorem ty_data {K : PySem.W.Frag} {H : Hp} {v : V} {d : D} (h : Dp K H v d) : TyX K H v (.type (tyN d)) := by
  cases h with
  | non => exact .base .non
  | bl b => exact .base (.bl b)
  | int i => exact .base (.int i)
  | str x => exact .base (.str x)
  | lst q _ =>
    rcases q with (q | ⟨o, q⟩) | ⟨o, its, n, q, c, _⟩
    · exact .base (.lst q)
    · exact .base (.frz q)
    · exact .kList q c
  | tup q _ =>
    rcases q with (q | ⟨o, q⟩) | ⟨o, its, n, q, c, _⟩
    · exact .base (.tup q)
    · exact .fTuple q
    · exact .kTuple q c
def isI : D → Bool | .int _ => true | _ => false
def isSq : D → Bool | .list _ => true | .tuple _ => true | _ => false
def items : D → List D | .list xs => xs | .tuple xs => xs | _ => []
def intV : D → Int | .int i => i | _ => 0
/-- one value, a bool comes back -/
def spB (K : PySem.W.Frag) (f : D → Bool) : Sp := fun vs H Q _ => ∃ v d, vs = [v] ∧ Dp K H v d ∧ ∀ H', Same H H' → Q (.bl (f d)) H'
section
variable {P : Program} {w : World} {K : PySem.W.Frag} {mg : Str → Option Value} {base : Heap}
abbrev sInteger : Stmt := top 1
theorem kInt {K : PySem.W.Frag} : ∀ d : D, PySem.W.kitOne K (.type (tyN d)) (.type "int") = some (match d with | .int _ => true | .bool _ => true | _ => false) := fun d => by
  cases d <;> (refine kit_ty ?_; dsimp only [tyN]; decide +kernel)
theorem kBool {K : PySem.W.Frag} : ∀ d : D, PySem.W.kitOne K (.type (tyN d)) (.type "bool") = some (match d with | .bool _ => true | _ => false) := fun d => by
  cases d <;> (refine kit_ty ?_; dsimp only [tyN]; decide +kernel)
theorem kList {K : PySem.W.Frag} : ∀ d : D, PySem.W.kitOne K (.type (tyN d)) (.type "list") = some (match d with | .list _ => true | _ => false) := fun d => by
  cases d <;> (refine kit_ty ?_; dsimp only [tyN]; decide +kernel)
theorem kTuple {K : PySem.W.Frag} : ∀ d : D, PySem.W.kitOne K (.type (tyN d)) (.type "tuple") = some (match d with | .tuple _ => true | _ => false) := fun d => by
  cases d <;> (refine kit_ty ?_; dsimp only [tyN]; decide +kernel)
theorem scInteger : FnScope ["value"] ["value"] (defScope sInteger) := ⟨rfl, rfl, rfl, by decide +kernel, rfl, by decide +kernel, by decide +kernel⟩
theorem ok_integer {f : Addr} {fd : FuncData} (F : Fun K "is_integer" "is_integer" sInteger f fd) (Z : Bi mg) : FnOk P w K mg base CX0 1 f fd ["value"] (spB K isI) := by
  refine F.ok scInteger (fun vs H Q E h => ?_) (fun cdv A outer s H vs Q E hr h => ?_)
  · obtain ⟨v, d, rfl, _⟩ := h
    rfl
  · obtain ⟨v, d, rfl, hd, k⟩ := h
    have k' : Q (.bl (isI d)) H := k H (Same.refl H)
    refine ⟨_, pss_one (ps_ret (pe_and (pe_callB call_isi (by rfl) Z.isinstance (by decide +kernel) (pa_cons (pv 0) (pa_cons (pe_bltn (v := .ty "int") (by rfl) Z.int (by decide +kernel) rfl) pa_nil)))
      (pe_one (pe_not (pe_callB call_isi (by rfl) Z.isinstance (by decide +kernel) (pa_cons (pv 0) (pa_cons (pe_bltn (v := .ty "bool") (by rfl) Z.bool (by decide +kernel) rfl) pa_nil))))))), ?_⟩
    refine ⟨_, rfl, v, _, _, _, _, rfl, .ty "int", ty_data hd, kInt d, _, rfl, ?_⟩
    cases d with
    | int i => refine iteT ⟨_, rfl, v, _, _, _, _, rfl, .ty "bool", ty_data hd, kBool (.int i), _, rfl, k'⟩
    | bool b => refine iteT ⟨_, rfl, v, _, _, _, _, rfl, .ty "bool", ty_data hd, kBool (.bool b), _, rfl, k'⟩
    | none | str _ | list _ | tuple _ | dict _ => exact iteF k'
end
end K74
namespace K74
open PySem L2 FX
theorem seqT {K : PySem.W.Frag} {H H' : Hp} {a : Addr} {xs : List V} (e : Same H H') (h : SqT K H a xs) : SqT K H' a xs := by
  rcases h with (h | ⟨o, h⟩) | h
  · exact .inl (.inl (e _ _ h))
  · exact .inl (.inr ⟨o, e _ _ h⟩)
  · exact .inr h
mutual
theorem dp_same {K : PySem.W.Frag} {H H' : Hp} (s : Same H H') : ∀ {v : V} {d : D}, Dp K H v d → Dp K H' v d
  | _, _, .non => .non
  | _, _, .bl b => .bl b
  | _, _, .int i => .int i
  | _, _, .str x => .str x
  | _, _, .lst q r => .lst (s.seq q) (dpAll_same s r)
  | _, _, .tup q r => .tup (seqT s q) (dpAll_same s r)
theorem dpAll_same {K : PySem.W.Frag} {H H' : Hp} (s : Same H H') : ∀ {vs : List V} {ds : List D}, DpAll K H vs ds → DpAll K H' vs ds
  | _, _, .nil => .nil
  | _, _, .cons h r => .cons (dp_same s h) (dpAll_same s r)
end
theorem dpAll_len {K : PySem.W.Frag} {H : Hp} : ∀ {vs : List V} {ds : List D}, DpAll K H vs ds → vs.length = ds.length
  | _, _, .nil => rfl
  | _, _, .cons _ r => congrArg Nat.succ (dpAll_len r)
theorem dpAll_at {K : PySem.W.Frag} {H : Hp} : ∀ {vs : List V} {ds : List D} {i : Nat} {d : D}, DpAll K H vs ds → ds[i]? = some d → ∃ v, vs[i]? = some v ∧ Dp K H v d
  | _, _, _, _, .nil, e => by simp at e
  | _, _, 0, _, .cons h _, e => by
    simp at e
    subst e
    exact ⟨_, rfl, h⟩
  | _, _, i + 1, _, .cons _ r, e => by
    obtain ⟨v, h1, h2⟩ := dpAll_at (i := i) r (by simpa using e)
    exact ⟨v, by simpa using h1, h2⟩
/-- a list or a tuple, told by its things -/
theorem dp_seq {K : PySem.W.Frag} {H : Hp} {v : V} {d : D} (h : Dp K H v d) (hs : isSq d = true) : ∃ a xs, v = .ref a ∧ (SqL K H a xs ∨ SqT K H a xs) ∧ DpAll K H xs (items d) := by
  cases h with
  | non => cases hs
  | bl b => cases hs
  | int i => cases hs
  | str x => cases hs
  | lst q r => exact ⟨_, _, rfl, .inl q, r⟩
  | tup q r => exact ⟨_, _, rfl, .inr q, r⟩
theorem dp_int {K : PySem.W.Frag} {H : Hp} {v : V} {d : D} (h : Dp K H v d) (hs : isI d = true) : ∃ i, v = .int i ∧ d = .int i := by
  cases h with
  | int i => exact ⟨i, rfl, rfl⟩
  | non => cases hs
  | bl b => cases hs
  | str x => cases hs
  | lst q r => cases hs
  | tup q r => cases hs
section
variable {P : Program} {w : World} {K : PySem.W.Frag} {mg : Str → Option Value} {base : Heap}
abbrev sNumber : Stmt := top 2
abbrev sBelow : Stmt := top 3
abbrev sBetween : Stmt := top 4
abbrev sSequence : Stmt := top 5
abbrev sRowOf : Stmt := top 6
abbrev sPower : Stmt := top 10
def isN (d : D) : Bool := isI d && decide (0 ≤ intV d)
def isB (m : Int) (d : D) : Bool := isN d && decide (intV d < m)
def isBt (a b : Int) (d : D) : Bool := isI d && (decide (a ≤ intV d) && decide (intV d ≤ b))
def isRow (m : Int) (d : D) : Bool := isSq d && decide (((items d).length : Int) = m)
def spB1 (K : PySem.W.Frag) (f : Int → D → Bool) : Sp := fun vs H Q _ => ∃ m v d, vs = [.int m, v] ∧ Dp K H v d ∧ ∀ H', Same H H' → Q (.bl (f m d)) H'
def spB2 (K : PySem.W.Frag) (f : Int → Int → D → Bool) : Sp := fun vs H Q _ => ∃ m n v d, vs = [.int m, .int n, v] ∧ Dp K H v d ∧ ∀ H', Same H H' → Q (.bl (f m n d)) H'
theorem and_t {a b : Bool} (h : a = true) : (a && b) = b := by rw [h]; rfl
theorem and_f {a b : Bool} (h : a = false) : (a && b) = false := by rw [h]; rfl
theorem scNumber : FnScope ["value"] ["value"] (defScope sNumber) := ⟨rfl, rfl, rfl, by decide +kernel, rfl, by decide +kernel, by decide +kernel⟩
theorem ok_number {f fI : Addr} {fd fdI : FuncData} (F : Fun K "is_number" "is_number" sNumber f fd) (Z : Bi mg) (FI : At K mg "is_integer" sInteger fI fdI ["value"]) : FnOk P w K mg base CX0 2 f fd ["value"] (spB K isN) := by
  have GI : FnOk P w K mg base CX0 1 fI fdI ["value"] (spB K isI) := ok_integer FI.F Z
  refine F.ok scNumber (fun vs H Q E h => ?_) (fun cdv A outer s H vs Q E hr h => ?_)
  · obtain ⟨v, d, rfl, _⟩ := h
    rfl
  · obtain ⟨v, d, rfl, hd, k⟩ := h
    refine ⟨_, pss_one (ps_ret (pe_and (pe_call GI hr rfl FI.g FI.F.kp FI.b .nil pass0 (by exact (pa_cons (pv 0) pa_nil))) (pe_one (pe_cmpR op_ge (pv 0) pe_int (nomark _))))), ?_⟩
    refine ⟨_, rfl, v, d, rfl, hd, fun H1 s1 => ⟨_, rfl, ?_⟩⟩
    have kk := k H1 s1
    by_cases hi : isI d = true
    · refine go_t hi ?_
      obtain ⟨i, rfl, rfl⟩ := dp_int hd hi
      exact ⟨_, rfl, _, _, rfl, rfl, kk⟩
    · have hi' : isI d = false := by simpa using hi
      refine go_f hi' ?_
      rw [show isN d = false from and_f hi'] at kk
      exact kk
theorem scBelow : FnScope ["many", "value"] ["many", "value"] (defScope sBelow) := ⟨rfl, rfl, rfl, by decide +kernel, rfl, by decide +kernel, by decide +kernel⟩
theorem ok_below {f fN : Addr} {fd fdN : FuncData} (F : Fun K "is_below" "is_below" sBelow f fd) (FN : At K mg "is_number" sNumber fN fdN ["value"]) (GN : FnOk P w K mg base CX0 2 fN fdN ["value"] (spB K isN)) :
    FnOk P w K mg base CX0 3 f fd ["many", "value"] (spB1 K isB) := by
  refine F.ok scBelow (fun vs H Q E h => ?_) (fun cdv A outer s H vs Q E hr h => ?_)
  · obtain ⟨m, v, d, rfl, _⟩ := h
    rfl
  · obtain ⟨m, v, d, rfl, hd, k⟩ := h
    refine ⟨_, pss_one (ps_ret (pe_and (pe_call GN hr rfl FN.g FN.F.kp FN.b .nil pass0 (by exact (pa_cons (pv 1) pa_nil))) (pe_one (pe_cmpR op_lt (pv 1) (pv 0) (nomark _))))), ?_⟩
    refine ⟨_, rfl, v, d, rfl, hd, fun H1 s1 => ⟨_, rfl, ?_⟩⟩
    have kk := k H1 s1
    by_cases hi : isN d = true
    · refine go_t hi ?_
      obtain ⟨i, rfl, rfl⟩ := dp_int hd (by
        unfold isN at hi
        simp only [Bool.and_eq_true] at hi
        exact hi.1)
      rw [show isB m (.int i) = decide (i < m) from and_t hi] at kk
      exact ⟨_, rfl, _, rfl, _, _, rfl, rfl, kk⟩
    · have hi' : isN d = false := by simpa using hi
      refine go_f hi' ?_
      rw [show isB m d = false from and_f hi'] at kk
      exact kk
theorem scBetween : FnScope ["least", "most", "value"] ["least", "most", "value"] (defScope sBetween) := ⟨rfl, rfl, rfl, by decide +kernel, rfl, by decide +kernel, by decide +kernel⟩
theorem ok_between {f fI : Addr} {fd fdI : FuncData} (F : Fun K "is_between" "is_between" sBetween f fd) (FI : At K mg "is_integer" sInteger fI fdI ["value"]) (GI : FnOk P w K mg base CX0 1 fI fdI ["value"] (spB K isI)) :
    FnOk P w K mg base CX0 2 f fd ["least", "most", "value"] (spB2 K isBt) := by
  refine F.ok scBetween (fun vs H Q E h => ?_) (fun cdv A outer s H vs Q E hr h => ?_)
  · obtain ⟨m, n, v, d, rfl, _⟩ := h
    rfl
  · obtain ⟨m, n, v, d, rfl, hd, k⟩ := h
    refine ⟨_, pss_one (ps_ret (pe_and (pe_call GI hr rfl FI.g FI.F.kp FI.b .nil pass0 (by exact (pa_cons (pv 2) pa_nil))) (pe_one (pe_chain op_le op_le (pv 0) (pv 2) (pv 1))))), ?_⟩
    refine ⟨_, rfl, v, d, rfl, hd, fun H1 s1 => ⟨_, rfl, ?_⟩⟩
    have kk := k H1 s1
    by_cases hi : isI d = true
    · refine go_t hi ?_
      obtain ⟨i, rfl, rfl⟩ := dp_int hd hi
      refine ⟨_, rfl, _, rfl, _, _, rfl, rfl, _, rfl, ?_⟩
      rw [show isBt m n (.int i) = (decide (m ≤ i) && decide (i ≤ n)) from rfl] at kk
      by_cases h1 : m ≤ i
      · refine go_t (decide_eq_true h1) ?_
        rw [and_t (decide_eq_true h1)] at kk
        exact ⟨_, rfl, _, _, rfl, rfl, kk⟩
      · refine go_f (decide_eq_false h1) ?_
        rw [and_f (decide_eq_false h1)] at kk
        exact kk
    · have hi' : isI d = false := by simpa using hi
      refine go_f hi' ?_
      rw [show isBt m n d = false from and_f hi'] at kk
      exact kk
theorem scSequence : FnScope ["value"] ["value"] (defScope sSequence) := ⟨rfl, rfl, rfl, by decide +kernel, rfl, by decide +kernel, by decide +kernel⟩
theorem kSq {K : PySem.W.Frag} (d : D) : PySem.W.kitAny K (.type (tyN d)) [.type "list", .type "tuple"] = some (isSq d) := by
  unfold PySem.W.kitAny PySem.W.kitAny PySem.W.kitAny
  rw [kList d, kTuple d]
  cases d <;> rfl
theorem ok_sequence {f : Addr} {fd : FuncData} (F : Fun K "is_sequence" "is_sequence" sSequence f fd) (Z : Bi mg) : FnOk P w K mg base CX0 1 f fd ["value"] (spB K isSq) := by
  refine F.ok scSequence (fun vs H Q E h => ?_) (fun cdv A outer s H vs Q E hr h => ?_)
  · obtain ⟨v, d, rfl, _⟩ := h
    rfl
  · obtain ⟨v, d, rfl, hd, k⟩ := h
    refine ⟨_, pss_one (ps_ret (pe_callB call_isiT (by rfl) Z.isinstance (by decide +kernel) (pa_cons (pv 0) (pa_cons (pe_tup (pa_cons (pe_bltn (v := .ty "list") (by rfl) Z.list (by decide +kernel) rfl) (pa_cons (pe_bltn (v := .ty "tuple") (by rfl) Z.tuple (by decide +kernel) rfl) pa_nil))) pa_nil)))), ?_⟩
    refine ⟨_, rfl, (by show 2 ≤ sizeLine; decide), fun t ht => ?_⟩
    have s1 : Same H (upd H t (.tup [.ty "list", .ty "tuple"])) := fun c o e => by
      rw [upd_ne (ne_of_none e ht)]
      exact e
    exact ⟨v, t, _, _, _, _, rfl, upd_same, .cons (.ty "list") (.cons (.ty "tuple") .nil), ty_data (dp_same s1 hd), kSq d, k _ s1⟩
theorem scRowOf : FnScope ["many", "value"] ["many", "value"] (defScope sRowOf) := ⟨rfl, rfl, rfl, by decide +kernel, rfl, by decide +kernel, by decide +kernel⟩
theorem ok_rowOf {f fS : Addr} {fd fdS : FuncData} (F : Fun K "is_row_of" "is_row_of" sRowOf f fd) (Z : Bi mg) (FS : At K mg "is_sequence" sSequence fS fdS ["value"]) (GS : FnOk P w K mg base CX0 1 fS fdS ["value"] (spB K isSq)) :
    FnOk P w K mg base CX0 2 f fd ["many", "value"] (spB1 K isRow) := by
  refine F.ok scRowOf (fun vs H Q E h => ?_) (fun cdv A outer s H vs Q E hr h => ?_)
  · obtain ⟨m, v, d, rfl, _⟩ := h
    rfl
  · obtain ⟨m, v, d, rfl, hd, k⟩ := h
    refine ⟨_, pss_one (ps_ret (pe_and (pe_call GS hr rfl FS.g FS.F.kp FS.b .nil pass0 (by exact (pa_cons (pv 1) pa_nil))) (pe_one (pe_cmpR op_eq (pe_callB call_len_seq (by rfl) Z.len PySem.boot_len (pa_cons (pv 1) pa_nil)) (pv 0) (nomark _))))), ?_⟩
    refine ⟨_, rfl, v, d, rfl, hd, fun H1 s1 => ⟨_, rfl, ?_⟩⟩
    have kk := k H1 s1
    by_cases hi : isSq d = true
    · refine go_t hi ?_
      obtain ⟨a, xs, rfl, q, r⟩ := dp_seq (dp_same s1 hd) hi
      rw [show isRow m d = decide (((items d).length : Int) = m) from and_t hi, ← dpAll_len r] at kk
      refine ⟨_, rfl, a, xs, rfl, q, _, rfl, rfl, ?_⟩
      rw [show decide (V.int xs.length = V.int m) = decide ((xs.length : Int) = m) from by
        by_cases e : (xs.length : Int) = m
        · rw [decide_eq_true e, decide_eq_true (congrArg V.int e)]
        · rw [decide_eq_false e, decide_eq_false fun z => e (V.int.inj z)]]
      exact kk
    · have hi' : isSq d = false := by simpa using hi
      refine go_f hi' ?_
      rw [show isRow m d = false from and_f hi'] at kk
      exact kk
def pow' (b : Int) : Nat → Int
  | 0 => 1
  | n + 1 => pow' b n * b
def spPower : Sp := fun vs H Q _ => ∃ (b : Int) (n : Nat), vs = [.int b, .int n] ∧ 0 ≤ b ∧ b < 100 ∧ n < 100 ∧ Q (.int (pow' b n)) H
theorem scPower : FnScope ["base", "times", "product_now", "_"] ["base", "times"] (defScope sPower) := ⟨rfl, rfl, rfl, by decide +kernel, rfl, by decide +kernel, by decide +kernel⟩
theorem ok_power {f : Addr} {fd : FuncData} (F : Fun K "power" "power" sPower f fd) (Z : Bi mg) : FnOk P w K mg base CX0 1 f fd ["base", "times"] spPower := by
  refine F.ok scPower (fun vs H Q E h => ?_) (fun cdv A outer s H vs Q E hr h => ?_)
  · obtain ⟨m, v, rfl, _⟩ := h
    rfl
  · obtain ⟨b, n, rfl, b0, b1, hn, k⟩ := h
    refine ⟨_, pss_cons (ps_set (i := 2) scPower.nd rfl (Or.inl rfl) pe_int)
      (pss_cons (ps_for PassesOwn.never rfl (pi_range1 rfl Z.range (pa_cons (pv 1) pa_nil)) (pg_name (i := 3) scPower.nd rfl (Or.inl rfl))
        (pss_one (ps_aug (i := 2) scPower.nd rfl (Or.inl rfl) (pv 0) iop_mul)))
      (pss_one (ps_ret (pv 2)))), ?_⟩
    refine ⟨_, rfl, n, rfl, by omega, by omega, ?_⟩
    have e0 : ((n : Int)).toNat = n := by omega
    rw [e0]
    refine for_range (n := n) (fun i σ H' => ∃ u : Option V, σ = [some (.int b), some (.int n), some (.int (pow' b i)), u] ∧ H' = H) ⟨none, rfl, rfl⟩ ?_ ?_
    · rintro i σ H' hi ⟨u, rfl, rfl⟩
      exact ⟨_, rfl, _, rfl, _, _, rfl, rfl, .inr ⟨by omega, by omega⟩, _, rfl, rfl⟩
    · rintro σ H' ⟨u, rfl, rfl⟩
      exact ⟨_, rfl, k⟩
end
end K74
namespace K74
open PySem L2 FX
/-- the loop of a walk, whatever a turn does -/
theorem walk_it {J : It} {n : Nat} {G : Hp → Prop} {Y : Nat → Hp → V → Hp → Prop} (w : Walk J n G Y) {H0 : Hp} {B : V → Hp → (Hp → Prop) → Prop} {Qd : Hp → Prop} (Pv : Nat → Hp → Prop) (h0 : Pv 0 H0) (hG : ∀ i H, i ≤ n → Pv i H → G H)
    (hs : ∀ i x H H', i < n → Pv i H → Y i H x H' → B x H' (Pv (i + 1))) (hd : ∀ H, Pv n H → Qd H) :
    ∃ W : Nat → Nat → Hp → Prop, (∃ m, W 0 m H0) ∧ ∀ i m H, W i m H → (J.stop i H ∧ Qd H) ∨ (J.go i H ∧ ∃ Nx : Hp → Prop, (∀ H', Nx H' → ∃ m', m' < m ∧ W (i + 1) m' H') ∧ ∀ x H', J.yld i H x H' → B x H' Nx) := by
  refine ⟨fun i m H => m = n - i ∧ i ≤ n ∧ Pv i H, ⟨n, by simp, Nat.zero_le _, h0⟩, ?_⟩
  rintro i m H ⟨rfl, hi, p⟩
  by_cases hlt : i < n
  · exact .inr ⟨w.goes i H hlt (hG i H hi p), Pv (i + 1), fun H' p' => ⟨n - (i + 1), by omega, rfl, hlt, p'⟩, fun x H' y => hs i x H H' hlt p (w.yields i H x H' hlt (hG i H hi p) y)⟩
  · have e : i = n := by omega
    subst e
    exact .inl ⟨w.stops H (hG _ H hi p), hd H p⟩
/-! ### a list in the making -/
def off (H : Hp) (a : Addr) : Hp := fun b => if b = a then none else H b
theorem off_ne {H : Hp} {a b : Addr} (h : b ≠ a) : off H a b = H b := if_neg h
theorem off_same {H : Hp} {a : Addr} : off H a a = none := if_pos rfl
theorem off_upd {H : Hp} {a : Addr} {o : HO} : off (upd H a o) a = off H a := by
  funext b
  by_cases h : b = a
  · rw [h, off_same, off_same]
  · rw [off_ne h, off_ne h, upd_ne h]
theorem off_le {H : Hp} {a : Addr} : Same (off H a) H := fun c o e => by
  by_cases h : c = a
  · rw [h, off_same] at e
    cases e
  · rw [off_ne h] at e
    exact e
theorem off_mono {H H' : Hp} {a : Addr} (s : ∀ c o, c ≠ a → H c = some o → H' c = some o) : Same (off H a) (off H' a) := fun c o e => by
  by_cases h : c = a
  · rw [h, off_same] at e
    cases e
  · rw [off_ne h] at e ⊢
    exact s c o h e
/-- at a stands a list that is still filled: its things don't hang on it -/
def Grow (K : PySem.W.Frag) (H : Hp) (a : Addr) (ds : List D) : Prop := ∃ vs, H a = some (.lst vs) ∧ DpAll K (off H a) vs ds
theorem Grow.nil {K : PySem.W.Frag} {H : Hp} {a : Addr} : Grow K (upd H a (.lst [])) a [] := ⟨[], upd_same, .nil⟩
theorem Grow.dp {K : PySem.W.Frag} {H : Hp} {a : Addr} {ds : List D} (g : Grow K H a ds) : Dp K H (.ref a) (.list ds) := by
  obtain ⟨vs, e, r⟩ := g
  exact .lst (SqL.of e) (dpAll_same off_le r)
theorem Grow.keep {K : PySem.W.Frag} {H H' : Hp} {a : Addr} {ds : List D} (g : Grow K H a ds) (s : Same H H') : Grow K H' a ds := by
  obtain ⟨vs, e, r⟩ := g
  exact ⟨vs, s _ _ e, dpAll_same (off_mono fun c o _ q => s c o q) r⟩
theorem dpAll_snoc {K : PySem.W.Frag} {H : Hp} : ∀ {vs : List V} {ds : List D} {v : V} {d : D}, DpAll K H vs ds → Dp K H v d → DpAll K H (vs ++ [v]) (ds ++ [d])
  | _, _, _, _, .nil, h => .cons h .nil
  | _, _, _, _, .cons h r, q => .cons h (dpAll_snoc r q)
theorem dpAll_app {K : PySem.W.Frag} {H : Hp} : ∀ {vs ws : List V} {ds es : List D}, DpAll K H vs ds → DpAll K H ws es → DpAll K H (vs ++ ws) (ds ++ es)
  | _, _, _, _, .nil, h => h
  | _, _, _, _, .cons h r, q => .cons h (dpAll_app r q)
/-- a thing is put behind all: it doesn't hang on the list -/
theorem Grow.put {K : PySem.W.Frag} {H : Hp} {a : Addr} {ds : List D} {acc : List V} {v : V} {d : D} (g : Grow K H a ds) (e : H a = some (.lst acc)) (h : Dp K (off H a) v d) : Grow K (upd H a (.lst (acc ++ [v]))) a (ds ++ [d]) := by
  obtain ⟨vs, e', r⟩ := g
  rw [e] at e'
  cases e'
  refine ⟨_, upd_same, ?_⟩
  rw [off_upd]
  exact dpAll_snoc r h
theorem Grow.len {K : PySem.W.Frag} {H : Hp} {a : Addr} {ds : List D} {acc : List V} (g : Grow K H a ds) (e : H a = some (.lst acc)) : acc.length = ds.length := by
  obtain ⟨vs, e', r⟩ := g
  rw [e] at e'
  cases e'
  exact dpAll_len r
/-- what stood ahead of the list doesn't hang on it -/
theorem dp_off {K : PySem.W.Frag} {H0 H : Hp} {a : Addr} {v : V} {d : D} (h : Dp K H0 v d) (s : Same H0 H) (n : H0 a = none) : Dp K (off H a) v d :=
  dp_same (fun c o e => by
    rw [off_ne (ne_of_none e n)]
    exact s c o e) h
theorem same_new {H : Hp} {l : Addr} {o : HO} (h : H l = none) : Same H (upd H l o) := fun c u e => by
  rw [upd_ne (ne_of_none e h)]
  exact e
/-- H, but for a, is kept by a change of a alone -/
theorem same_of {H0 H : Hp} {a : Addr} {o : HO} (s : Same H0 H) (n : H0 a = none) : Same H0 (upd H a o) := fun c u e => by
  rw [upd_ne (ne_of_none e n)]
  exact s c u e
/-! ### all rows of choices -/
def stepRows (acc : List (List D)) (c : List D) : List (List D) := acc.flatMap fun r => c.map fun x => r ++ [x]
def rowsOf (css : List (List D)) : List (List D) := css.foldl stepRows [[]]
theorem flat_len {α β : Type} {f : α → List β} {m : Nat} (h : ∀ r, (f r).length ≤ m) : ∀ l : List α, (l.flatMap f).length ≤ m * l.length
  | [] => by simp
  | r :: l => by
    have h1 := flat_len h l
    have h2 := h r
    rw [List.flatMap_cons, List.length_append, List.length_cons, Nat.mul_add, Nat.mul_one]
    omega
theorem rows_len (css : List (List D)) : ∀ (acc : List (List D)) (n : Nat), (∀ r ∈ acc, r.length = n) → ∀ r ∈ css.foldl stepRows acc, r.length = n + css.length := by
  induction css with
  | nil => exact fun acc n h r hr => h r hr
  | cons c css ih =>
    intro acc n h r hr
    have q := ih (stepRows acc c) (n + 1) (fun r' hr' => by
      obtain ⟨r0, h0, hm⟩ := List.mem_flatMap.mp hr'
      obtain ⟨x, _, rfl⟩ := List.mem_map.mp hm
      rw [List.length_append, h r0 h0]
      rfl) r hr
    rw [q, List.length_cons]
    omega
theorem rows_many (css : List (List D)) (hc : ∀ c ∈ css, c.length ≤ 8) : ∀ acc : List (List D), (css.foldl stepRows acc).length ≤ 8 ^ css.length * acc.length := by
  induction css with
  | nil => exact fun acc => by simp
  | cons c css ih =>
    intro acc
    have h1 := ih (fun c' h' => hc c' (List.mem_cons_of_mem _ h')) (stepRows acc c)
    have h2 : (stepRows acc c).length ≤ 8 * acc.length := flat_len (fun r => by rw [List.length_map]; exact hc c (List.mem_cons_self ..)) acc
    have h3 : 8 ^ css.length * (stepRows acc c).length ≤ 8 ^ css.length * (8 * acc.length) := Nat.mul_le_mul_left _ h2
    rw [List.foldl_cons, List.length_cons, Nat.pow_succ, Nat.mul_assoc]
    exact Nat.le_trans h1 h3
theorem take_more {α : Type} : ∀ {l : List α} {i : Nat} {x : α}, l[i]? = some x → l.take (i + 1) = l.take i ++ [x]
  | [], i, x, h => by simp at h
  | a :: l, 0, x, h => by
    simp at h
    subst h
    rfl
  | a :: l, i + 1, x, h => by
    have ih := take_more (l := l) (i := i) (x := x) (by simpa using h)
    show a :: l.take (i + 1) = a :: l.take i ++ [x]
    rw [ih]
    rfl
abbrev rowD (r : List D) : D := .tuple r
section
variable {P : Program} {w : World} {K : PySem.W.Frag} {mg : Str → Option Value} {base : Heap}
theorem dp_list {K : PySem.W.Frag} {H : Hp} {v : V} {ds : List D} (h : Dp K H v (.list ds)) : ∃ a xs, v = .ref a ∧ SqL K H a xs ∧ DpAll K H xs ds := by
  cases h with
  | lst q r => exact ⟨_, _, rfl, q, r⟩
theorem dp_tup {K : PySem.W.Frag} {H : Hp} {v : V} {ds : List D} (h : Dp K H v (.tuple ds)) : ∃ a xs, v = .ref a ∧ SqT K H a xs ∧ DpAll K H xs ds := by
  cases h with
  | tup q r => exact ⟨_, _, rfl, q, r⟩
theorem dpAll_get {K : PySem.W.Frag} {H : Hp} : ∀ {vs : List V} {ds : List D} {i : Nat} {v : V}, DpAll K H vs ds → vs[i]? = some v → ∃ d, ds[i]? = some d ∧ Dp K H v d
  | _, _, _, _, .nil, e => by simp at e
  | _, _, 0, _, .cons h _, e => by
    simp at e
    subst e
    exact ⟨_, rfl, h⟩
  | _, _, i + 1, _, .cons _ r, e => by
    obtain ⟨d, h1, h2⟩ := dpAll_get (i := i) r (by simpa using e)
    exact ⟨d, by simpa using h1, h2⟩
end
end K74
/-! Walks over lists and tuples alike: zip of any two. -/
namespace SQ
open PySem PySem.Spec PyProof.Rows L2
/-- a list or a tuple -/
inductive Kd | L | T
def SqK (K : PySem.W.Frag) (H : Hp) : Kd → Addr → List V → Prop
  | .L => SqL K H
  | .T => SqT K H
def AtK (h : Heap) : Kd → Addr → Array Value → Prop
  | .L => h.IsList
  | .T => h.IsTuple
def ItK (h : Heap) : Kd → Addr → Addr → Nat → Prop
  | .L => h.IsListIter
  | .T => h.IsTupleIter
def itO : Kd → Addr → Obj
  | .L, a => { cls := .type "list_iterator", data := .fields #[.ref a, .int 0 0] }
  | .T, a => { cls := .type "tuple_iterator", data := .fields #[.ref a, .int 0 0] }
theorem draws {prog : Program} {w : World} {A : Around} (hh : A.handled = none) (it a : Addr) (hne : a ≠ it) (its : Array Value) : ∀ k : Kd, Draws prog w A it [it, a] its.size (fun i v => its[i]? = some v) (fun i h => ItK h k it a i ∧ AtK h k a its)
  | .L => Draws.list hh it a hne its
  | .T => Draws.tuple hh it a hne its
theorem begins (a : Addr) (its : Array Value) : ∀ k : Kd, Begins (.ref a) (itO k a) fun h => AtK h k a its
  | .L => begins_list a its
  | .T => begins_tuple a its
theorem it_obj {h : Heap} {it a : Addr} {i : Nat} : ∀ {k : Kd}, ItK h k it a i → ∃ o, h.get? it = some o ∧ ∀ v, o.data ≠ .cell v
  | .L, x => by
    obtain ⟨o, e, _, d⟩ := x
    exact ⟨o, e, fun v q => by rw [d] at q; cases q⟩
  | .T, x => by
    obtain ⟨o, e, _, d⟩ := x
    exact ⟨o, e, fun v q => by rw [d] at q; cases q⟩
theorem it_keep {h h' : Heap} {it a : Addr} {i : Nat} (kp : ∀ o, h.get? it = some o → h'.get? it = some o) : ∀ {k : Kd}, ItK h k it a i → ItK h' k it a i
  | .L, x => x.at kp
  | .T, x => x.at kp
theorem it_new {h : Heap} {it a : Addr} : ∀ {k : Kd}, h.get? it = some (itO k a) → ItK h k it a 0
  | .L, e => ⟨_, e, rfl, rfl⟩
  | .T, e => ⟨_, e, rfl, rfl⟩
section
variable {X : Cx} {pins : List (Addr × Obj)} {σ : L2.St} {H : Hp} {s : Shared}
theorem there (I : Inv X pins σ H s) {a : Addr} {xs : List V} : ∀ {k : Kd}, SqK X.K H k a xs → ∃ its : List Value, Vals xs its ∧ AtK s.heap k a its.toArray ∧ a < s.heap.objs.size
  | .L, q => by
    obtain ⟨its, r, p, _⟩ := I.list q
    exact ⟨its, r, p.isList, p.lt⟩
  | .T, q => by
    obtain ⟨its, r, p, _⟩ := I.tuple q
    obtain ⟨o, e, _⟩ := id p
    exact ⟨its, r, p, Heap.lt_size e⟩
theorem one (I : Inv X pins σ H s) {a : Addr} {xs ys : List V} : ∀ {k : Kd}, SqK X.K H k a xs → SqK X.K H k a ys → xs = ys
  | .L, q, q' => I.list_inj q q'
  | .T, q, q' => I.tuple_inj q q'
end
/-- the two as they stand at each turn, the items in new pairs -/
def Itz2 (K : PySem.W.Frag) (k k' : Kd) (a b : Addr) : It :=
  ⟨fun i H => ∃ (xs ys : List V) (x y : V), SqK K H k a xs ∧ SqK K H k' b ys ∧ xs[i]? = some x ∧ ys[i]? = some y,
    fun i H v H' => ∃ T x y, v = .ref T ∧ H T = none ∧ H' = upd H T (.tup [x, y]) ∧ (∀ xs, SqK K H k a xs → xs[i]? = some x) ∧ ∀ ys, SqK K H k' b ys → ys[i]? = some y,
    fun i H => ∃ xs ys : List V, SqK K H k a xs ∧ SqK K H k' b ys ∧ i = min xs.length ys.length⟩
theorem walk_zip2 {K : PySem.W.Frag} {k k' : Kd} {a b : Addr} {xs ys : List V} {n : Nat} (hn : n = min xs.length ys.length) : Walk (Itz2 K k k' a b) n (fun H => SqK K H k a xs ∧ SqK K H k' b ys) (YPair (fun i => xs[i]?) (fun i => ys[i]?)) := by
  subst hn
  refine ⟨fun i _ hi q => ?_, fun _ q => ⟨xs, ys, q.1, q.2, rfl⟩, fun i H v H' _ q y => ?_⟩
  · have h1 : i < xs.length := by omega
    have h2 : i < ys.length := by omega
    exact ⟨xs, ys, xs[i], ys[i], q.1, q.2, by simp [h1], by simp [h2]⟩
  · obtain ⟨T, x, z, h1, h2, h3, h4, h5⟩ := y
    exact ⟨T, x, z, h1, h2, h3, h4 xs q.1, h5 ys q.2⟩
theorem turn_zip2 {P : Program} {w : World} {K : PySem.W.Frag} {elts : List Expr} {kk : Nat} {tpos : Pos} {k k' : Kd} {a b z TI TO i1 i2 : Addr} (S : ZipSep2 z TI TO i1 i2 [i1, a] [i2, b]) (ne1 : a ≠ i1) (ne2 : b ≠ i2) :
    Turn P w K (.Tuple elts kk tpos) (Itz2 K k k' a b) [z, TI, TO, i1, i2] z (fun i h => IsZip h z TI TO .none ∧ IsTupOf2 h TI (.ref i1) (.ref i2) ∧ (∃ x y, IsTupOf2 h TO x y) ∧ ItK h k i1 a i ∧ ItK h k' i2 b i) where
  mem := by simp
  obj := fun i h st c hc => by
    obtain ⟨hz, hTI, ⟨x, y, hTO⟩, h1, h2⟩ := st
    have e' : c = z ∨ c = TI ∨ c = TO ∨ c = i1 ∨ c = i2 := by simpa using hc
    rcases e' with q | q | q | q | q
    · subst q
      exact ⟨_, hz, fun v q => nomatch q⟩
    · subst q
      exact ⟨_, hTI, fun v q => nomatch q⟩
    · subst q
      exact ⟨_, hTO, fun v q => nomatch q⟩
    · subst q
      exact it_obj h1
    · subst q
      exact it_obj h2
  keep := fun i h h' st kp => by
    obtain ⟨hz, hTI, ⟨x, y, hTO⟩, h1, h2⟩ := st
    exact ⟨kp z (by simp) _ hz, kp TI (by simp) _ hTI, ⟨x, y, kp TO (by simp) _ hTO⟩, it_keep (kp i1 (by simp)) h1, it_keep (kp i2 (by simp)) h2⟩
  item := by
    intro X hP hw hK hc i pins s σ H E I hf st hg
    subst hP hw hK
    obtain ⟨hz, hTI, hTO, h1, h2⟩ := st
    obtain ⟨xs, ys, x, y, qx, qy, hx, hy⟩ := hg
    obtain ⟨its, rv, p, _⟩ := there I qx
    obtain ⟨its2, rv2, p2, _⟩ := there I qy
    obtain ⟨u, hu, ru⟩ := rv.get hx
    obtain ⟨u2, hu2, ru2⟩ := rv2.get hy
    have hh : X.A.in1.handled = none := I.ok.hd hc
    have G := GoesN.zip2 (prog := X.prog) (w := X.w) (A := X.A) (elts := elts) (x1 := kk) (pos := tpos) S (draws hh i1 a ne1 its.toArray k) (draws hh i2 b ne2 its2.toArray k')
    have sm : ∀ c ∈ [z, TI, TO, i1, i2], c < s.heap.objs.size := fun c hc' => by
      have e' : c = z ∨ c = TI ∨ c = TO ∨ c = i1 ∨ c = i2 := by simpa using hc'
      rcases e' with q | q | q | q | q
      · subst q
        exact Heap.lt_size hz
      · subst q
        exact Heap.lt_size hTI
      · subst q
        obtain ⟨_, _, e⟩ := hTO
        exact Heap.lt_size e
      · subst q
        obtain ⟨_, e, _⟩ := it_obj h1
        exact Heap.lt_size e
      · subst q
        obtain ⟨_, e, _⟩ := it_obj h2
        exact Heap.lt_size e
    have l1 : i < its.length := (List.getElem?_eq_some_iff.mp hu).1
    have l2 : i < its2.length := (List.getElem?_eq_some_iff.mp hu2).1
    refine G.goes i s (fun u s2 => ∃ x H', Inv X pins σ H' s2 ∧ RelV x u ∧ (Itz2 X.K k k' a b).yld i H x H' ∧ (IsZip s2.heap z TI TO .none ∧ IsTupOf2 s2.heap TI (.ref i1) (.ref i2) ∧ (∃ x y, IsTupOf2 s2.heap TO x y) ∧ ItK s2.heap k i1 a (i + 1) ∧ ItK s2.heap k' i2 b (i + 1)) ∧ ∀ b ∈ [z, TI, TO, i1, i2], H' b = none) E
      (by simp; omega) ⟨hz, hTI, hTO, ⟨h1, p⟩, h2, p2⟩ fun v h' tk hY st' keep _ => ?_
    obtain ⟨T, x', y', rfl, hT, ex, ey, hnew⟩ := hY
    have ex' : its[i]? = some x' := by simpa using ex
    have ey' : its2[i]? = some y' := by simpa using ey
    rw [hu] at ex'
    rw [hu2] at ey'
    cases ex'
    cases ey'
    have new : ObjOk X.prog X.w (upd H T (.tup [x, y])) h' T (.tup [x, y]) := ⟨by show 2 ≤ sizeLine; decide, [u, u2], .cons ru (.cons ru2 .nil), hnew⟩
    have I1 : Inv X pins σ (upd H T (.tup [x, y])) { s with heap := h', toks := tk } := I.turnedNew (t' := tk) (ch := [z, TO, i1, i2]) keep (fun c hc' => hf c (by simp at hc' ⊢; rcases hc' with q | q | q | q <;> simp [q])) hT new
    obtain ⟨g1, g2, g3, g4, g5⟩ := st'
    refine ⟨.ref T, _, I1, rfl, ⟨T, x, y, rfl, I.hok.fresh hT, rfl, fun l hl => by rw [one I hl qx]; exact hx, fun l hl => by rw [one I hl qy]; exact hy⟩, ⟨g1, g2, g3, g4.1, g5.1⟩, fun c hc' => ?_⟩
    rw [upd_ne (Nat.ne_of_lt (Nat.lt_of_lt_of_le (sm c hc') hT))]
    exact (hf c hc').1
  done := by
    intro X hP hw hK hc i pins s σ H E I hf st hg
    subst hP hw hK
    obtain ⟨hz, hTI, hTO, h1, h2⟩ := st
    obtain ⟨xs, ys, qx, qy, hn⟩ := hg
    obtain ⟨its, rv, p, _⟩ := there I qx
    obtain ⟨its2, rv2, p2, _⟩ := there I qy
    have hh : X.A.in1.handled = none := I.ok.hd hc
    have G := GoesN.zip2 (prog := X.prog) (w := X.w) (A := X.A) (elts := elts) (x1 := kk) (pos := tpos) S (draws hh i1 a ne1 its.toArray k) (draws hh i2 b ne2 its2.toArray k')
    have en : i = min its.toArray.size its2.toArray.size := by
      rw [hn, rv.length, rv2.length]
      simp
    subst en
    exact G.stops s (fun s1 => Inv X pins σ H s1) E ⟨hz, hTI, hTO, ⟨h1, p⟩, h2, p2⟩ fun h' tk keep _ =>
      I.turnedL (t' := tk) (ch := [z, TO, i1, i2]) keep (fun c hc' => hf c (by simp at hc' ⊢; rcases hc' with q | q | q | q <;> simp [q]))
  self := fun A i s Q E st h => wpAny_pyIter_zip st.1 h
def iZip2 (K : PySem.W.Frag) (ta : TA) : TI := fun σ H R => ta σ H fun vs H1 => ∃ a b xs ys k k', vs = [.ref a, .ref b] ∧ SqK K H1 k a xs ∧ SqK K H1 k' b ys ∧ R (Itz2 K k k' a b) H1
theorem pi_zip2 {X : Cx} {e e2 : Expr} {ta : TA} {p pos tpos : Pos} {elts : List Expr} {kk : Nat} (hg : Gl X "zip") (hm : X.mg "zip" = none) (ha : PA X [e, e2] ta)
    (hs : starEach [e, e2] X.env = (false, eval e X.env) :: starEach [e2] X.env := by rfl) (hpl : (backTo pos (starEach [e2] X.env)).any (·.1) = false := by rfl) :
    PI X (.Tuple elts kk tpos) (.Call (.Name "zip" p) [e, e2] [] pos) (iZip2 X.K ta) := by
  refine ⟨fun pins s σ H R I h => Call_ (ld_blt I hg hm PyProof.Rows.boot_zip (PyProof.Rows.callWith_type1 (thn (ha.run pos pins s σ H _ I h) fun us s1 ⟨vs, H1, I1, r1, q1⟩ => ?_) hs hpl))⟩
  obtain ⟨a, b, xs, ys, k, k', ex, qx, qy, q⟩ := q1
  subst ex
  cases r1 with
  | cons r rr =>
    cases rr with
    | cons r' rr =>
      cases rr
      cases r
      cases r'
      obtain ⟨its, rv, p1, la⟩ := there I1 qx
      obtain ⟨its2, rv2, p2, lb⟩ := there I1 qy
      refine zip_begins2 (begins a its.toArray k) (begins b its2.toArray k') p1 p2 fun h' hz hTI hTO h1 h2 hsz hk => wpAny_pyIter_zip hz ?_
      have I2 : Inv X pins σ H1 { s1 with heap := h' } := I1.kept (t' := s1.toks) hk
      have S : ZipSep2 (s1.heap.objs.size + 4) (s1.heap.objs.size + 2) (s1.heap.objs.size + 3) s1.heap.objs.size (s1.heap.objs.size + 1) [s1.heap.objs.size, a] [s1.heap.objs.size + 1, b] :=
        zip_sep2 (N := s1.heap.objs.size) (fp1 := [a]) (fp2 := [b]) (fun c hc => by rw [List.mem_singleton.mp hc]; exact la) (fun c hc => by rw [List.mem_singleton.mp hc]; exact lb)
      refine ⟨s1.heap.objs.size + 4, [s1.heap.objs.size + 4, s1.heap.objs.size + 2, s1.heap.objs.size + 3, s1.heap.objs.size, s1.heap.objs.size + 1], _, _, H1, rfl, I2, turn_zip2 S (Nat.ne_of_lt la) (Nat.ne_of_lt (Nat.lt_succ_of_lt lb)), ⟨hz, hTI, ⟨_, _, hTO⟩, it_new h1, it_new h2⟩, fun c hcm => ?_, q⟩
      have hle : s1.heap.objs.size ≤ c := by
        have e' : c = s1.heap.objs.size + 4 ∨ c = s1.heap.objs.size + 2 ∨ c = s1.heap.objs.size + 3 ∨ c = s1.heap.objs.size ∨ c = s1.heap.objs.size + 1 := by simpa using hcm
        rcases e' with q | q | q | q | q
        · rw [q]; exact Nat.le_add_right _ _
        · rw [q]; exact Nat.le_add_right _ _
        · rw [q]; exact Nat.le_add_right _ _
        · rw [q]; exact Nat.le_refl _
        · rw [q]; exact Nat.le_add_right _ _
      exact I1.fpOk hle (I1.hok.fresh hle)
end SQ
/-! enumerate of a list or a tuple; a for over either. -/
namespace SQ
open PySem PySem.Spec PyProof.Rows L2
theorem meets_enum1 {v : Value} {o : Obj} {G : Heap → Prop} (B : Begins v o G) :
    Meets (Builtin.«enumerate.__new__» ⟨[.type "enumerate", v], []⟩) (fun _ R s => G s.heap ∧
      R (.ok (.ret (.ref (s.heap.push o).objs.size))) { s with heap := (s.heap.push o).push { cls := .type "enumerate", data := .fields #[.none, .bool false, .ref s.heap.objs.size, rawInt 0, .none, .none] } }) :=
  .of_wp fun prog w A R s h => by
    obtain ⟨hp, g, d, tk, os⟩ := s
    obtain ⟨h1, h⟩ := h
    have hsub := sub_enumerate
    have q1 : ∀ {A' : Around} {E : Value → Shared → Prop} {Q : Value → Shared → Prop}, Q (.ref hp.objs.size) ⟨hp.push o, g, d, tk, os⟩ → wpAny (model prog w) A' (pyIter v) Q E ⟨hp, g, d, tk, os⟩ := fun q => B.iter prog w _ _ ⟨hp, g, d, tk, os⟩ _ h1 q
    wp_walk using q1
    refine wpAny_stack_any fun st => wpAny_pure ?_
    split
    · rename_i c _ _ _ _ _
      cases (c == Value.type "enumerate")
      all_goals
        wp_walk using q1
        exact ⟨_, rfl, h⟩
    · wp_walk using q1
      exact ⟨_, rfl, h⟩
theorem enum1 {prog : Program} {w : World} {A : Around} {E : Value → Shared → Prop} {s : Shared} {v : Value} {o : Obj} {G : Heap → Prop} {Q : Value → Shared → Prop} (B : Begins v o G) (h1 : G s.heap)
    (h : ∀ h', IsEnum h' (s.heap.objs.size + 1) s.heap.objs.size 0 .none → h'.get? s.heap.objs.size = some o → h'.objs.size = s.heap.objs.size + 2 → (∀ b o, s.heap.get? b = some o → h'.get? b = some o) → Q (.ref (s.heap.objs.size + 1)) { s with heap := h' }) :
    wpAny (model prog w) A (call (.type "enumerate") [v]) Q E s := by
  refine callType_new F.called_enumerate (by decide) (F.typeCall_enumerate_1 _) (F.newCall_enumerate_1 _) (fun obj => F.args_object_init_2 obj _) F.entry_enumerate_new (meets_enum1 B) ⟨h1, ?_⟩
  have hz : (s.heap.push o).objs.size = s.heap.objs.size + 1 := Heap.size_push ..
  show _ ∧ _
  rw [hz]
  have he : IsEnum ((s.heap.push o).push { cls := .type "enumerate", data := .fields #[.none, .bool false, .ref s.heap.objs.size, rawInt 0, .none, .none] }) (s.heap.objs.size + 1) s.heap.objs.size 0 .none := by
    have q := Heap.get?_push_size (s.heap.push o) (o := { cls := .type "enumerate", data := .fields #[.none, .bool false, .ref s.heap.objs.size, rawInt 0, .none, .none] }) rfl
    rw [hz] at q
    exact q
  refine ⟨⟨_, he, rfl⟩, h _ he (Heap.get?_push_of_some _ (Heap.get?_push_size _ B.free)) (by rw [Heap.size_push, hz]) fun b o' q => Heap.get?_push_of_some _ (Heap.get?_push_of_some _ q)⟩
/-- the number and the thing at each turn, in a new pair -/
def Ite2 (K : PySem.W.Frag) (k : Kd) (a : Addr) : It :=
  ⟨fun i H => ∃ (xs : List V) (x : V), SqK K H k a xs ∧ xs[i]? = some x,
    fun i H v H' => ∃ T x, v = .ref T ∧ H T = none ∧ H' = upd H T (.tup [.int (i : Nat), x]) ∧ ∀ xs, SqK K H k a xs → xs[i]? = some x,
    fun i H => ∃ xs : List V, SqK K H k a xs ∧ i = xs.length⟩
theorem walk_enum2 {K : PySem.W.Frag} {k : Kd} {a : Addr} {xs : List V} {n : Nat} (hn : n = xs.length) : Walk (Ite2 K k a) n (fun H => SqK K H k a xs) (YPair (fun i => some (.int (i : Nat))) (fun i => xs[i]?)) := by
  subst hn
  refine ⟨fun i _ hi q => ⟨xs, xs[i], q, by simp [hi]⟩, fun _ q => ⟨xs, q, rfl⟩, fun i H v H' _ q y => ?_⟩
  obtain ⟨T, x, h1, h2, h3, h4⟩ := y
  exact ⟨T, _, x, h1, h2, h3, rfl, h4 xs q⟩
theorem turn_enum2 {P : Program} {w : World} {K : PySem.W.Frag} {elts : List Expr} {kk : Nat} {tpos : Pos} {k : Kd} {a e it : Addr} (ne : a ≠ it) (ne1 : e ≠ it) (ne2 : e ≠ a) :
    Turn P w K (.Tuple elts kk tpos) (Ite2 K k a) [e, it] e (fun i h => (∃ old, IsEnum h e it i old) ∧ ItK h k it a i) where
  mem := by simp
  obj := fun i h st c hc => by
    obtain ⟨⟨old, he⟩, h1⟩ := st
    have e' : c = e ∨ c = it := by simpa using hc
    rcases e' with q | q
    · subst q
      exact ⟨_, he, fun v q => nomatch q⟩
    · subst q
      exact it_obj h1
  keep := fun i h h' st kp => by
    obtain ⟨⟨old, he⟩, h1⟩ := st
    exact ⟨⟨old, kp e (by simp) _ he⟩, it_keep (kp it (by simp)) h1⟩
  item := by
    intro X hP hw hK hc i pins s σ H E I hf st hg
    subst hP hw hK
    obtain ⟨⟨old, he⟩, h1⟩ := st
    obtain ⟨xs, x, qx, hx⟩ := hg
    obtain ⟨its, rv, p, _⟩ := there I qx
    obtain ⟨u, hu, ru⟩ := rv.get hx
    have hh : X.A.in1.handled = none := I.ok.hd hc
    have G := GoesN.enumFrom (prog := X.prog) (w := X.w) (A := X.A) (elts := elts) (x1 := kk) (pos := tpos) 0 (draws hh it a ne its.toArray k) e ne1 (by simp [ne1, ne2]) (by simp)
    have sm : ∀ c ∈ [e, it], c < s.heap.objs.size := fun c hc' => by
      have e' : c = e ∨ c = it := by simpa using hc'
      rcases e' with q | q
      · subst q
        exact Heap.lt_size he
      · subst q
        obtain ⟨_, e, _⟩ := it_obj h1
        exact Heap.lt_size e
    have l1 : i < its.length := (List.getElem?_eq_some_iff.mp hu).1
    refine G.goes i s (fun u s2 => ∃ x H', Inv X pins σ H' s2 ∧ RelV x u ∧ (Ite2 X.K k a).yld i H x H' ∧ ((∃ old, IsEnum s2.heap e it ((i + 1 : Nat) : Int) old) ∧ ItK s2.heap k it a (i + 1)) ∧ ∀ b ∈ [e, it], H' b = none) E
      (by simpa using l1) ⟨⟨old, by rw [Int.zero_add]; exact he⟩, h1, p⟩ fun v h' tk hY st' keep _ => ?_
    obtain ⟨T, t, x', rfl, hT, ex, hnew⟩ := hY
    have ex' : its[i]? = some x' := by simpa using ex
    rw [hu] at ex'
    cases ex'
    have new : ObjOk X.prog X.w (upd H T (.tup [.int (i : Nat), x])) h' T (.tup [.int (i : Nat), x]) := ⟨by show 2 ≤ sizeLine; decide, [.int (0 + (i : Int)) t, u], .cons (show L2.RelV (.int (i : Nat)) (.int (0 + (i : Int)) t) from ⟨t, by rw [Int.zero_add]⟩) (.cons ru .nil), hnew⟩
    have I1 : Inv X pins σ (upd H T (.tup [.int (i : Nat), x])) { s with heap := h', toks := tk } := I.turnedNew (t' := tk) (ch := [e, it]) keep (fun c hc' => hf c hc') hT new
    obtain ⟨⟨old', g1⟩, g2⟩ := st'
    rw [Int.zero_add] at g1
    refine ⟨.ref T, _, I1, rfl, ⟨T, x, rfl, I.hok.fresh hT, rfl, fun l hl => by rw [one I hl qx]; exact hx⟩, ⟨⟨old', g1⟩, g2.1⟩, fun c hc' => ?_⟩
    rw [upd_ne (Nat.ne_of_lt (Nat.lt_of_lt_of_le (sm c hc') hT))]
    exact (hf c hc').1
  done := by
    intro X hP hw hK hc i pins s σ H E I hf st hg
    subst hP hw hK
    obtain ⟨⟨old, he⟩, h1⟩ := st
    obtain ⟨xs, qx, hn⟩ := hg
    obtain ⟨its, rv, p, _⟩ := there I qx
    have hh : X.A.in1.handled = none := I.ok.hd hc
    have G := GoesN.enumFrom (prog := X.prog) (w := X.w) (A := X.A) (elts := elts) (x1 := kk) (pos := tpos) 0 (draws hh it a ne its.toArray k) e ne1 (by simp [ne1, ne2]) (by simp)
    have en : i = its.toArray.size := by
      rw [hn, rv.length]
      simp
    subst en
    exact G.stops s (fun s1 => Inv X pins σ H s1) E ⟨⟨old, by rw [Int.zero_add]; exact he⟩, h1, p⟩ fun h' tk keep _ =>
      I.turnedL (t' := tk) (ch := [e, it]) keep (fun c hc' => hf c hc')
  self := fun A i s Q E st h => by
    obtain ⟨⟨old, he⟩, _⟩ := st
    exact wpAny_pyIter_enum he h
def iEnum2 (K : PySem.W.Frag) (ta : TA) : TI := fun σ H R => ta σ H fun vs H1 => ∃ a xs k, vs = [.ref a] ∧ SqK K H1 k a xs ∧ R (Ite2 K k a) H1
theorem pi_enum2 {X : Cx} {e : Expr} {ta : TA} {p pos tpos : Pos} {elts : List Expr} {kk : Nat} (hg : Gl X "enumerate") (hm : X.mg "enumerate" = none) (ha : PA X [e] ta) (hs : starEach [e] X.env = [(false, eval e X.env)] := by rfl) :
    PI X (.Tuple elts kk tpos) (.Call (.Name "enumerate" p) [e] [] pos) (iEnum2 X.K ta) := by
  refine ⟨fun pins s σ H R I h => Call_ (ld_blt I hg hm PyProof.Rows.boot_enumerate (PyProof.Rows.callWith_type1 (thn (ha.run pos pins s σ H _ I h) fun us s1 ⟨vs, H1, I1, r1, q1⟩ => ?_) hs rfl))⟩
  obtain ⟨a, xs, k, ex, qx, q⟩ := q1
  subst ex
  cases r1 with
  | cons r rr =>
    cases rr
    cases r
    obtain ⟨its, rv, p1, la⟩ := there I1 qx
    refine enum1 (begins a its.toArray k) p1 fun h' he h1 hsz hk => wpAny_pyIter_enum he ?_
    have I2 : Inv X pins σ H1 { s1 with heap := h' } := I1.kept (t' := s1.toks) hk
    refine ⟨s1.heap.objs.size + 1, [s1.heap.objs.size + 1, s1.heap.objs.size], _, _, H1, rfl, I2, turn_enum2 (e := s1.heap.objs.size + 1) (it := s1.heap.objs.size) (Nat.ne_of_lt la) (Nat.succ_ne_self _) (Nat.ne_of_gt (Nat.lt_succ_of_lt la)), ⟨⟨_, he⟩, it_new h1⟩, fun c hcm => ?_, q⟩
    have hle : s1.heap.objs.size ≤ c := by
      have e' : c = s1.heap.objs.size + 1 ∨ c = s1.heap.objs.size := by simpa using hcm
      rcases e' with q | q
      · rw [q]; exact Nat.le_add_right _ _
      · rw [q]; exact Nat.le_refl _
    exact I1.fpOk hle (I1.hok.fresh hle)
end SQ
/-! one of two readings; a walk over either kind; count; tuples without a dict. -/
namespace SQ
open PySem PySem.Spec PyProof.Rows L2
def tOr (t u : TE) : TE := fun σ H Q => t σ H Q ∨ u σ H Q
def iOr (t u : TI) : TI := fun σ H R => t σ H R ∨ u σ H R
section
variable {X : Cx}
theorem pe_or2 {e : Expr} {t u : TE} (h1 : PE X e t) (h2 : PE X e u) : PE X e (tOr t u) :=
  ⟨fun pins s σ H Q I h => h.elim (h1.run pins s σ H Q I) (h2.run pins s σ H Q I)⟩
theorem pi_or2 {tg e : Expr} {t u : TI} (h1 : PI X tg e t) (h2 : PI X tg e u) : PI X tg e (iOr t u) :=
  ⟨fun pins s σ H Q I h => h.elim (h1.run pins s σ H Q I) (h2.run pins s σ H Q I)⟩
def It2 (K : PySem.W.Frag) : Kd → Addr → It
  | .L => Itl K
  | .T => Itt K
def iSq (K : PySem.W.Frag) (tl : TE) : TI := iOr (iList K tl) (iTup K tl)
theorem pi_sq {tg l : Expr} {tl : TE} (h : PE X l tl) : PI X tg l (iSq X.K tl) := pi_or2 (pi_list h) (pi_tup h)
theorem walk_sq {K : PySem.W.Frag} {a : Addr} {xs : List V} {n : Nat} : ∀ {k : Kd}, n = xs.length → Walk (It2 K k a) n (fun H => SqK K H k a xs) (YAt xs)
  | .L, e => e ▸ walk_list
  | .T, e => e ▸ walk_tup
/-- the value is there at once -/
theorem iSq_var {K : PySem.W.Frag} {i : Nat} {σ : L2.St} {H : Hp} {R : It → Hp → Prop} {a : Addr} {xs : List V} : ∀ {k : Kd}, σ[i]? = some (some (.ref a)) → SqK K H k a xs → R (It2 K k a) H → iSq K (tVar i) σ H R
  | .L, e, q, r => .inl ⟨_, e, a, rfl, ⟨xs, q⟩, r⟩
  | .T, e, q, r => .inr ⟨_, e, a, rfl, ⟨xs, q⟩, r⟩
/-- a tuple without a dict of its own -/
def Nd (K : PySem.W.Frag) (H : Hp) (x : V) : Prop := ∃ a, x = .ref a ∧ ((∃ o u, H a = some (.frz o (.tup u)) ∧ o.dict = none) ∨ ∃ o, K.lookup a = some o ∧ o.cls = .type "tuple" ∧ o.dict = none)
theorem Nd.same {K : PySem.W.Frag} {H H' : Hp} {x : V} (s : Same H H') (h : Nd K H x) : Nd K H' x := by
  obtain ⟨a, e, h⟩ := h
  refine ⟨a, e, ?_⟩
  rcases h with ⟨o, u, h, d⟩ | h
  · exact .inl ⟨o, u, s _ _ h, d⟩
  · exact .inr h
theorem nd_is {pins : List (Addr × Obj)} {σ : L2.St} {H : Hp} {s : Shared} {x : V} {v : Value} (I : Inv X pins σ H s) (r : L2.RelV x v) (h : Nd X.K H x) : s.TypeIs v "tuple" ∧ ∀ a, v = .ref a → ∃ ob, s.heap.get? a = some ob ∧ ob.dict = none := by
  obtain ⟨a, rfl, h⟩ := h
  rcases h with ⟨o, u, h, d⟩ | ⟨o, h, c, d⟩
  · obtain rfl : v = .ref a := r
    obtain ⟨e, _, its, _, o', e', hc, _⟩ := I.hok a _ h
    rw [e] at e'
    cases e'
    refine ⟨⟨o, e, hc⟩, fun b hb => ?_⟩
    cases hb
    exact ⟨o, e, d⟩
  · exact tyV_is I r (T := "tuple") (x := .ref a) (.inr (.inl ⟨rfl, o, h, c, d⟩))
def tBMT (K : PySem.W.Frag) (r : V → List V → Hp → VK → Prop) (to : TE) (t : TA) : TE := fun σ H Q => to σ H fun x H1 => Nd K H1 x ∧ t σ H1 fun xs H2 => r x xs H2 Q
variable {o e : Expr} {es : List Expr} {to : TE} {t : TA} {name : Str} {apos cpos : Pos} {id : String} {r : V → List V → Hp → VK → Prop}
theorem pe_bmT (slot : Slot "tuple" name id) (hty : typeOf (.builtin id) = pure (.type "method_descriptor")) (hm : MtR X id r) (ho : PE X o to) (ha : PA X (e :: es) t)
    (hbase : attributeBase o name X.env (eval o X.env) = eval o X.env := by rfl)
    (hfew : ((backTo cpos (starEach (e :: es) X.env)).all (fun x => !x.1) && (backToKw cpos (keywordEach [] X.env)).all (fun x => x.1.isSome)
      && decide ((e :: es).length + ([] : List Keyword).length + (if ([] : List Keyword).isEmpty then 0 else 1) < 30)) = true := by rfl)
    (hline : (apos.endLine == cpos.line) = true := by rfl) (hs : starEach (e :: es) X.env = (false, eval e X.env) :: starEach es X.env := by rfl) (hplain : (backTo cpos (starEach es X.env)).any (·.1) = false := by rfl) :
    PE X (.Call (.Attribute o name apos) (e :: es) [] cpos) (tBMT X.K r to t) := by
  refine ⟨fun pins s σ H Q I h => ?_⟩
  refine wpAny_Call_method_late hbase hfew hline rfl (thn (ho.run pins s σ H _ I h) fun v s1 ⟨x, H1, I1, r1, ty, q1⟩ => ?_)
  obtain ⟨h1, h2⟩ := nd_is I1 r1 ty
  refine ⟨"tuple", id, PySem.F.plainAttrs_tuple, slot, hty, h1, h2, ?_⟩
  have hA := ha.run cpos pins s1 σ H1 _ I1 q1
  rw [hs] at hA ⊢
  refine Calls.callWith_builtin (by show (false || (backTo cpos (starEach es X.env)).any (·.1)) = false; rw [hplain] <;> rfl) (Calls.evalArgs_plain ?_)
  exact thn hA fun us s2 ⟨vs, H2, I2, r2, q2⟩ => hm pins s2 σ H2 x vs v us Q I2 r1 r2 q2
/-- xs.count(y), data of any depth -/
def rCntD (K : PySem.W.Frag) (mk : List PyData → PyData) : V → List V → Hp → VK → Prop := fun x xs H Q => ∃ (y : V) (d : PyData) (ds : List PyData), xs = [y] ∧ Dp K H x (mk ds) ∧ Dp K H y d ∧
  PyData.canLayAll0 ds = true ∧ SeqAt.shaped d = true ∧ Q (.int ((ds.countP fun z => PyData.eqv z d : Nat) : Int)) H
theorem shaped_room {A : Around} {ds : List PyData} {d : PyData} (sd : SeqAt.shaped d = true) (hu : A.units + 65 < cLine) : A.units + 1 + min (PyData.depthAll ds) d.depth < cLine := room_in_shaped sd hu
theorem mt_lcountD (hu : X.A.units + 65 < cLine) : MtR X "list.count" (rCntD X.K .list) := by
  intro pins s σ H x xs v us Q I rx rxs h
  obtain ⟨y, d, ds, rfl, hl, hy, sl, sd, q⟩ := h
  cases rxs with
  | cons ry rt =>
    rename_i uy ut
    cases rt
    obtain ⟨bs, r1⟩ := Dp.reads I d y uy hy ry
    have hroom : X.A.units + 1 + min (PyData.depthAll ds) d.depth < cLine := shaped_room sd hu
    cases hl with
    | lst hs ha =>
      rename_i a xs
      obtain rfl : v = .ref a := rx
      obtain ⟨its, rv, ⟨⟨cls, dd, data, sls⟩, n, ho, hc, hdn, hdt⟩, hlen⟩ := I.list hs
      simp only at hc hdt
      subst hc hdt
      obtain ⟨as, h4⟩ := Dp.readsAll I ds _ its ha rv
      have hmap : its.map (SeqAt.readOf s.heap) = ds := SeqAt.readsAll_map ds its as sl h4
      refine call_meets PySem.F.slot_list_count ⟨_, ho, rfl⟩ PySem.F.entry_list_count (PySem.F.args_list_count_2 _ _)
        (SeqAt.list_countAt a its.toArray n dd sls uy (fun u => PyData.eqv (SeqAt.readOf s.heap u) d)) ⟨ho, SeqAt.items_eqAt (vs := its.toArray) (show ReadsAll s.heap its.toArray.toList ds as from h4) r1 sl (SeqAt.canLay_of_shaped sd) hroom, ?_⟩
      have ec : its.toArray.toList.countP (fun u => PyData.eqv (SeqAt.readOf s.heap u) d) = ds.countP fun z => PyData.eqv z d := by
        rw [← hmap, List.countP_map]
        rfl
      rw [ec]
      exact ⟨.int _, H, I.tok _, ⟨s.toks, rfl⟩, q⟩
theorem mt_tcountD (hu : X.A.units + 65 < cLine) : MtR X "tuple.count" (rCntD X.K .tuple) := by
  intro pins s σ H x xs v us Q I rx rxs h
  obtain ⟨y, d, ds, rfl, hl, hy, sl, sd, q⟩ := h
  cases rxs with
  | cons ry rt =>
    rename_i uy ut
    cases rt
    obtain ⟨bs, r1⟩ := Dp.reads I d y uy hy ry
    have hroom : X.A.units + 1 + min (PyData.depthAll ds) d.depth < cLine := shaped_room sd hu
    cases hl with
    | tup hs ha =>
      rename_i a xs
      obtain rfl : v = .ref a := rx
      obtain ⟨its, rv, ⟨⟨cls, dd, data, sls⟩, ho, hc, n, hdt⟩, hlen⟩ := I.tuple hs
      simp only at hc hdt
      subst hc hdt
      obtain ⟨as, h4⟩ := Dp.readsAll I ds _ its ha rv
      have hmap : its.map (SeqAt.readOf s.heap) = ds := SeqAt.readsAll_map ds its as sl h4
      refine call_meets PySem.F.slot_tuple_count ⟨_, ho, rfl⟩ PySem.F.entry_tuple_count (PySem.F.args_tuple_count_2 _ _)
        (SeqAt.tuple_countAt a its.toArray n dd sls uy (fun u => PyData.eqv (SeqAt.readOf s.heap u) d)) ⟨ho, SeqAt.items_eqAt (vs := its.toArray) (show ReadsAll s.heap its.toArray.toList ds as from h4) r1 sl (SeqAt.canLay_of_shaped sd) hroom, ?_⟩
      have ec : its.toArray.toList.countP (fun u => PyData.eqv (SeqAt.readOf s.heap u) d) = ds.countP fun z => PyData.eqv z d := by
        rw [← hmap, List.countP_map]
        rfl
      rw [ec]
      exact ⟨.int _, H, I.tok _, ⟨s.toks, rfl⟩, q⟩
/-- tuple(x) of a list: a new tuple without a dict -/
def kTupF (K : PySem.W.Frag) (x : V) (H : Hp) (Q : VK) : Prop := ∃ p xs, x = .ref p ∧ SqL K H p xs ∧ ∀ q o, H q = none → o.dict = none → Q (.ref q) (upd H q (.frz o (.tup xs)))
theorem rl_tupleF (pins : List (Addr × Obj)) (s : Shared) (σ : L2.St) (H : Hp) (x : V) (v : Value) (Q : VK) (I : Inv X pins σ H s) (r : L2.RelV x v) (h : kTupF X.K x H Q) :
    wpAny (model X.prog X.w) X.A (call (.type "tuple") [v]) (EP X pins σ Q) X.xe s := by
  obtain ⟨p, xs, rfl, hs, q⟩ := h
  obtain rfl : v = .ref p := r
  obtain ⟨its, rv, pl, hz⟩ := I.list hs
  refine call_tuple_list pl.isList (fun h' hk => ?_) (by rw [List.size_toArray, ← rv.length]; exact hz)
  have I1 : Inv X pins σ H { s with heap := h' } := I.kept (t' := s.toks) hk
  have I2 : Inv X pins σ (upd H h'.objs.size (.frz { cls := .type "tuple", data := .seq its.toArray } (.tup xs))) { s with heap := h'.push { cls := .type "tuple", data := .seq its.toArray } } :=
    I1.laid (t' := s.toks) (fun b o e => Heap.get?_push_of_some _ e) (Nat.le_refl _) (show ObjOk X.prog X.w _ _ _ (.frz _ (.tup xs)) from ⟨Heap.get?_push_size _ rfl, hz, its, rv, IsTup.new _ _⟩)
  exact ⟨.ref h'.objs.size, _, I2, rfl, q _ _ (I1.hok.fresh (Nat.le_refl _)) rfl⟩
theorem pe_tupleF {a : Expr} {ta : TE} {p pos : Pos} (hg : Gl X "tuple") (hm : X.mg "tuple" = none) (ha : PE X a ta) (na : starEach [a] X.env = (false, eval a X.env) :: starEach [] X.env := by rfl) :
    PE X (.Call (.Name "tuple" p) [a] [] pos) (tThen ta (kTupF X.K)) := by
  refine ⟨fun pins s σ H Q I h => ?_⟩
  exact Call_ (ld_blt I hg hm boot_tuple (PyProof.Rows.callWith_type1 (one_arg ha I h (fun v s2 x H2 I2 r q => rl_tupleF pins s2 σ H2 x v Q I2 r q) na) na))
end
end SQ
/-! How many unlike ones a tuple of ints has; what None and an int are written as. -/
namespace SQ
open PySem PySem.Spec PyProof.Rows L2
theorem one_iff {ns : List Int} {ks : List Int} (nd : ks.Nodup) (he : ∀ k, k ∈ ns ↔ k ∈ ks) (ne : ns ≠ []) : ks.length = 1 ↔ ∀ y ∈ ns, y = ns.headD 0 := by
  cases ns with
  | nil => exact absurd rfl ne
  | cons a r =>
    constructor
    · intro h y hy
      match ks, h with
      | [k], _ =>
        have h1 := (he y).mp hy
        have h2 := (he a).mp (List.mem_cons_self ..)
        rw [List.mem_singleton] at h1 h2
        rw [h1]
        exact h2.symm
    · intro h
      match ks, nd, he with
      | [], _, he => exact absurd ((he a).mp (List.mem_cons_self ..)) (by simp)
      | [k], _, _ => rfl
      | k :: k2 :: t, nd, he =>
        have e1 := h k ((he k).mpr (List.mem_cons_self ..))
        have e2 := h k2 ((he k2).mpr (List.mem_cons_of_mem _ (List.mem_cons_self ..)))
        rw [List.nodup_cons] at nd
        exact absurd (by rw [e1, e2]; exact List.mem_cons_self ..) nd.1
def tLenSetT (K : PySem.W.Frag) (ta : TE) : TE := fun σ H Q => ta σ H fun x H1 => ∃ (l : Addr) (ns : List Int), x = .ref l ∧ SqT K H1 l (ns.map V.int) ∧ ns.length ≤ 4000 ∧ ∀ m : Nat, (ns ≠ [] → (m = 1 ↔ ∀ y ∈ ns, y = ns.headD 0)) → Q (.int (m : Nat)) H1
theorem pe_lenSetT {X : Cx} {a : Expr} {ta : TE} {p p2 q pos : Pos} (hg : Gl X "len") (hm : X.mg "len" = none) (hg2 : Gl X "set") (hm2 : X.mg "set" = none) (ha : PE X a ta) (hc : X.calm = true := by rfl)
    (na : starEach [a] X.env = (false, eval a X.env) :: starEach [] X.env := by rfl) : PE X (.Call (.Name "len" p) [.Call (.Name "set" p2) [a] [] q] [] pos) (tLenSetT X.K ta) := by
  refine ⟨fun pins s σ H Q I h => Call_ (ld_blt I hg hm boot_len (PyProof.Rows.callWith_builtin1 (PyProof.Rows.args_cons ?_ rfl) rfl rfl))⟩
  refine Call_ (ld_blt I hg2 hm2 boot_set (PyProof.Rows.callWith_type1 (PyProof.Rows.args_cons (thn (ha.run pins s σ H _ I h) ?_) na) na rfl))
  rintro v s1 ⟨x, H1, I1, r1, l, ns, rfl, hq, few, k⟩
  refine PyProof.Rows.args_nil ?_
  obtain rfl : v = Value.ref l := r1
  obtain ⟨its, r, pl, hz⟩ := I1.tuple hq
  refine call_set_tupI ns (I1.ok.hd hc) pl (by simpa using ints_of_vals r) (by unfold scanBound; omega) ?_
  intro h' tk c R hc' hk
  refine PyProof.Rows.args_nil ?_
  obtain ⟨o, es, ep, t, ho, hex, hd, _, nd, mem, _, hf, hn, _⟩ := R
  have I2 : Inv X pins σ H1 { s1 with heap := h', toks := tk } := I1.kept hk
  refine call_len_set ho hex hd hf (by omega) ⟨.int es.size, H1, I2.tok _, ⟨_, rfl⟩, k es.size fun ne => ?_⟩
  have := one_iff (ns := ns) (ks := es.toList.map keyOf) nd (fun k => by
    rw [← mem k]
    simp) ne
  rw [List.length_map, Array.length_toList] at this
  exact this
/-- what None, an int are written as -/
def reprV : V → Option Str
  | .non => some "None"
  | .int i => some (toString i)
  | _ => none
def rRepr : List V → Hp → VK → Prop := fun vs H Q => (vs = [.non] ∧ Q (.str "None") H) ∨ ∃ i : Int, vs = [.int i] ∧ i.natAbs.log2 < 1920 ∧ Q (.str (toString i)) H
theorem cr_repr {X : Cx} : CallR X (.builtin "repr") rRepr := by
  intro pins s σ H vs us Q I r h
  rcases h with ⟨rfl, q⟩ | h
  · obtain ⟨u, rfl, ru⟩ := vals1 r
    obtain rfl : u = Value.none := ru
    exact PySem.P.repr_of_none ⟨.str _, H, I.tok _, ⟨_, rfl⟩, q⟩
  · obtain ⟨i, rfl, hz, q⟩ := h
    obtain ⟨u, rfl, t, rfl⟩ := vals1 r
    exact PySem.P.repr_of_int hz ⟨.str _, H, I.tok _, ⟨_, rfl⟩, q⟩
end SQ
/-! A comprehension whose tests and thing may use what its def knows when the block is entered. -/
namespace SQ
open PySem PySem.Spec PyProof.Rows L2
/-- the reading: the turns are told for each state in which the block may be entered -/
def tAt (X : Cx) (wi : TI) (g : TG) (tt : Shared → Hp → TT) (te : Shared → Hp → TE) (own : List Nat) : TE := fun σ H Q => wi σ H fun J Hi => ∀ D, Hi D = none → ∀ (sb : Shared) (pb : List (Addr × Obj)), Inv X pb σ (upd Hi D (.lst [])) sb →
  ∃ W : Nat → Nat → Hp → Prop, (∃ m, W 0 m (upd Hi D (.lst []))) ∧ ∀ i m Hc, W i m Hc → (J.stop i Hc ∧ Q (.ref D) Hc) ∨ (J.go i Hc ∧ ∃ Nx : Hp → Prop, (∀ H', Nx H' → ∃ m', m' < m ∧ W (i + 1) m' H') ∧
    ∀ x H', J.yld i Hc x H' → g x (wipe σ own) H' fun σ2 H2 => wipe σ2 own = wipe σ own ∧ tt sb (upd Hi D (.lst [])) σ2 H2 fun b H3 =>
      if b = true then te sb (upd Hi D (.lst [])) σ2 H3 fun y H4 => ∃ acc, H4 D = some (.lst acc) ∧ acc.length < sizeLine ∧ Nx (upd H4 D (.lst (acc ++ [y]))) else Nx H3)
section
variable {X : Cx}
/-- the block's own cells are free from the def's: all is there for the closure -/
theorem free_there {scope : Scope} {own : List (Str × Nat)} {pins : List (Addr × Obj)} {σ : L2.St} {H : Hp} {s : Shared} (I : Inv X pins σ H s) (ok : BlkOk X.N X.env.scope scope own) : ∀ y ∈ scope.names, y.2 = .free → ∃ c, X.env.cells.lookup y.1 = some c := by
  intro y hy e
  exact I.ok.has _ ((ok.free y hy e).imp id id)
theorem fp_still {Y : Cx} {fp : List Addr} {σ : L2.St} {H : Hp} {s : Shared} (I : Inv Y [] σ H s) (hx : Y.ex = fp) (hp : Y.pn = []) (hn : ∀ b ∈ fp, H b = none) : ∀ b ∈ fp, FpOk Y [] H b := by
  intro b hb
  have hb' : b ∈ Y.ex := by rw [hx]; exact hb
  refine ⟨hn b hb, (I.ok.exf b hb').1, I.ok.exfs b hb', .inl hb', fun x c e => (I.ok.exf b hb').2 x c e, fun p q => ?_⟩
  rw [hp] at q
  cases q
theorem pe_lcAt {elt tg iter : Expr} {ifs : List Expr} {scope : Scope} {own : List (Str × Nat)} {pos : Pos} {wi : TI} {g : TG} {tt : Shared → Hp → TT} {te : Shared → Hp → TE} (hc : X.calm = true) (hN : X.N.Nodup) (hi : PI X tg iter wi) (ok : BlkOk X.N X.env.scope scope own)
    (hb : ∀ (s : Shared) (H : Hp) (pins : List (Addr × Obj)) (σ : L2.St) (C : Addr) (cl : List (Str × Addr)) (fp : List Addr), Inv X pins σ H s → (∀ b ∈ fp, FpOk X pins H b) →
      PG (X.blk s H scope (compEnvC scope cl C X.env) fp) tg g ∧ PTs (X.blk s H scope (compEnvC scope cl C X.env) fp) ifs (tt s H) ∧ PE (X.blk s H scope (compEnvC scope cl C X.env) fp) elt (te s H))
    (hs : ∀ x, foldedSetIterable iter X.env x = pure x := by intro _; rfl) :
    PE X (.ListComp elt [⟨tg, iter, ifs, 0⟩] scope pos) (tAt X wi g tt te (own.map (·.2))) := by
  refine ⟨fun pins s σ H Q I h => ?_⟩
  rw [eval_ListComp]
  have fr := free_there I ok
  refine wpAny_comprehension_free (use := none) rfl hs (closure_ok fr) ok.kind (fun y hy e => by rw [ok.uniq y hy, e]) (thn (hi.run pins s σ H _ I h) fun _ _ hx => thn hx fun _ sI hI => ?_)
  obtain ⟨it, fp, tn, J, Hi, rfl, II, T, stI, fI, q⟩ := hI
  refine wpAny_newObj_type (newEnv_comp ?_) (by show 0 ≤ sizeLine; decide)
  have nD : Hi sI.heap.objs.size = none := II.hok.fresh (Nat.le_refl _)
  have IL : Inv X pins σ (upd Hi sI.heap.objs.size (.lst [])) { sI with heap := sI.heap.push { cls := .type "list", data := .seq ([] : List Value).toArray } } :=
    II.laid (t' := sI.toks) (fun _ _ e => Heap.get?_push_of_some _ e) (Nat.le_refl _) ⟨Nat.zero_le _, [], 0, .nil, Heap.get?_push_size _ rfl⟩
  obtain ⟨W, ⟨m0, w0⟩, turn⟩ := q _ nD _ _ IL
  have fL : ∀ b ∈ fp, FpOk X pins (upd Hi sI.heap.objs.size (.lst [])) b ∧ b < (sI.heap.push { cls := .type "list", data := .seq ([] : List Value).toArray }).objs.size := by
    intro b hbm
    obtain ⟨o, e, _⟩ := T.obj _ _ stI b hbm
    have lt := Heap.lt_size e
    exact ⟨⟨by rw [upd_ne (Nat.ne_of_lt lt)]; exact (fI b hbm).1, (fI b hbm).2⟩, by rw [Heap.size_push]; exact Nat.lt_succ_of_lt lt⟩
  have stL : tn 0 (sI.heap.push { cls := .type "list", data := .seq ([] : List Value).toArray }) := T.keep _ _ _ stI fun _ _ _ e => Heap.get?_push_of_some _ e
  generalize sI.heap.objs.size = D at *
  generalize hsb : ({ sI with heap := sI.heap.push { cls := .type "list", data := .seq ([] : List Value).toArray } } : Shared) = sb at *
  have eb : sb.heap = sI.heap.push { cls := .type "list", data := .seq ([] : List Value).toArray } := by rw [← hsb]
  rw [← eb] at fL stL
  generalize upd Hi D (.lst []) = Hb at *
  have IB := block_start IL ok hN fL
  obtain ⟨pg, pt, pe⟩ := hb sb Hb pins σ sb.heap.objs.size (cellsFrom (sb.heap.objs.size + 1) scope.names (cloFrom X.env.cells scope.names [])) fp IL fun b hbm => (fL b hbm).1
  have stB : tn 0 (pushCells (sb.heap.push { cls := .type "dict", data := .dict #[] }) scope.names) := T.keep _ _ _ stL fun _ _ _ e => pushCells_keeps _ _ _ _ (Heap.get?_push_of_some _ e)
  have nfp : ∀ b ∈ fp, Hb b = none := fun b hbm => (fL b hbm).1.1
  generalize hce : compEnvC scope (cellsFrom (sb.heap.objs.size + 1) scope.names (cloFrom X.env.cells scope.names [])) sb.heap.objs.size X.env = ce at IB pg pt pe
  have ceq : ce.locals = sb.heap.objs.size := by rw [← hce]; rfl
  show codeAny _ _ (.compStart (.ListComp elt [⟨tg, iter, ifs, 0⟩] scope pos) 0 (.ref it) (.ref D) (compEnvC scope (cellsFrom (sb.heap.objs.size + 1) scope.names (cloFrom X.env.cells scope.names [])) sb.heap.objs.size X.env)) (compPost (model X.prog X.w) X.A X.xe none (EP X pins σ Q) (.ref D) sb.heap.objs.size) { sb with heap := pushCells (sb.heap.push { cls := .type "dict", data := .dict #[] }) scope.names }
  rw [hce]
  suffices loop : codeAny (model X.prog X.w) X.A (.compLoop (.ListComp elt [⟨tg, iter, ifs, 0⟩] scope pos) 0 (.ref it) (.ref D) ce) (compPost (model X.prog X.w) X.A X.xe none (EP X pins σ Q) (.ref D) sb.heap.objs.size) { sb with heap := pushCells (sb.heap.push { cls := .type "dict", data := .dict #[] }) scope.names } from
    codeAny_compStart_list loop (T.self X.A 0 _ _ _ stB loop)
  refine compLoop_any (fun n s' => ∃ i H', tn i s'.heap ∧ W i n H' ∧ Inv (X.blk sb Hb scope ce fp) [] (wipe σ (own.map (·.2))) H' s' ∧ ∀ b ∈ fp, H' b = none) ?_ m0 ⟨0, Hb, stB, w0, IB, nfp⟩
  rintro n sT ⟨i, HT, stT, wT, IT, nT⟩
  have okT := fp_still IT rfl rfl nT
  rcases turn i n HT wT with ⟨stop, fin⟩ | ⟨go, Nx, less, step⟩
  · -- no turn is left: back in the def
    refine thnF (T.done (X.blk sb Hb scope ce fp) rfl rfl rfl hc i [] sT _ HT (fun _ _ => False) IT okT stT stop) ?_
    rintro _ sE ⟨rfl, IE⟩
    have back : Inv X pins σ HT sE := IL.call' (ch := fp) IE.os IE.base IE.hok IE.bare fun b hbm => by
      obtain ⟨_, l1, _, l3, l4, l5⟩ := (fL b hbm).1
      exact ⟨l3, l1, l4, l5⟩
    have nC : HT sb.heap.objs.size = none := by
      have z : HT ce.locals = none := IE.free
      rw [ceq] at z
      exact z
    obtain ⟨m, nsE, _⟩ := IE.loc
    have nsE : sE.heap.Ns ce.locals m := nsE
    rw [ceq] at nsE
    refine ⟨m, nsE, fun hZ same => ?_⟩
    obtain ⟨c0, c1, _, c3, c4, c5⟩ := IL.fpOk (H' := HT) (Nat.le_refl _) nC
    exact ⟨.ref D, HT, back.turned (t' := sE.toks) (fun b o nb e => (same.2 b nb).trans e) c0 c1 c3 c4 c5, rfl, fin⟩
  · -- one turn
    refine thnF (T.item (X.blk sb Hb scope ce fp) rfl rfl rfl hc i [] sT _ HT (fun _ _ => False) IT okT stT go) ?_
    rintro _ s1 ⟨u, rfl, h1⟩
    refine thnF h1 ?_
    rintro _ s2 ⟨x, H2, I2, r2, y2, st2, n2⟩
    have P2 := I2.pinned (fp_still I2 rfl rfl n2) (T.obj _ _ st2)
    refine thnF (pg.run _ s2 _ H2 x u _ P2 r2 (step x H2 y2)) ?_
    rintro _ s3 ⟨σ3, H3, I3, same, q3⟩
    have ends : ∀ {s' : Shared} {H' : Hp}, Nx H' → Inv (X.blk sb Hb scope ce fp) ([] ++ pinsAt fp s2.heap) σ3 H' s' → ∃ m, m < n ∧ ∃ i H', tn i s'.heap ∧ W i m H' ∧ Inv (X.blk sb Hb scope ce fp) [] (wipe σ (own.map (·.2))) H' s' ∧ ∀ b ∈ fp, H' b = none := by
      intro s' H' nx I'
      obtain ⟨m, lt, w'⟩ := less H' nx
      have held : ∀ b ∈ fp, ∀ o, s2.heap.get? b = some o → s'.heap.get? b = some o ∧ H' b = none := by
        intro b hbm o e
        obtain ⟨z1, z2, _⟩ := I'.pin (b, o) (List.mem_append_right _ (List.mem_append_right _ (mem_pinsAt hbm e)))
        exact ⟨z1, z2⟩
      refine ⟨m, lt, i + 1, H', T.keep _ _ _ st2 fun b hbm o e => (held b hbm o e).1, w', (I'.unpinned (pins := [])).weak ?_ fun j v e => ?_, fun b hbm => ?_⟩
      · rw [← same, wipe_length]
      · rw [← same] at e
        exact (wipe_some e).1
      · obtain ⟨o, e, _⟩ := T.obj _ _ st2 b hbm
        exact (held b hbm o e).2
    refine thnF (pt.run _ s3 σ3 H3 _ I3 q3) ?_
    rintro b s4 ⟨H4, I4, q4⟩
    cases b
    · exact ends (by simpa using q4) I4
    · refine thnF (pe.run _ s4 σ3 H4 _ I4 (by simpa using q4)) ?_
      rintro z s5 ⟨yv, H5, I5, r5, acc, eD, few, nx⟩
      exact app_ok (X := X.blk sb Hb scope ce fp) I5 eD few r5 fun s6 I6 => ends nx I6
end
end SQ
/-! A lambda as a value that is kept; its call by a def to which it is handed, from a block. -/
namespace SQ
open PySem PySem.Spec PyProof.Rows L2 LamX
/-- at f stands that lambda, its code object at c -/
def LamO (f c : Addr) (q : Str) (params : Arguments) (body : Expr) (scope : Scope) (clo : List (Str × Addr)) : HO := .ext fun h => ∃ pm ctv : Value, h.get? f = some (PySem.W.kla_obj "<lambda>" q params body scope clo pm c ctv)
theorem lamO_ok {P : Program} {w : World} {H : Hp} {h : Heap} {f c : Addr} {q : Str} {params : Arguments} {body : Expr} {scope : Scope} {clo : List (Str × Addr)} {pm ctv : Value} (e : h.get? f = some (PySem.W.kla_obj "<lambda>" q params body scope clo pm c ctv)) :
    ObjOk P w H h f (LamO f c q params body scope clo) :=
  ⟨⟨pm, ctv, e⟩, ⟨_, e⟩, fun h1 h2 ⟨pm', ctv', e'⟩ k => ⟨pm', ctv', k _ e'⟩⟩
/-- all but those -/
def forg (fs : List Addr) (H : Hp) : Hp := fun b => if b ∈ fs then none else H b
theorem forg_le {fs : List Addr} {H : Hp} : ∀ b o, forg fs H b = some o → H b = some o := fun b o e => by
  unfold forg at e
  by_cases h : b ∈ fs
  · rw [if_pos h] at e
    cases e
  · rw [if_neg h] at e
    exact e
theorem forg_of {fs : List Addr} {H : Hp} {b : Addr} {o : HO} (e : H b = some o) (n : b ∉ fs) : forg fs H b = some o := by
  unfold forg
  rw [if_neg n]
  exact e
theorem forg_not {fs : List Addr} {H : Hp} {b : Addr} {o : HO} (e : forg fs H b = some o) : b ∉ fs := fun h => by
  unfold forg at e
  rw [if_pos h] at e
  cases e
def tLamV (X : Cx) (T : List (Addr × Str)) (params : Arguments) (body : Expr) (scope : Scope) : TE := fun _ H Q => ∃ fs : List Addr, Tabs T (forg fs H) ∧ (∀ x ∈ fs, H x ≠ none) ∧ ∀ (f c : Addr) (H1 : Hp), ExtN H H1 → Tabs T (forg (f :: fs) H1) → H f = none → c ∉ f :: fs → H1 f = some (LamO f c (X.env.qual ++ "<lambda>") params body scope (cloFrom X.env.cells scope.names [])) →
  H1 c = some (CodeO c (X.env.qual ++ "<lambda>")) → Q (.ref f) H1
section
variable {X : Cx}
theorem pe_lamV {T : List (Addr × Str)} {c P : Addr} {params : Arguments} {body : Expr} {scope : Scope} {pos : Pos} (TB : TabB X.base X.mg c P) (hcode : X.env.code = .ref c) (hm : (P, X.env.qual ++ "<lambda>") ∈ T) (hu : ∀ p ∈ T, p.1 = P → p.2 = X.env.qual ++ "<lambda>")
    (hdef : defaultsOf params X.env = ([], [])) (L : LamS X.env.scope scope) : PE X (.Lambda params body scope pos) (tLamV X T params body scope) := by
  refine ⟨fun pins s σ H Q I h => ?_⟩
  obtain ⟨fs, hT, hfs, k⟩ := h
  obtain ⟨ps, eP', tri, named⟩ := hT _ hm
  have eP := forg_le _ _ eP'
  have nPfs := forg_not eP'
  have atP : s.heap.get? P = some { cls := .none, data := .fields ps } := I.hok P _ eP
  have free := L.has I.ok
  refine PySem.W.kla_eval hdef ?_
  cases hc : codeAmong pos ps.toList with
  | some cv =>
    obtain ⟨c', rfl, hco⟩ := named pos cv hc
    refine PySem.W.kla_makeFunctionHit (mg := X.mg) (c := c) (P := P) (ps := ps) (closure_ok free) I.ok.glob (I.mod.glob.keeps I.bk) hcode (TB.code.keeps I.bk) atP tri hc (TB.bm.keeps I.bk) fun ctv h' tk kept hsz => ?_
    have I1 : Inv X pins σ H { s with heap := h', toks := tk } := I.kept kept
    have hnew := I1.hok.fresh (Nat.le_refl h'.objs.size)
    have I2 := I1.laid (t' := tk) (a := h'.objs.size) (fun _ _ e => Heap.get?_push_of_some _ e) (Nat.le_refl _) (lamO_ok (P := X.prog) (w := X.w) (Heap.get?_push_size h' (o := PySem.W.kla_obj "<lambda>" (X.env.qual ++ "<lambda>") params body scope (cloFrom X.env.cells scope.names []) ((X.mg "__name__").getD .none) c' ctv) rfl))
    have keep : ∀ b o, H b = some o → upd H h'.objs.size (LamO h'.objs.size c' (X.env.qual ++ "<lambda>") params body scope (cloFrom X.env.cells scope.names [])) b = some o := fun b o e => by
      rw [upd_ne (ne_of_none e hnew)]
      exact e
    have nfs : ∀ b o, forg fs H b = some o → b ∉ h'.objs.size :: fs := fun b o e h => by
      rcases List.mem_cons.mp h with z | z
      · have := forg_le _ _ e
        rw [z, hnew] at this
        cases this
      · exact forg_not e z
    have keepF : ∀ b o, forg fs H b = some o → forg (h'.objs.size :: fs) (upd H h'.objs.size (LamO h'.objs.size c' (X.env.qual ++ "<lambda>") params body scope (cloFrom X.env.cells scope.names []))) b = some o := fun b o e => forg_of (keep b o (forg_le _ _ e)) (nfs b o e)
    exact ⟨.ref h'.objs.size, _, I2, rfl, k _ c' _ (ExtN.of keep) (hT.ext keepF) hnew (nfs _ _ hco) upd_same (keep _ _ (forg_le _ _ hco))⟩
  | none =>
    refine PySem.W.kla_makeFunction (mg := X.mg) (c := c) (P := P) (ps := ps) (closure_ok free) I.ok.glob (I.mod.glob.keeps I.bk) hcode (TB.code.keeps I.bk) atP tri hc TB.gP (TB.bm.keeps I.bk) fun c' ctv h' tk kept old lt rec_ tab => ?_
    obtain ⟨c2, oc, us, t, ec, atC, dat, nam⟩ := rec_
    cases ec
    have nC : H c' = none := I.hok.fresh old
    have I1 := inv_table (t' := tk) (more := #[rawInt pos.line, rawInt pos.col, .ref c']) I eP kept tab old ⟨oc, us, t, atC, dat, nam⟩
    have hnew := I1.hok.fresh (Nat.le_refl h'.objs.size)
    have I2 := I1.laid (t' := tk) (a := h'.objs.size) (fun _ _ e => Heap.get?_push_of_some _ e) (Nat.le_refl _) (lamO_ok (P := X.prog) (w := X.w) (Heap.get?_push_size h' (o := PySem.W.kla_obj "<lambda>" (X.env.qual ++ "<lambda>") params body scope (cloFrom X.env.cells scope.names []) ((X.mg "__name__").getD .none) c' ctv) rfl))
    have eT : upd (upd H P (.tbl (ps ++ #[rawInt pos.line, rawInt pos.col, .ref c']))) c' (CodeO c' (X.env.qual ++ "<lambda>")) P = some (.tbl (ps ++ #[rawInt pos.line, rawInt pos.col, .ref c'])) := by rw [upd_ne (ne_of_none eP nC), upd_same]
    have keepN : ExtN H (upd (upd H P (.tbl (ps ++ #[rawInt pos.line, rawInt pos.col, .ref c']))) c' (CodeO c' (X.env.qual ++ "<lambda>"))) := fun b o e n => by
      rw [upd_ne (ne_of_none e nC), upd_ne (fun z => n ps (by rw [z, eP] at e; exact (Option.some.inj e).symm))]
      exact e
    have keep2 : ∀ b o, upd (upd H P (.tbl (ps ++ #[rawInt pos.line, rawInt pos.col, .ref c']))) c' (CodeO c' (X.env.qual ++ "<lambda>")) b = some o →
        upd (upd (upd H P (.tbl (ps ++ #[rawInt pos.line, rawInt pos.col, .ref c']))) c' (CodeO c' (X.env.qual ++ "<lambda>"))) h'.objs.size (LamO h'.objs.size c' (X.env.qual ++ "<lambda>") params body scope (cloFrom X.env.cells scope.names [])) b = some o := fun b o e => by
      rw [upd_ne (ne_of_none e hnew)]
      exact e
    have hnH : H h'.objs.size = none := I.hok.fresh (Nat.le_trans old (Nat.le_of_lt lt))
    have ncf : c' ≠ h'.objs.size := ne_of_none (o := CodeO c' (X.env.qual ++ "<lambda>")) upd_same hnew
    have nfs : ∀ b o, forg fs H b = some o → b ∉ h'.objs.size :: fs := fun b o e h => by
      rcases List.mem_cons.mp h with z | z
      · have := forg_le _ _ e
        rw [z, hnH] at this
        cases this
      · exact forg_not e z
    have nCfs : c' ∉ h'.objs.size :: fs := fun h => by
      rcases List.mem_cons.mp h with z | z
      · exact ncf z
      · exact hfs _ z nC
    have old2 : ∀ b o, forg fs H b = some o → (∀ ps, o ≠ .tbl ps) → forg (h'.objs.size :: fs) (upd (upd (upd H P (.tbl (ps ++ #[rawInt pos.line, rawInt pos.col, .ref c']))) c' (CodeO c' (X.env.qual ++ "<lambda>"))) h'.objs.size (LamO h'.objs.size c' (X.env.qual ++ "<lambda>") params body scope (cloFrom X.env.cells scope.names []))) b = some o :=
      fun b o e n => forg_of (keep2 _ _ (keepN b o (forg_le _ _ e) n)) (nfs b o e)
    have tabs : Tabs T (forg (h'.objs.size :: fs) (upd (upd (upd H P (.tbl (ps ++ #[rawInt pos.line, rawInt pos.col, .ref c']))) c' (CodeO c' (X.env.qual ++ "<lambda>"))) h'.objs.size (LamO h'.objs.size c' (X.env.qual ++ "<lambda>") params body scope (cloFrom X.env.cells scope.names [])))) := by
      intro p hp
      by_cases e : p.1 = P
      · rw [hu p hp e, e]
        refine ⟨_, forg_of (keep2 _ _ eT) (nfs _ _ eP'), by rw [Array.toList_append]; exact PySem.TriplesOk_snoc _ _ _ _ tri, fun p' cv hcv => ?_⟩
        rw [Array.toList_append] at hcv
        rcases among_app _ tri hcv with z | z
        · obtain ⟨c0, e1, e2⟩ := named p' cv z
          exact ⟨c0, e1, old2 _ _ e2 codeO_ne⟩
        · exact ⟨c', z, forg_of (keep2 _ _ upd_same) nCfs⟩
      · obtain ⟨ps', a1, a2, a3⟩ := hT p hp
        have a1' := forg_le _ _ a1
        refine ⟨ps', forg_of (keep2 _ _ (by rw [upd_ne (ne_of_none a1' nC), upd_ne e]; exact a1')) (nfs _ _ a1), a2, fun p' cv hcv => ?_⟩
        obtain ⟨c0, e1, e2⟩ := a3 p' cv hcv
        exact ⟨c0, e1, old2 _ _ e2 codeO_ne⟩
    exact ⟨.ref h'.objs.size, _, I2, rfl, k _ c' _ (keepN.trans (ExtN.of keep2)) tabs hnH nCfs upd_same (keep2 _ _ upd_same)⟩
end
end SQ
/-! A kept lambda is handed to a def, from a block. -/
namespace SQ
open PySem PySem.Spec PyProof.Rows L2 LamX
def offA (H : Hp) (a : Addr) : Hp := fun b => if b = a then none else H b
theorem offA_at {H : Hp} {a : Addr} : offA H a a = none := if_pos rfl
theorem offA_of {H : Hp} {a b : Addr} (n : b ≠ a) : offA H a b = H b := if_neg n
theorem offA_none {H : Hp} {a b : Addr} (n : H b = none) : offA H a b = none := by
  by_cases e : b = a
  · rw [e]
    exact offA_at
  · rw [offA_of e]
    exact n
/-- what is only remembered may be forgotten -/
theorem forget {X : Cx} {pins : List (Addr × Obj)} {σ : L2.St} {H : Hp} {s : Shared} {f : Addr} {φ : Heap → Prop} (I : Inv X pins σ H s) (e : H f = some (.ext φ)) : Inv X pins σ (offA H f) s := by
  have ne : ∀ b u, H b = some u → (∀ φ, u ≠ .ext φ) → b ≠ f := fun b u h n z => by
    rw [z, e] at h
    exact n _ (Option.some.inj h).symm
  have stay : ∀ b u, H b = some u → (∀ φ, u ≠ .ext φ) → offA H f b = some u := fun b u h n => by
    rw [offA_of (ne b u h n)]
    exact h
  refine ⟨I.ok, I.os, I.bare, ⟨I.base.keep, I.base.slot, fun b o h n x => offA_none (I.base.free b o h n x), I.base.there, fun b xs h => stay b _ (I.base.tups b xs h) (fun _ z => nomatch z), fun b o u h => stay b _ (I.base.frzs b o u h) (fun _ z => nomatch z), fun b ps h => ?_⟩,
    I.loc, I.cell, offA_none I.free, fun x c h => offA_none (I.freeC x c h), fun p hp => ?_, fun b o h => ?_, I.len⟩
  · obtain ⟨more, z⟩ := I.base.tbls b ps h
    exact ⟨more, stay b _ z (fun _ q => nomatch q)⟩
  · obtain ⟨h1, h2, h3⟩ := I.pin p hp
    exact ⟨h1, offA_none h2, h3⟩
  · have nb : b ≠ f := fun z => by
      rw [z, offA_at] at h
      cases h
    rw [offA_of nb] at h
    exact (I.hok b o h).stay (fun _ _ _ q => q) (fun c q => stay c _ q (fun _ z => nomatch z)) fun c xs q => stay c _ q (fun _ z => nomatch z)
/-- the kept lambda's body may be read in the maker's frame -/
structure Body (X : Cx) (k : Nat) (params : Arguments) (body : Expr) (scope : Scope) (t : XK → TE) : Prop where
  L : LamS X.env.scope scope
  bind : ∀ (q : Str) (cl : List (Str × Addr)) (pm cv ctv : Value), bindArgs (PySem.W.kla_fn "<lambda>" q params body scope cl pm cv ctv) ⟨[], []⟩ = pure []
  read : ∀ (A : Around) (outer : List Env) (s : Shared) (H : Hp) (E : XK) (f c' : Addr), Room k (A.deeper (lamEnv X scope s.heap.objs.size f c')) → PE (lamCx X A outer s H E scope f c') body (t E)
/-- x(y), y one of X's kept lambdas; TT: what x makes of its reading -/
def tKept (X : Cx) (k : Nat) (TT : (XK → Hp → VK → Prop) → Hp → VK → Prop) (i : Nat) (sb : Shared) (Hb : Hp) : TE := fun σb H Q => ∃ (σ : L2.St) (f c : Addr) (params : Arguments) (body : Expr) (scope : Scope) (t : XK → TE), Inv X [] σ Hb sb ∧ Body X k params body scope t ∧ σb[i]? = some (some (.ref f)) ∧
  H f = some (LamO f c (X.env.qual ++ "<lambda>") params body scope (cloFrom X.env.cells scope.names [])) ∧ H c = some (CodeO c (X.env.qual ++ "<lambda>")) ∧ c ≠ f ∧ TT (fun E H' Q' => t E σ H' Q') (offA H f) Q
section
variable {X : Cx}
theorem pe_kept {TT : (XK → Hp → VK → Prop) → Hp → VK → Prop} {x a y : Str} {g : Addr} {k i : Nat} {pg : Arguments} {bg : List Stmt} {sg : Scope} {dV kV doc pm cdv ct oc : Value} {an od : Option Addr} {osl : Array (Option Value)} {Ng : List Str} {sb : Shared} {Hb : Hp} {scope : Scope} {ce : Env} {fp : List Addr}
    {pins : List (Addr × Obj)} {p p1 pos : Pos} (hfp : ∀ b ∈ fp, FpOk X pins Hb b) (hg : Gl (X.blk sb Hb scope ce fp) x) (hm : X.mg x = some (.ref g)) (hk : PySem.W.keepIn X.K (.ref g) = true)
    (lk : X.K.lookup g = some ⟨oc, od, .func (PySem.W.fnOf x x pg bg sg dV kV doc pm an cdv ct), osl⟩) (hcg : PySem.W.codeIn X.K cdv x = true) (hbd : L2.Binds X.K (PySem.W.fnOf x x pg bg sg dV kV doc pm an cdv ct) [a] []) (Sg : FnScope Ng [a] sg) (hNg : Ng[0]? = some a) (hva : Vis sg a)
    (hG : GivesTo X Ng x sg g cdv bg a (X.env.qual ++ "<lambda>") TT) (hr : Room (k + 2) X.A) (hy : PE (X.blk sb Hb scope ce fp) (.Name y p1) (tVar i)) (hna : starEach [.Name y p1] (X.blk sb Hb scope ce fp).env = (false, eval (.Name y p1) (X.blk sb Hb scope ce fp).env) :: starEach [] (X.blk sb Hb scope ce fp).env := by rfl)
    (hdb : (x == ("__debug__" : Str)) = false := by decide) (hd : (a == ("__debug__" : Str)) = false := by decide) (hcd : (a == ("__classdict__" : Str)) = false := by decide) :
    PE (X.blk sb Hb scope ce fp) (.Call (.Name x p) [.Name y p1] [] pos) (tKept X k TT i sb Hb) := by
  refine ⟨fun pb s σb H Q I h => ?_⟩
  obtain ⟨σ, f, c, params, body, sl, t, I0, B, hi, hf, hc, ncf, ht⟩ := h
  refine wpAny_Call_Name_kw (ld_glob I hg hm ?_ hdb)
  refine PySem.W.callWith_K (h₀ := X.base) I.ok.mod.kin hk ?_ hna (by rfl)
  rw [hna]
  refine Calls.spliced_cons (thn (hy.run pb _ σb H (fun v H1 => v = .ref f ∧ H1 = H) I ⟨.ref f, hi, rfl, rfl⟩) ?_)
  rintro u s1 ⟨v, H1, I1, r1, rfl, rfl⟩
  obtain rfl : u = Value.ref f := r1
  refine Calls.spliced_nil ⟨I1.kIn, ?_⟩
  have J1 := forget I1 hf
  have IX : Inv X [] σ H1 s1 := I0.call' (ch := fp) I1.os I1.base I1.hok I1.bare fun b hbm => by
    obtain ⟨_, l1, _, l3, l4, l5⟩ := hfp b hbm
    exact ⟨l3, l1, l4, fun q hq => l5 q (by
      rw [List.append_nil] at hq
      exact List.mem_append_left _ hq)⟩
  have IF := forget IX hf
  obtain ⟨⟨pm', ctv, atf⟩, _, _⟩ := I1.hok f _ hf
  have nfr : f ∉ frs X.stack := fun z => by
    have := IX.stkFree f z
    rw [hf] at this
    cases this
  have hc' : offA H1 f c = some (CodeO c (X.env.qual ++ "<lambda>")) := by rw [offA_of ncf]; exact hc
  have rc : codeAny (model X.prog X.w) X.A (.call (.ref g) ⟨[.ref f], []⟩) (CR C8.CX0 X.stack X.prog X.w (offA H1 f) s1 Q C8.E0) s1 := by
    refine run_ofS (N := Ng) (ps := [a]) (us := [.ref f]) (vs := [.ref f]) lk hcg Sg hr IF.env0 (hbd s1 [.ref f] I1.kIn rfl) (.cons rfl .nil) rfl fun hr' => ?_
    obtain ⟨t', ht', hq'⟩ := hG f c s1 (offA H1 f) Q (fun E H' Q' => t E σ H' Q') (fun W pn xe E p1 p2 tk hW => pe_act (i := 0) IF B.L atf offA_at nfr (B.bind _ _ _ _ _) tk hW hr' (fun A outer s H hr2 => B.read A outer s H E f c hr2) hNg hva hd hcd) hc' ht
    exact ⟨t', ht'.nox, hq'⟩
  refine wpAny_call (codeAny_mono rc fun r s2 hq => ?_)
  cases r with
  | error e => exact (show False from hq).elim
  | ok fl =>
    cases fl with
    | ret u => exact J1.after hq
    | next => exact False.elim hq
    | brk => exact False.elim hq
    | cont => exact False.elim hq
end
end SQ
/-! A call whose arguments all have names. -/
namespace SQ
open PySem PySem.Spec PyProof.Rows L2
def tCallK0 (sp : Sp) (gV : List V → List V → List V) (E : XK) (tk : TA) : TE := fun σ H Q => tk σ H fun zs H2 => sp (gV [] zs) H2 Q E
variable {X : Cx} {CX : CXT} {k : Nat} {f : Addr} {fd : FuncData} {ps ks : List Str} {sp : Sp} {E : XK} {x : Str} {p pos : Pos} {g : List Value → List Value → List Value} {gV : List V → List V → List V} {kws : List Keyword} {tk : TA}
theorem pe_callK0 (F : FnOk X.prog X.w X.K X.mg X.base CX k f fd ps sp) (hr : Room k X.A) (hg : Gl X x) (hm : X.mg x = some (.ref f)) (hk : PySem.W.keepIn X.K (.ref f) = true) (hb : KBinds X.K fd ps ks g gV) (hx : Passes CX X E) (hkw : PK X kws tk)
    (hall : (backToKw pos (keywordEach kws X.env)).all (·.1.isSome) = true := by rfl) (hks : (backToKw pos (keywordEach kws X.env)).filterMap (·.1) = ks := by rfl) (hdb : (x == ("__debug__" : Str)) = false := by decide)
    (hpl : ((backTo pos (starEach [] X.env)).any (·.1) || (backToKw pos (keywordEach kws X.env)).any (·.1.isNone)) = false := by rfl) : PE X (.Call (.Name x p) [] kws pos) (tCallK0 sp gV E tk) := by
  refine ⟨fun pins s σ H Q I h => ?_⟩
  refine wpAny_Call_Name_kw (ld_glob I hg hm ?_ hdb)
  refine PySem.W.callWith_KW0 (h₀ := X.base) I.ok.mod.kin hk hall (thn (hkw.run pos pins s σ H _ I h) ?_) hpl
  rintro ws s2 ⟨zs, H2, I2, rz, q2⟩
  refine ⟨I2.kIn, ?_⟩
  rw [hks]
  exact run_fnk F hr hb hx I2 .nil rz q2
/-- nothing is raised -/
theorem pass_never {P : Program} {w : World} (h1 : X.prog = P) (h2 : X.w = w) : Passes (L2.CX P w) X (fun _ _ _ => False) := by
  subst h1 h2
  exact passes_call LamX.takes0 (fun _ _ _ _ z => z)
end SQ
/-! not in a tuple, data of any depth. -/
namespace SQ
open PySem PySem.Spec PyProof.Rows L2
def rNotInTD (K : PySem.W.Frag) : R2 := fun x y H Q => ∃ d ds, Dp K H x d ∧ Dp K H y (.tuple ds) ∧ SeqAt.shaped d = true ∧ PyData.canLayAll0 ds = true ∧ Q (.bl (!ds.any fun z => PyData.eqv z d)) H
theorem op_notInTD {X : Cx} (hu : X.A.units + 65 < cLine) : OpR X (compareOp .NotIn) (rNotInTD X.K) := by
  intro pins s σ H x y v u Q I rx ry h
  obtain ⟨d, ds, hx, hl, sd, sl, q⟩ := h
  obtain ⟨bs, r1⟩ := Dp.reads I d x v hx rx
  have hroom : X.A.units + 1 + min (PyData.depthAll ds) d.depth < cLine := shaped_room sd hu
  cases hl with
  | tup hs ha =>
    rename_i a xs
    obtain rfl : u = .ref a := ry
    obtain ⟨its, rv, pt, hlen⟩ := I.tuple hs
    obtain ⟨as, h4⟩ := Dp.readsAll I ds _ its ha rv
    have hmap : its.map (SeqAt.readOf s.heap) = ds := SeqAt.readsAll_map ds its as sl h4
    refine SeqAt.notIn_tupleAt (items := its.toArray) (fun u => PyData.eqv (SeqAt.readOf s.heap u) d) pt (SeqAt.items_eqAt (vs := its.toArray) (show ReadsAll s.heap its.toArray.toList ds as from h4) r1 sl (SeqAt.canLay_of_shaped sd) hroom) ?_
    have ec : its.toArray.any (fun u => PyData.eqv (SeqAt.readOf s.heap u) d) = ds.any fun z => PyData.eqv z d := by
      rw [← hmap, List.any_map, List.any_toArray]
      rfl
    rw [ec]
    exact ⟨.bl _, H, I, rfl, q⟩
end SQ
/-! sizes, tables, operations. -/
namespace K74
open PySem L2 FX SQ
theorem sqK_same {K : PySem.W.Frag} {H H' : Hp} {a : Addr} {xs : List V} (s : Same H H') : ∀ {k : Kd}, SqK K H k a xs → SqK K H' k a xs
  | .L, h => s.seq h
  | .T, h => seqT s h
theorem iSq_of {K : PySem.W.Frag} {tl : TE} {σ : L2.St} {H : Hp} {R : It → Hp → Prop} {a : Addr} {xs : List V} (ht : ∀ Q : VK, Q (.ref a) H → tl σ H Q) : ∀ {kd : Kd}, SqK K H kd a xs → R (It2 K kd a) H → iSq K tl σ H R
  | .L, q, r => .inl (ht _ ⟨a, rfl, ⟨xs, q⟩, r⟩)
  | .T, q, r => .inr (ht _ ⟨a, rfl, ⟨xs, q⟩, r⟩)
theorem ixS {K : PySem.W.Frag} {H : Hp} {v : V} {d x : D} {i : Nat} (h : Dp K H v d) (hs : isSq d = true) (e : (items d)[i]? = some x) : ∃ u, Dp K H u x ∧ ∀ Q : VK, Q u H → rIx K v (.int (i : Nat)) H Q := by
  obtain ⟨a, xs, rfl, q, r⟩ := dp_seq h hs
  obtain ⟨u, eu, hu⟩ := dpAll_at (i := i) r e
  refine ⟨u, hu, fun Q k => ?_⟩
  rcases q with q | q
  · exact .inl ⟨a, xs, _, u, rfl, rfl, q, atI_nat eu, k⟩
  · exact .inr (.inl ⟨a, xs, _, u, rfl, rfl, q, atI_nat eu, k⟩)
def isTable (s lo hi : Int) (d : D) : Bool := isRow 2 d && (isBt lo hi ((items d).getD 0 .none) && (isRow (pow' s (intV ((items d).getD 0 .none)).toNat) ((items d).getD 1 .none) && (items ((items d).getD 1 .none)).all (isB s)))
theorem pow_le {s : Int} (s0 : 0 ≤ s) (s8 : s ≤ 8) : ∀ n : Nat, 0 ≤ pow' s n ∧ pow' s n ≤ 8 ^ n
  | 0 => ⟨Int.le_of_lt Int.one_pos, Int.le_refl _⟩
  | n + 1 => by
    obtain ⟨h0, h1⟩ := pow_le s0 s8 n
    refine ⟨Int.mul_nonneg h0 s0, ?_⟩
    show pow' s n * s ≤ 8 ^ n * 8
    exact Int.mul_le_mul h1 s8 s0 (by exact Int.le_trans h0 h1)
section
variable {P : Program} {w : World} {K : PySem.W.Frag} {mg : Str → Option Value} {base : Heap}
abbrev sSize : Stmt := top 16
abbrev sTable : Stmt := top 17
abbrev sOper : Stmt := top 18
theorem scSize : FnScope ["value"] ["value"] (defScope sSize) := ⟨rfl, rfl, rfl, by decide +kernel, rfl, by decide +kernel, by decide +kernel⟩
theorem ok_size {f fB : Addr} {fd fdB : FuncData} (F : Fun K "is_size" "is_size" sSize f fd) (FB : At K mg "is_between" sBetween fB fdB ["least", "most", "value"]) (GB : FnOk P w K mg base CX0 2 fB fdB ["least", "most", "value"] (spB2 K isBt)) :
    FnOk P w K mg base CX0 3 f fd ["value"] (spB K (isBt 2 8)) := by
  refine F.ok scSize (fun vs H Q E h => ?_) (fun cdv A outer s H vs Q E hr h => ?_)
  · obtain ⟨v, d, rfl, _⟩ := h
    rfl
  · obtain ⟨v, d, rfl, hd, k⟩ := h
    refine ⟨_, pss_one (ps_ret (pe_call GB hr rfl FB.g FB.F.kp FB.b .nil pass0 (by exact (pa_cons pe_int (pa_cons pe_int (pa_cons (pv 0) pa_nil)))))), ?_⟩
    exact ⟨_, rfl, 2, 8, v, d, rfl, hd, fun H1 s1 => k H1 s1⟩
/-- what a table asks -/
def spTable (K : PySem.W.Frag) : Sp := fun vs H Q _ => ∃ (s lo hi : Int) (v : V) (d : D), vs = [.int s, .int lo, .int hi, v] ∧ 0 ≤ s ∧ s ≤ 8 ∧ 0 ≤ lo ∧ hi ≤ 6 ∧ Dp K H v d ∧ ∀ H', Same H H' → Q (.bl (isTable s lo hi d)) H'
abbrev NTable : List Str := ["size", "least", "most", "value", "answer"]
theorem scTable : FnScope NTable ["size", "least", "most", "value"] (defScope sTable) := ⟨rfl, rfl, rfl, by decide +kernel, rfl, by decide +kernel, by decide +kernel⟩
theorem ok_table {f fR fW fB fL : Addr} {fd fdR fdW fdB fdL : FuncData} (F : Fun K "is_table" "is_table" sTable f fd) (Z : Bi mg) (FR : At K mg "is_row_of" sRowOf fR fdR ["many", "value"]) (GR : FnOk P w K mg base CX0 2 fR fdR ["many", "value"] (spB1 K isRow))
    (FW : At K mg "power" sPower fW fdW ["base", "times"]) (FB : At K mg "is_between" sBetween fB fdB ["least", "most", "value"]) (GB : FnOk P w K mg base CX0 2 fB fdB ["least", "most", "value"] (spB2 K isBt))
    (FL : At K mg "is_below" sBelow fL fdL ["many", "value"]) (GL : FnOk P w K mg base CX0 3 fL fdL ["many", "value"] (spB1 K isB)) :
    FnOk P w K mg base CX0 4 f fd ["size", "least", "most", "value"] (spTable K) := by
  have GW : FnOk P w K mg base CX0 1 fW fdW ["base", "times"] spPower := ok_power FW.F Z
  refine F.ok scTable (fun vs H Q E h => ?_) (fun cdv A outer s H vs Q E hr h => ?_)
  · obtain ⟨s, lo, hi, v, d, rfl, _⟩ := h
    rfl
  · obtain ⟨s, lo, hi, v, d, rfl, s0, s8, l0, h6, hd, k⟩ := h
    have hr2 := hr
    refine ⟨_, pss_cons (ps_if (PW.pt (pw_or (pt_not (pt_val (pe_call GR (hr.mono (by decide)) rfl FR.g FR.F.kp FR.b .nil pass0 (by exact (pa_cons pe_int (pa_cons (pv 3) pa_nil))))))
        (pw_or1 (pt_not (pt_val (pe_call GB (hr.mono (by decide)) rfl FB.g FB.F.kp FB.b .nil pass0 (by exact (pa_cons (pv 1) (pa_cons (pv 2) (pa_cons (pe_ix ix_seq (pv 3) pe_int (fun _ _ => rfl)) pa_nil))))))))))
        (pss_one (ps_ret pe_bl)) pss_nil)
      (pss_cons (ps_if (pt_not (pt_val (pe_call GR (hr.mono (by decide)) rfl FR.g FR.F.kp FR.b .nil pass0 (by exact (pa_cons (pe_call GW (hr.mono (by decide)) rfl FW.g FW.F.kp FW.b .nil pass0 (by exact (pa_cons (pv 0) (pa_cons (pe_ix ix_seq (pv 3) pe_int (fun _ _ => rfl)) pa_nil)))) (pa_cons (pe_ix ix_seq (pv 3) pe_int (fun _ _ => rfl)) pa_nil))))))
        (pss_one (ps_ret pe_bl)) pss_nil)
      (pss_one (ps_ret (pe_callB (cr_all rfl) (by rfl) Z.all (by decide +kernel) (pa_cons
        (pe_lc (own := [("answer", 4)]) (g := gName 4) (tt := tYes) (wi := iSq K (tOp (rIx K) (tVar 3) (tC (.int 1)))) (te := tCall (spB1 K isB) [] E0 (tCons (tVar 0) (tCons (tVar 4) tNil))) rfl scTable.nd (pi_sq (pe_ix ix_seq (pv 3) pe_int (fun _ _ => rfl)))
          (blkOk_by (N := NTable) (sc := defScope sTable) (by decide +kernel)) (fun _ _ _ _ _ => pg_name (i := 4) scTable.nd rfl (Or.inl rfl)) (fun _ _ _ _ _ => pts_nil)
          (fun _ _ _ _ _ => pe_call GL (hr.mono (by decide)) (by rfl) FL.g FL.F.kp FL.b .nil pass0 (by exact (pa_cons (pv 0) (pa_cons (pv 4) pa_nil))))) pa_nil))))), ?_⟩
    have no : isTable s lo hi d = false → ∀ H', Same H H' → Q (.bl false) H' := fun e H' s' => e ▸ k H' s'
    refine ⟨_, rfl, 2, v, d, rfl, hd, fun H1 s1 => ⟨_, rfl, ?_⟩⟩
    by_cases hrow : isRow 2 d = true
    case neg =>
      have hf : isRow 2 d = false := by simpa using hrow
      refine go_t (by rw [hf]; rfl) ?_
      refine go_t rfl ?_
      exact no (and_f hf) H1 s1
    refine go_f (by rw [hrow]; rfl) ?_
    have hsq : isSq d = true := by
      unfold isRow at hrow
      simp only [Bool.and_eq_true] at hrow
      exact hrow.1
    have hl2 : (items d).length = 2 := by
      unfold isRow at hrow
      simp only [Bool.and_eq_true, decide_eq_true_eq] at hrow
      omega
    obtain ⟨d0, d1, hit⟩ : ∃ d0 d1, items d = [d0, d1] := by
      match items d, hl2 with
      | [a, b], _ => exact ⟨a, b, rfl⟩
    have e0 : (items d)[0]? = some d0 := by rw [hit]; rfl
    have e1 : (items d)[1]? = some d1 := by rw [hit]; rfl
    have eT : isTable s lo hi d = (isBt lo hi d0 && (isRow (pow' s (intV d0).toNat) d1 && (items d1).all (isB s))) := by
      unfold isTable
      rw [and_t hrow, hit]
      rfl
    obtain ⟨u0, hu0, k0⟩ := ixS (i := 0) (dp_same s1 hd) hsq e0
    refine ⟨_, rfl, _, rfl, _, rfl, k0 _ ⟨lo, hi, u0, d0, rfl, hu0, fun H2 s2 => ⟨_, rfl, ?_⟩⟩⟩
    have s02 := s1.trans s2
    by_cases hbt : isBt lo hi d0 = true
    case neg =>
      have hf : isBt lo hi d0 = false := by simpa using hbt
      refine go_t (by rw [hf]; rfl) ?_
      exact no (by rw [eT]; exact and_f hf) H2 s02
    refine go_f (by rw [hbt]; rfl) ?_
    rw [and_t hbt] at eT
    have hb3 : isI d0 = true ∧ lo ≤ intV d0 ∧ intV d0 ≤ hi := by
      unfold isBt at hbt
      simp only [Bool.and_eq_true, decide_eq_true_eq] at hbt
      exact ⟨hbt.1, hbt.2.1, hbt.2.2⟩
    obtain ⟨i0, rfl, rfl⟩ := dp_int hu0 hb3.1
    have hi0 : lo ≤ i0 ∧ i0 ≤ hi := hb3.2
    obtain ⟨n, rfl⟩ : ∃ n : Nat, i0 = (n : Int) := ⟨i0.toNat, by omega⟩
    have eT' : isTable s lo hi d = (isRow (pow' s n) d1 && (items d1).all (isB s)) := eT
    obtain ⟨u0', hu0', k0'⟩ := ixS (i := 0) (dp_same s02 hd) hsq e0
    have eu : u0' = .int (n : Int) := by cases hu0'; rfl
    subst eu
    obtain ⟨u1, hu1, k1⟩ := ixS (i := 1) (dp_same s02 hd) hsq e1
    refine ⟨_, rfl, _, rfl, k0' _ ⟨s, n, rfl, s0, by omega, by omega, ?_⟩⟩
    refine ⟨_, rfl, k1 _ ⟨pow' s n, u1, d1, rfl, hu1, fun H3 s3 => ⟨_, rfl, ?_⟩⟩⟩
    have s03 := s02.trans s3
    by_cases hr1 : isRow (pow' s n) d1 = true
    case neg =>
      have hf : isRow (pow' s n) d1 = false := by simpa using hr1
      refine go_t (by rw [hf]; rfl) ?_
      exact no (by rw [eT']; exact and_f hf) H3 s03
    refine go_f (by rw [hr1]; rfl) ?_
    rw [and_t hr1] at eT'
    have hs1 : isSq d1 = true ∧ ((items d1).length : Int) = pow' s n := by
      unfold isRow at hr1
      simp only [Bool.and_eq_true, decide_eq_true_eq] at hr1
      exact hr1
    have hlen : (items d1).length ≤ 262144 := by
      have h1 := (pow_le s0 s8 n).2
      have h2 : (8 : Nat) ^ n ≤ 8 ^ 6 := Nat.pow_le_pow_right (by decide) (by omega)
      have h3 : (8 : Nat) ^ 6 = 262144 := by decide
      have h4 : (8 : Int) ^ n = ((8 ^ n : Nat) : Int) := by rw [Int.natCast_pow]; rfl
      rw [h4] at h1
      omega
    obtain ⟨u1', hu1', k1'⟩ := ixS (i := 1) (dp_same s03 hd) hsq e1
    obtain ⟨a, xs, rfl, q, r⟩ := dp_seq hu1' hs1.1
    obtain ⟨kd, qk⟩ : ∃ kd, SqK K H3 kd a xs := q.elim (fun q => ⟨.L, q⟩) fun q => ⟨.T, q⟩
    have lx : xs.length = (items d1).length := dpAll_len r
    refine iSq_of (kd := kd) (fun Q kq => ⟨_, rfl, k1' Q kq⟩) qk fun D hD => walk_it (walk_sq (n := xs.length) rfl) (fun i H' => Same H3 H' ∧ H' D = some (.lst (((items d1).take i).map fun d => V.bl (isB s d)))) ⟨same_new hD, upd_same⟩ (fun i H' _ p => sqK_same p.1 qk) ?_ ?_
    · rintro i x _ H4 hi ⟨s4, eD⟩ ⟨rfl, hx⟩
      refine ⟨rfl, ?_⟩
      obtain ⟨dx, hdx, hxd⟩ := dpAll_get r hx
      refine ⟨_, rfl, _, rfl, s, x, dx, rfl, dp_same s4 hxd, fun H5 s5 => ?_⟩
      refine ⟨_, s5 _ _ eD, ?_, same_of (s4.trans s5) hD, ?_⟩
      · rw [List.length_map, List.length_take, sizeLine_eq]
        omega
      · rw [upd_same, take_more hdx, List.map_append]
        rfl
    · rintro H4 ⟨s4, eD⟩
      rw [lx, List.take_length] at eD
      refine ⟨D, (items d1).map (isB s), rfl, ?_, ?_⟩
      · rw [List.map_map]
        exact SqL.of eD
      · rw [List.all_map]
        rw [show (items d1).all (id ∘ isB s) = isTable s lo hi d from by rw [eT']; rfl]
        exact k H4 (s03.trans s4)
end
end K74
/-! what raises: sizes, operations, books, held values. -/
namespace SQ
open PySem PySem.Spec PyProof.Rows L2
def gOr (g1 g2 : TG) : TG := fun v σ H Q => g1 v σ H Q ∨ g2 v σ H Q
theorem pg_or2 {X : Cx} {t : Expr} {g1 g2 : TG} (h1 : PG X t g1) (h2 : PG X t g2) : PG X t (gOr g1 g2) :=
  ⟨fun pins s σ H v u Q I r h => h.elim (fun h => h1.run pins s σ H v u Q I r h) fun h => h2.run pins s σ H v u Q I r h⟩
end SQ
namespace K74
open PySem L2 FX SQ
/-- the error of a class is out, v in its field -/
def Thr (C : Addr) (f : Str) (v : V) (H : Hp) (E : XK) : Prop := ∀ H' d, Same H H' → H' d = none → E (.ref C) (some d) (upd H' d (.xd [(f, v)]))
theorem Thr.same {C : Addr} {f : Str} {v : V} {H H' : Hp} {E : XK} (s : Same H H') (h : Thr C f v H E) : Thr C f v H' E := fun H2 d s2 hd => h H2 d (s.trans s2) hd
structure Er (K : PySem.W.Frag) (mg : Str → Option Value) (B : Addr) (x qn f : Str) (C i : Addr) : Prop where
  T : ErrTxt K mg B x C
  U : InitTxt K qn f C i
structure Ers (K : PySem.W.Frag) (mg : Str → Option Value) (B cB iB cC iC : Addr) : Prop where
  S : BaseTxt K mg "FoldError" B
  b : Er K mg B "InvalidBook" "InvalidBook.__init__" "at" cB iB
  c : Er K mg B "InvalidCut" "InvalidCut.__init__" "at" cC iC
section
variable {P : Program} {w : World} {K : PySem.W.Frag} {mg : Str → Option Value} {base : Heap} {B cB iB cC iC : Addr}
def spOper (K : PySem.W.Frag) : Sp := fun vs H Q _ => ∃ (s : Int) (v : V) (d : D), vs = [.int s, v] ∧ 0 ≤ s ∧ s ≤ 8 ∧ Dp K H v d ∧ ∀ H', Same H H' → Q (.bl (isTable s 1 3 d)) H'
theorem scOper : FnScope ["size", "value"] ["size", "value"] (defScope sOper) := ⟨rfl, rfl, rfl, by decide +kernel, rfl, by decide +kernel, by decide +kernel⟩
theorem ok_oper {f fT : Addr} {fd fdT : FuncData} (F : Fun K "is_operation" "is_operation" sOper f fd) (FT : At K mg "is_table" sTable fT fdT ["size", "least", "most", "value"]) (GT : FnOk P w K mg base CX0 4 fT fdT ["size", "least", "most", "value"] (spTable K)) :
    FnOk P w K mg base CX0 5 f fd ["size", "value"] (spOper K) := by
  refine F.ok scOper (fun vs H Q E h => ?_) (fun cdv A outer s H vs Q E hr h => ?_)
  · obtain ⟨s, v, d, rfl, _⟩ := h
    rfl
  · obtain ⟨s, v, d, rfl, s0, s8, hd, k⟩ := h
    refine ⟨_, pss_one (ps_ret (pe_call GT hr rfl FT.g FT.F.kp FT.b .nil pass0 (by exact (pa_cons (pv 0) (pa_cons pe_int (pa_cons pe_int (pa_cons (pv 1) pa_nil))))))), ?_⟩
    exact ⟨_, rfl, _, rfl, s, 1, 3, v, d, rfl, s0, s8, by decide, by decide, hd, k⟩
/-- an operation in tuples -/
def opD (d : D) : D := .tuple [(items d).getD 0 .none, .tuple (items ((items d).getD 1 .none))]
theorem table_is {s lo hi : Int} {d : D} (h : isTable s lo hi d = true) : isSq d = true ∧ ∃ (n : Int) (d1 : D), items d = [.int n, d1] ∧ lo ≤ n ∧ n ≤ hi ∧ isSq d1 = true ∧ ((items d1).length : Int) = pow' s n.toNat ∧ (items d1).all (isB s) = true := by
  unfold isTable at h
  simp only [Bool.and_eq_true] at h
  obtain ⟨h1, h2, h3, h4⟩ := h
  unfold isRow at h1
  simp only [Bool.and_eq_true, decide_eq_true_eq] at h1
  obtain ⟨d0, d1, hit⟩ : ∃ d0 d1, items d = [d0, d1] := by
    match items d, (show (items d).length = 2 by omega) with
    | [a, b], _ => exact ⟨a, b, rfl⟩
  rw [hit] at h2 h3 h4
  unfold isBt at h2
  simp only [Bool.and_eq_true, decide_eq_true_eq] at h2
  obtain ⟨h21, h22, h23⟩ := h2
  cases d0 with
  | int n =>
    unfold isRow at h3
    simp only [Bool.and_eq_true, decide_eq_true_eq] at h3
    exact ⟨h1.1, n, d1, hit, h22, h23, h3.1, h3.2, h4⟩
  | none => cases h21
  | bool _ => cases h21
  | str _ => cases h21
  | list _ => cases h21
  | tuple _ => cases h21
  | dict _ => cases h21
theorem bt_int {a b : Int} {d : D} (h : isBt a b d = true) : ∃ i, d = .int i ∧ a ≤ i ∧ i ≤ b := by
  unfold isBt at h
  simp only [Bool.and_eq_true, decide_eq_true_eq] at h
  cases d with
  | int i => exact ⟨i, rfl, h.2.1, h.2.2⟩
  | none => cases h.1
  | bool _ => cases h.1
  | str _ => cases h.1
  | list _ => cases h.1
  | tuple _ => cases h.1
  | dict _ => cases h.1
/-- tuple(x) of a list or a tuple -/
theorem kTup_sq {H : Hp} {v : V} {d : D} {Q : VK} (h : Dp K H v d) (hs : isSq d = true) (k : ∀ H' v', Same H H' → Dp K H' v' (.tuple (items d)) → Q v' H') : kTup K v H Q := by
  obtain ⟨a, xs, rfl, q, r⟩ := dp_seq h hs
  rcases q with q | q
  · exact .inl ⟨a, xs, rfl, q, fun t ht => k _ _ (same_new ht) (.tup (SqT.of upd_same) (dpAll_same (same_new ht) r))⟩
  · exact .inr ⟨a, xs, rfl, q, k _ _ (Same.refl H) (.tup q r)⟩
end
end K74
/-! books. -/
namespace K74
open PySem L2 FX SQ
theorem gOr_sq {K : PySem.W.Frag} {H : Hp} {σ : L2.St} {Q : L2.St → Hp → Prop} {t : TGs} {n : Nat} {a : Addr} {xs : List V} (q : SqL K H a xs ∨ SqT K H a xs) (l : xs.length = n) (h : t xs σ H Q) : gOr (gLst K n t) (gTup K n t) (.ref a) σ H Q :=
  q.elim (fun q => .inl ⟨a, xs, rfl, q, l, h⟩) fun q => .inr ⟨a, xs, rfl, q, l, h⟩
def okBook (d : D) : Bool := isRow 2 d && (isBt 2 8 ((items d).getD 0 .none) && (isSq ((items d).getD 1 .none) && decide ((items ((items d).getD 1 .none)).length ≤ 8)))
section
variable {P : Program} {w : World} {K : PySem.W.Frag} {mg : Str → Option Value} {base : Heap} {B cB iB cC iC : Addr}
abbrev sNeedBook : Stmt := top 19
def spNeedBook (K : PySem.W.Frag) (cB : Addr) : Sp := fun vs H Q E => ∃ (v : V) (d : D), vs = [v] ∧ Dp K H v d ∧ (okBook d = false → Thr cB "at" (.int (-1)) H E) ∧
  (okBook d = true → ∀ (s : Int) d1, items d = [.int s, d1] → (∀ (i : Nat) x, (items d1)[i]? = some x → isTable s 1 3 x = false → (∀ j : Nat, j < i → ∀ y, (items d1)[j]? = some y → isTable s 1 3 y = true) → Thr cB "at" (.int (i : Nat)) H E) ∧
    ((∀ (j : Nat) y, (items d1)[j]? = some y → isTable s 1 3 y = true) → ∀ H' v', Same H H' → Dp K H' v' (.tuple [.int s, .tuple ((items d1).map opD)]) → Q v' H'))
abbrev NBook : List Str := ["value", "at", "operation", "places", "answers"]
theorem scBook : FnScope NBook ["value"] (defScope sNeedBook) := ⟨rfl, rfl, rfl, by decide +kernel, rfl, by decide +kernel, by decide +kernel⟩
theorem ok_book {f fR fZ fS fO : Addr} {fd fdR fdZ fdS fdO : FuncData} (F : Fun K "need_book" "need_book" sNeedBook f fd) (Z : Bi mg) (T : Ers K mg B cB iB cC iC) (FR : At K mg "is_row_of" sRowOf fR fdR ["many", "value"]) (GR : FnOk P w K mg base CX0 2 fR fdR ["many", "value"] (spB1 K isRow))
    (FZ : At K mg "is_size" sSize fZ fdZ ["value"]) (GZ : FnOk P w K mg base CX0 3 fZ fdZ ["value"] (spB K (isBt 2 8))) (FS : At K mg "is_sequence" sSequence fS fdS ["value"]) (GS : FnOk P w K mg base CX0 1 fS fdS ["value"] (spB K isSq))
    (FO : At K mg "is_operation" sOper fO fdO ["size", "value"]) (GO : FnOk P w K mg base CX0 5 fO fdO ["size", "value"] (spOper K)) :
    FnOk P w K mg base (L2.CX P w) 6 f fd ["value"] (spNeedBook K cB) := by
  refine F.okX scBook (fun vs H Q E h => ?_) (fun cdv A outer s H vs Q E hr h => ?_)
  · obtain ⟨v, d, rfl, _⟩ := h
    rfl
  · obtain ⟨v, d, rfl, hd, k1, k2⟩ := h
    refine ⟨_, pss_cons (ps_if (PW.pt (pw_or (pt_not (pt_val (pe_call GR (hr.mono (by decide)) rfl FR.g FR.F.kp FR.b .nil pass0 (by exact (pa_cons pe_int (pa_cons (pv 0) pa_nil))))))
          (pw_or (pt_not (pt_val (pe_call GZ (hr.mono (by decide)) rfl FZ.g FZ.F.kp FZ.b .nil pass0 (by exact (pa_cons (pe_ix ix_seq (pv 0) pe_int (fun _ _ => rfl)) pa_nil)))))
          (pw_or (pt_not (pt_val (pe_call GS (hr.mono (by decide)) rfl FS.g FS.F.kp FS.b .nil pass0 (by exact (pa_cons (pe_ix ix_seq (pv 0) pe_int (fun _ _ => rfl)) pa_nil)))))
          (pw_or1 (pt_cmpR op_gt (pe_callB call_len_seq (by rfl) Z.len PySem.boot_len (pa_cons (pe_ix ix_seq (pv 0) pe_int (fun _ _ => rfl)) pa_nil)) pe_int (nomark _)))))))
        (pss_one (ps_err rfl T.b.T T.b.U hr (takes_of rfl rfl rfl rfl) (by exact (pa_cons (pe_un un_neg pe_int) pa_nil)))) pss_nil)
      (pss_cons (ps_for (passes_of rfl) rfl (pi_enum2 (by rfl) Z.enumerate (pa_cons (pe_ix ix_seq (pv 0) pe_int (fun _ _ => rfl)) pa_nil)) (pg_tup rfl (pgs_cons (pg_name (i := 1) scBook.nd rfl (Or.inl rfl)) (pgs_cons (pg_name (i := 2) scBook.nd rfl (Or.inl rfl)) pgs_nil)))
        (pss_one (ps_if (pt_not (pt_val (pe_call GO hr rfl FO.g FO.F.kp FO.b .nil pass0 (by exact (pa_cons (pe_ix ix_seq (pv 0) pe_int (fun _ _ => rfl)) (pa_cons (pv 2) pa_nil))))))
          (pss_one (ps_err rfl T.b.T T.b.U hr (takes_of rfl rfl rfl rfl) (by exact (pa_cons (pv 1) pa_nil)))) pss_nil)))
      (pss_one (ps_ret (pe_tup (by exact (pa_cons (pe_ix ix_seq (pv 0) pe_int (fun _ _ => rfl)) (pa_cons (pe_tupleF (by rfl) Z.tuple
        (pe_lc (own := [("places", 3), ("answers", 4)]) (g := gOr (gLst K 2 (gCons (gName 3) (gCons (gName 4) gNil))) (gTup K 2 (gCons (gName 3) (gCons (gName 4) gNil)))) (tt := tYes) (wi := iSq K (tOp (rIx K) (tVar 0) (tC (.int 1))))
          (te := tTup (tCons (tVar 3) (tCons (tThen (tVar 4) (kTup K)) tNil))) rfl scBook.nd (pi_sq (pe_ix ix_seq (pv 0) pe_int (fun _ _ => rfl))) (blkOk_by (N := NBook) (sc := defScope sNeedBook) (by decide +kernel))
          (fun _ _ _ _ _ => pg_or2 (pg_lst rfl (pgs_cons (pg_name (i := 3) scBook.nd rfl (Or.inl rfl)) (pgs_cons (pg_name (i := 4) scBook.nd rfl (Or.inl rfl)) pgs_nil))) (pg_tup rfl (pgs_cons (pg_name (i := 3) scBook.nd rfl (Or.inl rfl)) (pgs_cons (pg_name (i := 4) scBook.nd rfl (Or.inl rfl)) pgs_nil)))) (fun _ _ _ _ _ => pts_nil)
          (fun _ _ _ _ _ => pe_tup (pa_cons (pv 3) (pa_cons (pe_tupleOf (by rfl) Z.tuple (pv 4)) pa_nil))))) pa_nil))))))), ?_⟩
    refine ⟨_, rfl, 2, v, d, rfl, hd, fun H1 s1 => ⟨_, rfl, ?_⟩⟩
    by_cases hrow : isRow 2 d = true
    case neg =>
      have hf : isRow 2 d = false := by simpa using hrow
      refine go_t (by rw [hf]; rfl) ?_
      refine go_t rfl ?_
      exact ⟨_, rfl, _, rfl, fun d' hd' => k1 (and_f hf) H1 d' s1 hd'⟩
    refine go_f (by rw [hrow]; rfl) ?_
    have hsq : isSq d = true := by
      unfold isRow at hrow
      simp only [Bool.and_eq_true] at hrow
      exact hrow.1
    obtain ⟨d0, d1, hit⟩ : ∃ d0 d1, items d = [d0, d1] := by
      have hl2 : (items d).length = 2 := by
        unfold isRow at hrow
        simp only [Bool.and_eq_true, decide_eq_true_eq] at hrow
        omega
      match items d, hl2 with
      | [a, b], _ => exact ⟨a, b, rfl⟩
    have e0 : (items d)[0]? = some d0 := by rw [hit]; rfl
    have e1 : (items d)[1]? = some d1 := by rw [hit]; rfl
    have eB : okBook d = (isBt 2 8 d0 && (isSq d1 && decide ((items d1).length ≤ 8))) := by
      unfold okBook
      rw [and_t hrow, hit]
      rfl
    obtain ⟨u0, hu0, kk0⟩ := ixS (i := 0) (dp_same s1 hd) hsq e0
    refine ⟨_, rfl, kk0 _ ⟨u0, d0, rfl, hu0, fun H2 s2 => ⟨_, rfl, ?_⟩⟩⟩
    have s02 := s1.trans s2
    by_cases hbt : isBt 2 8 d0 = true
    case neg =>
      have hf : isBt 2 8 d0 = false := by simpa using hbt
      refine go_t (by rw [hf]; rfl) ?_
      refine go_t rfl ?_
      exact ⟨_, rfl, _, rfl, fun d' hd' => k1 (by rw [eB]; exact and_f hf) H2 d' s02 hd'⟩
    refine go_f (by rw [hbt]; rfl) ?_
    rw [and_t hbt] at eB
    obtain ⟨s, rfl, i2, i8⟩ := bt_int hbt
    obtain ⟨u1, hu1, kk1⟩ := ixS (i := 1) (dp_same s02 hd) hsq e1
    refine ⟨_, rfl, kk1 _ ⟨u1, d1, rfl, hu1, fun H3 s3 => ⟨_, rfl, ?_⟩⟩⟩
    have s03 := s02.trans s3
    by_cases hs1 : isSq d1 = true
    case neg =>
      have hf : isSq d1 = false := by simpa using hs1
      refine go_t (by rw [hf]; rfl) ?_
      refine go_t rfl ?_
      exact ⟨_, rfl, _, rfl, fun d' hd' => k1 (by rw [eB]; exact and_f hf) H3 d' s03 hd'⟩
    refine go_f (by rw [hs1]; rfl) ?_
    rw [and_t hs1] at eB
    obtain ⟨u1', hu1', kk1'⟩ := ixS (i := 1) (dp_same s03 hd) hsq e1
    obtain ⟨a, xs, rfl, q, r⟩ := dp_seq hu1' hs1
    have lx : xs.length = (items d1).length := dpAll_len r
    refine ⟨_, rfl, kk1' _ ⟨a, xs, rfl, q, _, _, rfl, rfl, _, rfl, ?_⟩⟩
    rw [lx]
    by_cases h8 : (items d1).length ≤ 8
    case neg =>
      refine go_t (decide_eq_true (by omega)) ?_
      exact ⟨_, rfl, _, rfl, fun d' hd' => k1 (by rw [eB]; exact decide_eq_false h8) H3 d' s03 hd'⟩
    refine go_f (decide_eq_false (by omega)) ?_
    have ok : okBook d = true := by rw [eB]; exact decide_eq_true h8
    obtain ⟨k2a, k2b⟩ := k2 ok s d1 hit
    obtain ⟨kd, qk⟩ : ∃ kd, SqK K H3 kd a xs := q.elim (fun q => ⟨.L, q⟩) fun q => ⟨.T, q⟩
    refine ⟨_, rfl, kk1' _ ⟨a, xs, kd, rfl, qk, for_it (walk_enum2 (k := kd) (a := a) (xs := xs) (n := xs.length) rfl)
      (fun i σ H' => ∃ u1 u2 : Option V, σ = [some v, u1, u2, none, none] ∧ Same H3 H' ∧ ∀ j : Nat, j < i → ∀ y, (items d1)[j]? = some y → isTable s 1 3 y = true)
      ⟨none, none, rfl, Same.refl H3, fun j hj => by omega⟩ (fun i σ H' _ ⟨_, _, _, s2, _⟩ => sqK_same s2 qk) ?_ ?_⟩⟩
    · rintro i x σ H4 H5 hi ⟨w1, w2, rfl, s4, hj⟩ ⟨t, x1, x2, rfl, ht, rfl, hx1, hx2⟩
      obtain rfl : x1 = .int (i : Nat) := (Option.some.inj hx1).symm
      obtain ⟨dx, hdx, hxd⟩ := dpAll_get r hx2
      have s5 := same_new (o := .tup [.int (i : Nat), x2]) ht
      have s05 := s03.trans (s4.trans s5)
      obtain ⟨u0', hu0', kk0'⟩ := ixS (i := 0) (dp_same s05 hd) hsq e0
      obtain rfl : u0' = .int s := by cases hu0'; rfl
      refine ⟨t, _, rfl, SqT.of upd_same, rfl, _, _, rfl, _, _, rfl, rfl, _, rfl, kk0' _ ⟨_, rfl, s, x2, dx, rfl, by omega, i8, dp_same (s4.trans s5) hxd, fun H6 s6 => ⟨_, rfl, ?_⟩⟩⟩
      by_cases hb : isTable s 1 3 dx = true
      · refine go_f (by rw [hb]; rfl) ?_
        refine ⟨_, _, rfl, (s4.trans s5).trans s6, fun j hj' y hy => ?_⟩
        by_cases e : j = i
        · subst e
          rw [hdx] at hy
          cases hy
          exact hb
        · exact hj j (by omega) y hy
      · have hb' : isTable s 1 3 dx = false := by simpa using hb
        refine go_t (by rw [hb']; rfl) ?_
        exact ⟨_, rfl, _, rfl, fun d' hd' => k2a i dx hdx hb' hj H6 d' (s05.trans s6) hd'⟩
    · rintro σ H4 ⟨w1, w2, rfl, s4, hj⟩
      have all : ∀ (j : Nat) y, (items d1)[j]? = some y → isTable s 1 3 y = true := fun j y hy => hj j (by rw [lx]; exact (List.getElem?_eq_some_iff.mp hy).1) y hy
      have s04 := s03.trans s4
      obtain ⟨u0', hu0', kk0'⟩ := ixS (i := 0) (dp_same s04 hd) hsq e0
      obtain rfl : u0' = .int s := by cases hu0'; rfl
      obtain ⟨u2, hu2, kk2⟩ := ixS (i := 1) (dp_same s04 hd) hsq e1
      obtain ⟨a2, x2s, rfl, q2, r2⟩ := dp_seq hu2 hs1
      obtain ⟨kd2, qk2⟩ : ∃ kd, SqK K H4 kd a2 x2s := q2.elim (fun q => ⟨.L, q⟩) fun q => ⟨.T, q⟩
      have lx2 : x2s.length = (items d1).length := dpAll_len r2
      refine ⟨_, rfl, kk0' _ (iSq_of (kd := kd2) (fun Q kq => ⟨_, rfl, kk2 Q kq⟩) qk2 fun D hD => walk_it (walk_sq (n := x2s.length) rfl) (fun i H' => Same H4 H' ∧ Grow K H' D (((items d1).take i).map opD)) ⟨same_new hD, Grow.nil⟩ (fun i H' _ p => sqK_same p.1 qk2) ?_ ?_)⟩
      · rintro i x _ H5 hi ⟨s5, g5⟩ ⟨rfl, hx⟩
        obtain ⟨dx, hdx, hxd⟩ := dpAll_get r2 hx
        obtain ⟨hsx, n, dx1, hitx, _, _, hsx1, _, _⟩ := table_is (all i dx hdx)
        obtain ⟨ax, xx, rfl, qx, rx⟩ := dp_seq hxd hsx
        rw [hitx] at rx
        obtain ⟨y0, y1, rfl, hy0, hy1⟩ : ∃ y0 y1, xx = [y0, y1] ∧ Dp K H4 y0 (.int n) ∧ Dp K H4 y1 dx1 := by
          cases rx with
          | cons h0 r => cases r with
            | cons h1 r => cases r with
              | nil => exact ⟨_, _, rfl, h0, h1⟩
        have qx5 : SqL K H5 ax [y0, y1] ∨ SqT K H5 ax [y0, y1] := qx.elim (fun q => .inl (s5.seq q)) fun q => .inr (seqT s5 q)
        obtain ⟨a1, x1s, rfl, q1, r1⟩ := dp_seq hy1 hsx1
        obtain ⟨acc, eD, _⟩ := id g5
        have lacc := g5.len eD
        rw [List.length_map, List.length_take] at lacc
        have et : ((items d1).take (i + 1)).map opD = (((items d1).take i).map opD) ++ [opD dx] := by
          rw [take_more hdx, List.map_append]
          rfl
        have eo : opD dx = .tuple [.int n, .tuple (items dx1)] := by
          unfold opD
          rw [hitx]
          rfl
        have fin : ∀ (H6 : Hp) (v6 : V), Same H5 H6 → H6 D = some (.lst acc) → Dp K (off H6 D) v6 (.tuple (items dx1)) → ∀ t, H6 t = none →
            ∃ acc, (upd H6 t (.tup [y0, v6])) D = some (.lst acc) ∧ acc.length < sizeLine ∧ (Same H4 (upd (upd H6 t (.tup [y0, v6])) D (.lst (acc ++ [.ref t]))) ∧ Grow K (upd (upd H6 t (.tup [y0, v6])) D (.lst (acc ++ [.ref t]))) D (((items d1).take (i + 1)).map opD)) := by
          intro H6 v6 s6 eD6 d6 t ht
          have nt : D ≠ t := ne_of_none eD6 ht
          have s7 := same_new (o := .tup [y0, v6]) ht
          refine ⟨acc, by rw [upd_ne nt]; exact eD6, by rw [lacc, sizeLine_eq]; omega, same_of ((s5.trans s6).trans s7) hD, ?_⟩
          rw [et, eo]
          refine ((g5.keep s6).keep s7).put (by rw [upd_ne nt]; exact eD6) ?_
          exact .tup (SqT.of (by rw [off_ne (Ne.symm nt), upd_same])) (.cons (dp_off hy0 ((s5.trans s6).trans s7) hD) (.cons (dp_same (off_mono fun c o _ e => s7 c o e) d6) .nil))
        refine gOr_sq qx5 rfl ⟨_, _, rfl, _, _, rfl, rfl, rfl, ?_⟩
        refine ⟨_, rfl, _, rfl, ?_⟩
        rcases q1 with q1 | q1
        · refine .inl ⟨a1, x1s, rfl, s5.seq q1, fun t2 ht2 => ⟨(by show 2 ≤ sizeLine; decide), ?_⟩⟩
          have n2 : D ≠ t2 := ne_of_none eD ht2
          have s6 := same_new (o := .tup x1s) ht2
          exact fin _ (.ref t2) s6 (by rw [upd_ne n2]; exact eD) (.tup (SqT.of (by rw [off_ne (Ne.symm n2), upd_same])) (dpAll_same (fun c o e => by
            rw [off_ne (ne_of_none e hD)]
            exact s6 _ _ (s5 _ _ e)) r1))
        · exact .inr ⟨a1, x1s, rfl, seqT s5 q1, (by show 2 ≤ sizeLine; decide), fin H5 (.ref a1) (Same.refl H5) eD (dp_off (.tup q1 r1) s5 hD)⟩
      · rintro H5 ⟨s5, g5⟩
        rw [lx2, List.take_length] at g5
        obtain ⟨vs, e3, d3⟩ := id g5
        refine ⟨D, vs, rfl, SqL.of e3, fun q o hq ho => ⟨(by show 2 ≤ sizeLine; decide), fun t ht => ?_⟩⟩
        have s6 := same_new (o := .frz o (.tup vs)) hq
        have s7 := same_new (o := .tup [.int s, .ref q]) ht
        refine k2b all _ _ (((s04.trans s5).trans s6).trans s7) ?_
        exact .tup (SqT.of upd_same) (.cons (.int s) (.cons (dp_same s7 (.tup (.inl (.inr ⟨o, upd_same⟩)) (dpAll_same (off_le.trans s6) d3))) .nil))
end
end K74
/-! cuts as data; tuples; lists of values. -/
namespace SQ
open PySem PySem.Spec PyProof.Rows L2
theorem pe_dead {X : Cx} {e : Expr} : PE X e (fun _ _ _ => False) := ⟨fun _ _ _ _ _ _ h => h.elim⟩
theorem pss_dead {X : Cx} {sts : List Stmt} : PSs X sts (fun _ _ _ => False) := ⟨fun _ _ _ _ _ _ h => h.elim⟩
end SQ
namespace K74
open PySem L2 FX SQ
abbrev nV (n : Nat) : V := .int (n : Int)
def nD (n : Nat) : D := .int n
abbrev rN (ns : List Nat) : D := .tuple (ns.map nD)
theorem dp_n {K : PySem.W.Frag} {H : Hp} : ∀ ns : List Nat, DpAll K H (ns.map nV) (ns.map nD)
  | [] => .nil
  | n :: r => .cons (.int n) (dp_n r)
abbrev Rd := Nat × Nat
def wordS : Nat → Str
  | 0 => "in"
  | 1 => "line"
  | _ => "value"
def rdD (r : Rd) : D := .tuple [.str (wordS r.1), nD r.2]
abbrev Ln := Nat × List Rd
def lnD (l : Ln) : D := .tuple [nD l.1, .tuple (l.2.map rdD)]
structure Cut where
  lists : List (List Nat)
  lines : List Ln
  ends : List Rd
def cutD (c : Cut) : D := .tuple [.tuple (c.lists.map rN), .tuple (c.lines.map lnD), .tuple (c.ends.map rdD)]
def opN (o : Nat × List Nat) : D := .tuple [nD o.1, .tuple (o.2.map nD)]
abbrev opsD (ops : List (Nat × List Nat)) : D := .tuple (ops.map opN)
abbrev bookD (s : Nat) (ops : List (Nat × List Nat)) : D := .tuple [nD s, opsD ops]
def OkRd (s ins lines : Nat) (r : Rd) : Prop := r.1 ≤ 2 ∧ r.2 < (if r.1 = 0 then ins else if r.1 = 1 then lines else s)
def OkLn (s : Nat) (ops : List (Nat × List Nat)) (ins at' : Nat) (l : Ln) : Prop := (∃ o, ops[l.1]? = some o ∧ l.2.length = o.1 ∧ o.1 ≤ 3) ∧ ∀ r ∈ l.2, OkRd s ins at' r
def OkLs (s : Nat) (ns : List Nat) : Prop := 0 < ns.length ∧ ns.length ≤ 8 ∧ (∀ x ∈ ns, x < s) ∧ ∀ (i x y : Nat), ns[i]? = some x → ns[i + 1]? = some y → x < y
structure OkCut (s : Nat) (ops : List (Nat × List Nat)) (c : Cut) : Prop where
  s8 : s ≤ 8
  o8 : ops.length ≤ 8
  l8 : c.lists.length ≤ 8
  n8 : c.lines.length ≤ 8
  e8 : c.ends.length ≤ 8
  lists : ∀ ns ∈ c.lists, OkLs s ns
  lines : ∀ (i : Nat) (l : Ln), c.lines[i]? = some l → OkLn s ops c.lists.length i l
  ends : ∀ r ∈ c.ends, OkRd s c.lists.length c.lines.length r
theorem isB_n {s a : Nat} : isB (s : Int) (nD a) = decide (a < s) := by
  show (decide (0 ≤ (a : Int)) && decide ((a : Int) < (s : Int))) = decide (a < s)
  rw [decide_eq_true (show 0 ≤ (a : Int) by omega), Bool.true_and]
  by_cases h : a < s
  · rw [decide_eq_true h]
    exact decide_eq_true (by omega)
  · rw [decide_eq_false h]
    exact decide_eq_false (by omega)
def isT : D → Bool | .tuple _ => true | _ => false
def isTup (m : Int) (d : D) : Bool := isT d && decide (((items d).length : Int) = m)
theorem dp_nat {K : PySem.W.Frag} {H : Hp} {v : V} {n : Nat} (h : Dp K H v (nD n)) : v = nV n := by
  cases h
  rfl
theorem dpAll_nat {K : PySem.W.Frag} {H : Hp} : ∀ {vs : List V} {ns : List Nat}, DpAll K H vs (ns.map nD) → vs = ns.map nV
  | [], [], _ => rfl
  | [], _ :: _, h => by cases h
  | _ :: _, [], h => by cases h
  | v :: vs, n :: ns, h => by
    cases h with
    | cons a b => rw [dp_nat a, dpAll_nat b]; rfl
section
variable {P : Program} {w : World} {K : PySem.W.Frag} {mg : Str → Option Value} {base : Heap}
abbrev sTup : Stmt := top 7
abbrev sRise : Stmt := top 8
abbrev sVL : Stmt := top 9
theorem scTup : FnScope ["many", "value"] ["many", "value"] (defScope sTup) := ⟨rfl, rfl, rfl, by decide +kernel, rfl, by decide +kernel, by decide +kernel⟩
theorem ok_tup {f : Addr} {fd : FuncData} (F : Fun K "is_tuple_of" "is_tuple_of" sTup f fd) (Z : Bi mg) : FnOk P w K mg base CX0 1 f fd ["many", "value"] (spB1 K isTup) := by
  refine F.ok scTup (fun vs H Q E h => ?_) (fun cdv A outer s H vs Q E hr h => ?_)
  · obtain ⟨m, v, d, rfl, _⟩ := h
    rfl
  · obtain ⟨m, v, d, rfl, hd, k⟩ := h
    have kk := k H (Same.refl H)
    refine ⟨_, pss_one (ps_ret (pe_and (pe_callB call_isi (by rfl) Z.isinstance (by decide +kernel) (pa_cons (pv 1) (pa_cons (pe_bltn (v := .ty "tuple") (by rfl) Z.tuple (by decide +kernel) rfl) pa_nil))) (pe_one (pe_cmpR op_eq (pe_callB call_len_seq (by rfl) Z.len PySem.boot_len (pa_cons (pv 1) pa_nil)) (pv 0) (nomark _))))), ?_⟩
    refine ⟨_, rfl, v, _, _, _, _, rfl, .ty "tuple", ty_data hd, kTuple d, _, rfl, ?_⟩
    by_cases hi : isT d = true
    · cases d with
      | tuple ds =>
        refine go_t rfl ?_
        obtain ⟨a, xs, rfl, q, r⟩ := dp_tup hd
        rw [show isTup m (.tuple ds) = decide ((ds.length : Int) = m) from and_t hi, ← dpAll_len r] at kk
        refine ⟨_, rfl, a, xs, rfl, .inr q, _, rfl, rfl, ?_⟩
        rw [show decide (V.int xs.length = V.int m) = decide ((xs.length : Int) = m) from by
          by_cases e : (xs.length : Int) = m
          · rw [decide_eq_true e, decide_eq_true (congrArg V.int e)]
          · rw [decide_eq_false e, decide_eq_false fun z => e (V.int.inj z)]]
        exact kk
      | none | bool _ | int _ | str _ | list _ | dict _ => cases hi
    · have hi' : isT d = false := by simpa using hi
      rw [show isTup m d = false from and_f hi'] at kk
      cases d with
      | tuple ds => cases hi'
      | none | bool _ | int _ | str _ | list _ | dict _ => exact iteF kk
def spRise (K : PySem.W.Frag) : Sp := fun vs H Q _ => ∃ (s : Nat) (v : V) (ns : List Nat), vs = [nV s, v] ∧ Dp K H v (rN ns) ∧ OkLs s ns ∧ ∀ H', Same H H' → Q .non H'
theorem scRise : FnScope ["many", "values", "at", "value"] ["many", "values"] (defScope sRise) := ⟨rfl, rfl, rfl, by decide +kernel, rfl, by decide +kernel, by decide +kernel⟩
theorem ok_rise {f fB : Addr} {fd fdB : FuncData} (F : Fun K "first_not_rising" "first_not_rising" sRise f fd) (Z : Bi mg) (FB : At K mg "is_below" sBelow fB fdB ["many", "value"]) (GB : FnOk P w K mg base CX0 3 fB fdB ["many", "value"] (spB1 K isB)) :
    FnOk P w K mg base CX0 4 f fd ["many", "values"] (spRise K) := by
  refine F.ok scRise (fun vs H Q E h => ?_) (fun cdv A outer sh H vs Q E hr h => ?_)
  · obtain ⟨s, v, ns, rfl, _⟩ := h
    rfl
  · obtain ⟨s, v, ns, rfl, hd, ⟨_, n8, lt, up⟩, k⟩ := h
    obtain ⟨a, xs, rfl, q, r⟩ := dp_tup hd
    obtain rfl := dpAll_nat r
    refine ⟨_, pss_cons (ps_for PassesOwn.never rfl (pi_enum2 (by rfl) Z.enumerate (pa_cons (pv 1) pa_nil)) (pg_tup rfl (pgs_cons (pg_name (i := 2) scRise.nd rfl (Or.inl rfl)) (pgs_cons (pg_name (i := 3) scRise.nd rfl (Or.inl rfl)) pgs_nil)))
        (pss_cons (ps_if (pt_not (pt_val (pe_call GB (hr.mono (by decide)) rfl FB.g FB.F.kp FB.b .nil pass0 (by exact (pa_cons (pv 0) (pa_cons (pv 3) pa_nil)))))) pss_dead pss_nil)
        (pss_one (ps_if (PW.pt (pw_and (pt_cmpR op_gt (pv 2) pe_int (nomark _)) (pw_and1 (pt_cmpR op_le (pv 3) (pe_ix ix_tup (pv 1) (pe_op op_sub (pv 2) pe_int) (fun _ _ => rfl)) (nomark _))))) pss_dead pss_nil))))
      (pss_one (ps_ret pe_non)), ?_⟩
    refine ⟨_, rfl, a, _, .T, rfl, q, for_it (walk_enum2 (k := .T) (a := a) (xs := ns.map nV) (n := ns.length) (by rw [List.length_map])) (fun i σ H' => ∃ u1 u2 : Option V, σ = [some (nV s), some (.ref a), u1, u2] ∧ Same H H') ⟨none, none, rfl, Same.refl H⟩ (fun i σ H' _ ⟨_, _, _, s1⟩ => seqT s1 q) ?_ ?_⟩
    · rintro i x σ H1 H2 hi ⟨w1, w2, rfl, s1⟩ ⟨t, x1, x2, rfl, ht, rfl, hx1, hx2⟩
      obtain rfl : x1 = .int (i : Nat) := (Option.some.inj hx1).symm
      have hn : ns[i]? = some ns[i] := List.getElem?_eq_getElem hi
      have hx2 : (ns.map nV)[i]? = some x2 := hx2
      rw [List.getElem?_map, hn] at hx2
      obtain rfl : x2 = nV ns[i] := (Option.some.inj hx2).symm
      have s2 := s1.trans (same_new (o := .tup [.int (i : Nat), nV ns[i]]) ht)
      refine ⟨t, _, rfl, SqT.of upd_same, rfl, _, _, rfl, _, _, rfl, rfl, _, rfl, _, rfl, _, _, nD ns[i], rfl, .int _, fun H3 s3 => ⟨_, rfl, ?_⟩⟩
      refine go_f (by rw [isB_n, decide_eq_true (lt _ (List.getElem_mem hi))]; rfl) ?_
      refine ⟨_, rfl, _, _, rfl, rfl, _, rfl, ?_⟩
      by_cases h0 : (0 : Int) < (i : Nat)
      · refine go_t (decide_eq_true h0) ?_
        have hp : ns[i - 1]? = some (ns[i - 1]'(by omega)) := List.getElem?_eq_getElem _
        refine ⟨_, rfl, _, rfl, _, rfl, _, _, rfl, rfl, a, _, _, nV (ns[i - 1]'(by omega)), rfl, rfl, seqT (s2.trans s3) q, ?_, _, _, rfl, rfl, _, rfl, ?_⟩
        · rw [show (i : Int) - 1 = ((i - 1 : Nat) : Int) from by omega]
          refine atI_nat ?_
          rw [List.getElem?_map, hp]
          rfl
        · have := up (i - 1) _ ns[i] hp (by rw [show i - 1 + 1 = i from by omega]; exact hn)
          refine go_f (decide_eq_false (by omega)) ?_
          exact ⟨_, _, rfl, s2.trans s3⟩
      · refine go_f (decide_eq_false h0) ?_
        exact ⟨_, _, rfl, s2.trans s3⟩
    · rintro σ H1 ⟨u1, u2, rfl, s1⟩
      exact k H1 s1
def spVL (K : PySem.W.Frag) : Sp := fun vs H Q _ => ∃ (s : Nat) (v : V) (ns : List Nat), vs = [nV s, v] ∧ Dp K H v (rN ns) ∧ OkLs s ns ∧ ∀ H', Same H H' → Q (.bl true) H'
theorem scVL : FnScope ["size", "value"] ["size", "value"] (defScope sVL) := ⟨rfl, rfl, rfl, by decide +kernel, rfl, by decide +kernel, by decide +kernel⟩
theorem ok_vl {f fS fR : Addr} {fd fdS fdR : FuncData} (F : Fun K "is_value_list" "is_value_list" sVL f fd) (Z : Bi mg) (FS : At K mg "is_sequence" sSequence fS fdS ["value"]) (GS : FnOk P w K mg base CX0 1 fS fdS ["value"] (spB K isSq))
    (FR : At K mg "first_not_rising" sRise fR fdR ["many", "values"]) (GR : FnOk P w K mg base CX0 4 fR fdR ["many", "values"] (spRise K)) : FnOk P w K mg base CX0 5 f fd ["size", "value"] (spVL K) := by
  refine F.ok scVL (fun vs H Q E h => ?_) (fun cdv A outer sh H vs Q E hr h => ?_)
  · obtain ⟨s, v, ns, rfl, _⟩ := h
    rfl
  · obtain ⟨s, v, ns, rfl, hd, ok, k⟩ := h
    refine ⟨_, pss_one (ps_ret (pe_and (pe_call GS (hr.mono (by decide)) rfl FS.g FS.F.kp FS.b .nil pass0 (by exact (pa_cons (pv 1) pa_nil)))
      (pe_and (pe_cmpR op_gt (pe_callB call_len_seq (by rfl) Z.len PySem.boot_len (pa_cons (pv 1) pa_nil)) pe_int (nomark _))
      (pe_one (pe_cmpR op_isN (pe_call GR hr rfl FR.g FR.F.kp FR.b .nil pass0 (by exact (pa_cons (pv 0) (pa_cons (pv 1) pa_nil)))) pe_non (nomark _)))))), ?_⟩
    refine ⟨_, rfl, v, _, rfl, hd, fun H1 s1 => ⟨_, rfl, go_t rfl ?_⟩⟩
    have hd1 := dp_same s1 hd
    obtain ⟨a, xs, rfl, q, r⟩ := dp_tup hd1
    have lx : xs.length = ns.length := by rw [dpAll_len r, List.length_map]
    refine ⟨_, rfl, a, xs, rfl, .inr q, _, _, rfl, rfl, _, rfl, go_t (decide_eq_true (by have := ok.1; omega)) ?_⟩
    refine ⟨_, rfl, _, rfl, s, _, ns, rfl, hd1, ok, fun H2 s2 => ?_⟩
    exact ⟨rfl, k H2 (s1.trans s2)⟩
end
end K74
/-! readings, lines. -/
namespace K74
open PySem L2 FX SQ
/-- a thing of a tuple -/
theorem tupAt {K : PySem.W.Frag} {H : Hp} {v : V} {ds : List D} {i : Nat} {d : D} (h : Dp K H v (.tuple ds)) (e : ds[i]? = some d) : ∃ a xs u, v = .ref a ∧ SqT K H a xs ∧ atI xs (i : Nat) = some u ∧ Dp K H u d ∧ xs.length = ds.length := by
  obtain ⟨a, xs, rfl, q, r⟩ := dp_tup h
  obtain ⟨u, eu, hu⟩ := dpAll_at r e
  exact ⟨a, xs, u, rfl, q, atI_nat eu, hu, dpAll_len r⟩
theorem dp2 {K : PySem.W.Frag} {H : Hp} {v : V} {d e : D} (h : Dp K H v (.tuple [d, e])) : ∃ a x y, v = .ref a ∧ SqT K H a [x, y] ∧ Dp K H x d ∧ Dp K H y e := by
  obtain ⟨a, xs, rfl, q, r⟩ := dp_tup h
  cases r with
  | cons h0 r => cases r with
    | cons h1 r => cases r with
      | nil => exact ⟨a, _, _, rfl, q, h0, h1⟩
theorem dp3 {K : PySem.W.Frag} {H : Hp} {v : V} {d e f : D} (h : Dp K H v (.tuple [d, e, f])) : ∃ a x y z, v = .ref a ∧ SqT K H a [x, y, z] ∧ Dp K H x d ∧ Dp K H y e ∧ Dp K H z f := by
  obtain ⟨a, xs, rfl, q, r⟩ := dp_tup h
  cases r with
  | cons h0 r => cases r with
    | cons h1 r => cases r with
      | cons h2 r => cases r with
        | nil => exact ⟨a, _, _, _, rfl, q, h0, h1, h2⟩
theorem dp_str {K : PySem.W.Frag} {H : Hp} {v : V} {x : Str} (h : Dp K H v (.str x)) : v = .str x := by
  cases h
  rfl
theorem word_in (k : Nat) : decide (V.str (wordS k) = V.str "in") = (k == 0) := by
  match k with
  | 0 => decide +kernel
  | 1 => decide +kernel
  | n + 2 => rw [show wordS (n + 2) = "value" from rfl]; exact Eq.trans (by decide +kernel) (show false = (n + 2 == 0) from rfl)
theorem word_ln (k : Nat) : decide (V.str (wordS k) = V.str "line") = (k == 1) := by
  match k with
  | 0 => decide +kernel
  | 1 => decide +kernel
  | n + 2 => rw [show wordS (n + 2) = "value" from rfl]; exact Eq.trans (by decide +kernel) (show false = (n + 2 == 1) from rfl)
section
variable {P : Program} {w : World} {K : PySem.W.Frag} {mg : Str → Option Value} {base : Heap}
abbrev sRd : Stmt := top 21
abbrev sLn : Stmt := top 22
def spRd (K : PySem.W.Frag) : Sp := fun vs H Q _ => ∃ (s ins lines : Nat) (v : V) (r : Rd), vs = [nV s, nV ins, nV lines, v] ∧ Dp K H v (rdD r) ∧ OkRd s ins lines r ∧ ∀ H', Same H H' → Q (.bl true) H'
abbrev NRd : List Str := ["size", "inputs", "lines", "value", "word", "number"]
theorem scRd : FnScope NRd ["size", "inputs", "lines", "value"] (defScope sRd) := ⟨rfl, rfl, rfl, by decide +kernel, rfl, by decide +kernel, by decide +kernel⟩
theorem ok_rd {f fB fT : Addr} {fd fdB fdT : FuncData} (F : Fun K "is_reading" "is_reading" sRd f fd) (Z : Bi mg) (FB : At K mg "is_below" sBelow fB fdB ["many", "value"]) (GB : FnOk P w K mg base CX0 3 fB fdB ["many", "value"] (spB1 K isB))
    (FT : At K mg "is_tuple_of" sTup fT fdT ["many", "value"]) : FnOk P w K mg base CX0 4 f fd ["size", "inputs", "lines", "value"] (spRd K) := by
  have GT : FnOk P w K mg base CX0 1 fT fdT ["many", "value"] (spB1 K isTup) := ok_tup FT.F Z
  refine F.ok scRd (fun vs H Q E h => ?_) (fun cdv A outer sh H vs Q E hr h => ?_)
  · obtain ⟨s, i, l, v, r, rfl, _⟩ := h
    rfl
  · obtain ⟨s, ins, lines, v, ⟨k, n⟩, rfl, hd, ⟨k2, kn⟩, kk⟩ := h
    refine ⟨_, pss_cons (ps_if (pt_not (pt_val (pe_call GT (hr.mono (by decide)) rfl FT.g FT.F.kp FT.b .nil pass0 (by exact (pa_cons pe_int (pa_cons (pv 3) pa_nil)))))) pss_dead pss_nil)
      (pss_cons (ps_asg (pv 3) (pg_tup rfl (pgs_cons (pg_name (i := 4) scRd.nd rfl (Or.inl rfl)) (pgs_cons (pg_name (i := 5) scRd.nd rfl (Or.inl rfl)) pgs_nil))))
      (pss_cons (ps_if (pt_cmpR op_eq (pv 4) pe_str (nomark _)) (pss_one (ps_ret (pe_call GB hr rfl FB.g FB.F.kp FB.b .nil pass0 (by exact (pa_cons (pv 1) (pa_cons (pv 5) pa_nil)))))) pss_nil)
      (pss_one (ps_ret (pe_ifExp (pt_cmpR op_eq (pv 4) pe_str (nomark _)) (pe_call GB hr rfl FB.g FB.F.kp FB.b .nil pass0 (by exact (pa_cons (pv 2) (pa_cons (pv 5) pa_nil))))
        (pe_and (pe_cmpR op_eq (pv 4) pe_str (nomark _)) (pe_one (pe_call GB hr rfl FB.g FB.F.kp FB.b .nil pass0 (by exact (pa_cons (pv 0) (pa_cons (pv 5) pa_nil))))))))))), ?_⟩
    refine ⟨_, rfl, 2, v, _, rfl, hd, fun H1 s1 => ⟨_, rfl, go_f rfl ?_⟩⟩
    obtain ⟨a, x, y, rfl, q, hx, hy⟩ := dp2 (dp_same s1 hd)
    obtain rfl := dp_str hx
    obtain rfl := dp_nat hy
    refine ⟨_, rfl, a, _, rfl, q, rfl, _, _, rfl, _, _, rfl, rfl, ?_⟩
    refine ⟨_, rfl, rfl, _, rfl, ?_⟩
    rw [word_in]
    have fin : ∀ (m : Nat), n < m → ∀ H2, Same H1 H2 → Q (.bl (isB m (nD n))) H2 := fun m h H2 s2 => by
      rw [isB_n, decide_eq_true h]
      exact kk H2 (s1.trans s2)
    by_cases k0 : k = 0
    · rw [if_pos k0] at kn
      refine go_t (by rw [k0]; rfl) ?_
      exact ⟨_, rfl, _, rfl, _, _, nD n, rfl, .int _, fin _ kn⟩
    rw [if_neg k0] at kn
    refine go_f (by simpa using k0) ?_
    refine ⟨_, rfl, rfl, _, rfl, ?_⟩
    rw [word_ln]
    by_cases k1 : k = 1
    · rw [if_pos k1] at kn
      refine go_t (by rw [k1]; rfl) ?_
      exact ⟨_, rfl, _, rfl, _, _, nD n, rfl, .int _, fin _ kn⟩
    rw [if_neg k1] at kn
    refine go_f (by simpa using k1) ?_
    have k2' : k = 2 := by
      have : k ≤ 2 := k2
      omega
    subst k2'
    refine ⟨_, rfl, rfl, _, rfl, go_t (decide_eq_true rfl) ?_⟩
    exact ⟨_, rfl, _, rfl, _, _, nD n, rfl, .int _, fin _ kn⟩
def spLn (K : PySem.W.Frag) : Sp := fun vs H Q _ => ∃ (s ins at' : Nat) (ops : List (Nat × List Nat)) (b v : V) (l : Ln), vs = [b, nV ins, nV at', v] ∧ Dp K H b (bookD s ops) ∧ Dp K H v (lnD l) ∧ OkLn s ops ins at' l ∧ ∀ H', Same H H' → Q (.bl true) H'
abbrev NLn : List Str := ["book", "inputs", "lines", "value", "size", "operations", "reading"]
theorem scLn : FnScope NLn ["book", "inputs", "lines", "value"] (defScope sLn) := ⟨rfl, rfl, rfl, by decide +kernel, rfl, by decide +kernel, by decide +kernel⟩
theorem ok_ln {f fB fT fR : Addr} {fd fdB fdT fdR : FuncData} (F : Fun K "is_line" "is_line" sLn f fd) (Z : Bi mg) (FB : At K mg "is_below" sBelow fB fdB ["many", "value"]) (GB : FnOk P w K mg base CX0 3 fB fdB ["many", "value"] (spB1 K isB))
    (FT : At K mg "is_tuple_of" sTup fT fdT ["many", "value"]) (FR : At K mg "is_reading" sRd fR fdR ["size", "inputs", "lines", "value"]) (GR : FnOk P w K mg base CX0 4 fR fdR ["size", "inputs", "lines", "value"] (spRd K)) :
    FnOk P w K mg base CX0 5 f fd ["book", "inputs", "lines", "value"] (spLn K) := by
  have GT : FnOk P w K mg base CX0 1 fT fdT ["many", "value"] (spB1 K isTup) := ok_tup FT.F Z
  refine F.ok scLn (fun vs H Q E h => ?_) (fun cdv A outer sh H vs Q E hr h => ?_)
  · obtain ⟨s, i, l, o, v, r, _, rfl, _⟩ := h
    rfl
  · obtain ⟨s, ins, at', ops, b, v, ⟨o, rs⟩, rfl, hb, hd, ⟨⟨⟨p, as⟩, ho, hl, p3⟩, hrs⟩, kk⟩ := h
    refine ⟨_, pss_cons (ps_asg (pv 0) (pg_tup rfl (pgs_cons (pg_name (i := 4) scLn.nd rfl (Or.inr rfl)) (pgs_cons (pg_name (i := 5) scLn.nd rfl (Or.inl rfl)) pgs_nil))))
      (pss_cons (ps_if (PW.pt (pw_or (pt_not (pt_val (pe_call GT (hr.mono (by decide)) rfl FT.g FT.F.kp FT.b .nil pass0 (by exact (pa_cons pe_int (pa_cons (pv 3) pa_nil))))))
          (pw_or1 (pt_not (pt_val (pe_call GB (hr.mono (by decide)) rfl FB.g FB.F.kp FB.b .nil pass0 (by exact (pa_cons (pe_callB call_len_seq (by rfl) Z.len PySem.boot_len (pa_cons (pv 5) pa_nil)) (pa_cons (pe_ix ix_tup (pv 3) pe_int (fun _ _ => rfl)) pa_nil)))))))))
        pss_dead pss_nil)
      (pss_cons (ps_if (pt_not (pt_val (pe_call GT (hr.mono (by decide)) rfl FT.g FT.F.kp FT.b .nil pass0 (by exact (pa_cons (pe_ix ix_tup (pe_ix ix_tup (pv 5) (pe_ix ix_tup (pv 3) pe_int (fun _ _ => rfl)) (fun _ _ => rfl)) pe_int (fun _ _ => rfl)) (pa_cons (pe_ix ix_tup (pv 3) pe_int (fun _ _ => rfl)) pa_nil)))))) pss_dead pss_nil)
      (pss_one (ps_ret (pe_callB (cr_all rfl) (by rfl) Z.all (by decide +kernel) (pa_cons
        (pe_lc (own := [("reading", 6)]) (g := gName 6) (tt := tYes) (te := tCall (spRd K) [] E0 (tCons (tVar 4) (tCons (tVar 1) (tCons (tVar 2) (tCons (tVar 6) tNil))))) rfl scLn.nd (pi_tup (pe_ix ix_tup (pv 3) pe_int (fun _ _ => rfl)))
          (blkOk_by (N := NLn) (sc := defScope sLn) (by decide +kernel)) (fun _ _ _ _ _ => pg_name (i := 6) scLn.nd rfl (Or.inl rfl)) (fun _ _ _ _ _ => pts_nil)
          (fun _ _ _ _ _ => pe_call GR (hr.mono (by decide)) (by rfl) FR.g FR.F.kp FR.b .nil pass0 (by exact (pa_cons (pv 4) (pa_cons (pv 1) (pa_cons (pv 2) (pa_cons (pv 6) pa_nil))))))) pa_nil)))))), ?_⟩
    obtain ⟨ab, x, y, rfl, qb, hx, hy⟩ := dp2 hb
    obtain rfl := dp_nat hx
    refine ⟨_, rfl, ab, _, rfl, qb, rfl, _, _, rfl, _, _, rfl, rfl, ?_⟩
    refine ⟨_, rfl, 2, v, _, rfl, hd, fun H1 s1 => ⟨_, rfl, go_f rfl ?_⟩⟩
    obtain ⟨av, x1, y1, rfl, qv, hx1, hy1⟩ := dp2 hd
    obtain rfl := dp_nat hx1
    obtain ⟨ao, xo, rfl, qo, ro⟩ := dp_tup hy
    obtain ⟨ar, xr, rfl, qr, rr⟩ := dp_tup hy1
    have lo : xo.length = ops.length := by rw [dpAll_len ro, List.length_map]
    have lr : xr.length = rs.length := by rw [dpAll_len rr, List.length_map]
    have ol := (List.getElem?_eq_some_iff.mp ho).1
    refine ⟨_, rfl, ao, xo, rfl, .inr (seqT s1 qo), _, rfl, av, _, _, _, rfl, rfl, seqT s1 qv, atI_nat (j := 0) rfl, _, _, nD o, rfl, .int _, fun H2 s2 => ⟨_, rfl, ?_⟩⟩
    refine go_f (by rw [lo, isB_n, decide_eq_true ol]; rfl) ?_
    have s02 := s1.trans s2
    obtain ⟨_, xo', uo, e1, qo', eo, hu, _⟩ := tupAt (i := o) (d := opN (p, as)) hy (by rw [List.getElem?_map, ho]; rfl)
    cases e1
    obtain ⟨au, x2, y2, rfl, qu, hx2, hy2⟩ := dp2 hu
    obtain rfl := dp_nat hx2
    refine ⟨_, rfl, _, rfl, av, _, _, _, rfl, rfl, seqT s02 qv, atI_nat (j := 0) rfl, ao, _, _, _, rfl, rfl, seqT s02 qo', eo, au, _, _, _, rfl, rfl, seqT s02 qu, atI_nat (j := 0) rfl, _, rfl, av, _, _, _, rfl, rfl, seqT s02 qv, atI_nat (j := 1) rfl, _, _, _, rfl, dp_same s02 hy1, fun H3 s3 => ⟨_, rfl, ?_⟩⟩
    have eT : isTup ((p : Nat) : Int) (.tuple (rs.map rdD)) = true := by
      show (true && decide (((rs.map rdD).length : Int) = (p : Nat))) = true
      rw [List.length_map, show rs.length = p from hl]
      simp
    refine go_f (by rw [eT]; rfl) ?_
    have s03 := s02.trans s3
    refine ⟨_, rfl, av, _, _, _, rfl, rfl, seqT s03 qv, atI_nat (j := 1) rfl, ar, rfl, ⟨_, seqT s03 qr⟩, fun D hD => walk_it walk_tup (fun i H' => Same H3 H' ∧ H' D = some (.lst ((rs.take i).map fun _ => V.bl true))) ⟨same_new hD, upd_same⟩ (fun i H' _ p => seqT (s03.trans p.1) qr) ?_ ?_⟩
    · rintro i x _ H4 hi ⟨s4, eD⟩ ⟨rfl, hx⟩
      refine ⟨rfl, ?_⟩
      obtain ⟨dx, hdx, hxd⟩ := dpAll_get rr hx
      rw [List.getElem?_map] at hdx
      obtain ⟨r, hr1, rfl⟩ := Option.map_eq_some_iff.mp hdx
      refine ⟨_, rfl, _, rfl, _, rfl, _, rfl, s, ins, at', x, r, rfl, dp_same (s03.trans s4) hxd, hrs r (List.mem_of_getElem? hr1), fun H5 s5 => ?_⟩
      refine ⟨_, s5 _ _ eD, ?_, same_of (s4.trans s5) hD, ?_⟩
      · have : rs.length = p := hl
        rw [List.length_map, List.length_take, sizeLine_eq]
        omega
      · rw [upd_same, take_more hr1, List.map_append]
        rfl
    · rintro H4 ⟨s4, eD⟩
      rw [lr, List.take_length] at eD
      refine ⟨D, rs.map fun _ => true, rfl, ?_, ?_⟩
      · rw [List.map_map]
        exact SqL.of eD
      · rw [show ((rs.map fun _ => true).all id) = true from by rw [List.all_map, List.all_eq_true]; exact fun _ _ => rfl]
        exact kk H4 (s03.trans s4)
end
end K74
/-! cuts. -/
namespace K74
open PySem L2 FX SQ
abbrev rLenS (K : PySem.W.Frag) : List V → Hp → VK → Prop := fun xs H Q => ∃ p ys, xs = [.ref p] ∧ (SqL K H p ys ∨ SqT K H p ys) ∧ Q (.int ys.length) H
theorem all_true {α : Type} (l : List α) : ((l.map fun _ => true).all id) = true := by
  rw [List.all_map, List.all_eq_true]
  exact fun _ _ => rfl
section
variable {P : Program} {w : World} {K : PySem.W.Frag} {mg : Str → Option Value} {base : Heap} {B cB iB cC iC : Addr}
abbrev sCF : Stmt := top 23
abbrev sNC : Stmt := top 24
def ScC (s : Nat) (ops : List (Nat × List Nat)) (d : D) (k : V → Prop) : Prop := (isTup 3 d = false ∧ k (.int (-1))) ∨
  ∃ c x, d = .tuple [.tuple (c.lists.map rN), .tuple (c.lines.map lnD), x] ∧ OkCut s ops c ∧ ((isT x = false ∧ k (.int 2)) ∨ (x = .tuple (c.ends.map rdD) ∧ k .non))
theorem ScC.imp {s : Nat} {ops : List (Nat × List Nat)} {d : D} {k k' : V → Prop} (f : ∀ v, k v → k' v) (h : ScC s ops d k) : ScC s ops d k' :=
  Or.imp (fun ⟨a, b⟩ => ⟨a, f _ b⟩) (fun ⟨c, x, e, o, q⟩ => ⟨c, x, e, o, Or.imp (fun ⟨a, b⟩ => ⟨a, f _ b⟩) (fun ⟨a, b⟩ => ⟨a, f _ b⟩) q⟩) h
def spCF (K : PySem.W.Frag) : Sp := fun vs H Q _ => ∃ (s : Nat) (ops : List (Nat × List Nat)) (b v : V) (d : D), vs = [b, v] ∧ Dp K H b (bookD s ops) ∧ Dp K H v d ∧ ScC s ops d (fun u => ∀ H', Same H H' → Q u H')
abbrev NCF : List Str := ["book", "value", "lists", "lines", "ends", "values", "at", "line", "end"]
theorem scCF : FnScope NCF ["book", "value"] (defScope sCF) := ⟨rfl, rfl, rfl, by decide +kernel, rfl, by decide +kernel, by decide +kernel⟩
theorem kT {K : PySem.W.Frag} (d : D) : PySem.W.kitOne K (.type (tyN d)) (.type "tuple") = some (isT d) := by
  rw [kTuple d]
  cases d <;> rfl
theorem ok_cf {f fT fV fL fR : Addr} {fd fdT fdV fdL fdR : FuncData} (F : Fun K "cut_fault" "cut_fault" sCF f fd) (Z : Bi mg) (FT : At K mg "is_tuple_of" sTup fT fdT ["many", "value"])
    (FV : At K mg "is_value_list" sVL fV fdV ["size", "value"]) (GV : FnOk P w K mg base CX0 5 fV fdV ["size", "value"] (spVL K))
    (FL : At K mg "is_line" sLn fL fdL ["book", "inputs", "lines", "value"]) (GL : FnOk P w K mg base CX0 5 fL fdL ["book", "inputs", "lines", "value"] (spLn K))
    (FR : At K mg "is_reading" sRd fR fdR ["size", "inputs", "lines", "value"]) (GR : FnOk P w K mg base CX0 4 fR fdR ["size", "inputs", "lines", "value"] (spRd K)) :
    FnOk P w K mg base CX0 6 f fd ["book", "value"] (spCF K) := by
  have GT : FnOk P w K mg base CX0 1 fT fdT ["many", "value"] (spB1 K isTup) := ok_tup FT.F Z
  refine F.ok scCF (fun vs H Q E h => ?_) (fun cdv A outer sh H vs Q E hr h => ?_)
  · obtain ⟨s, i, l, o, v, rfl, _⟩ := h
    rfl
  · obtain ⟨s, ops, b, v, d, rfl, hb, hd, sc⟩ := h
    refine ⟨_, pss_cons (ps_if (pt_not (pt_val (pe_call GT (hr.mono (by decide)) rfl FT.g FT.F.kp FT.b .nil pass0 (by exact (pa_cons pe_int (pa_cons (pv 1) pa_nil)))))) (pss_one (ps_ret (pe_un un_neg pe_int))) pss_nil)
      (pss_cons (ps_asg (pv 1) (pg_tup rfl (pgs_cons (pg_name (i := 2) scCF.nd rfl (Or.inr rfl)) (pgs_cons (pg_name (i := 3) scCF.nd rfl (Or.inr rfl)) (pgs_cons (pg_name (i := 4) scCF.nd rfl (Or.inl rfl)) pgs_nil)))))
      (pss_cons (ps_if (pt_not (pt_val (pe_callB call_isi (by rfl) Z.isinstance (by decide +kernel) (pa_cons (pv 2) (pa_cons (pe_bltn (v := .ty "tuple") (by rfl) Z.tuple (by decide +kernel) rfl) pa_nil))))) pss_dead pss_nil)
      (pss_cons (ps_if (pt_not (pt_val (pe_callB (cr_all rfl) (by rfl) Z.all (by decide +kernel) (pa_cons
        (pe_lc (own := [("values", 5)]) (g := gName 5) (tt := tYes) (te := tAndV (tCB (rIsi K) (tCons (tVar 5) (tCons (tC (.ty "tuple")) tNil))) (tCall (spVL K) [] E0 (tCons (tOp (rIxT K) (tVar 0) (tC (.int 0))) (tCons (tVar 5) tNil)))) rfl scCF.nd (pi_tup (pv 2))
          (blkOk_by (N := NCF) (sc := defScope sCF) (by decide +kernel)) (fun _ _ _ _ _ => pg_name (i := 5) scCF.nd rfl (Or.inl rfl)) (fun _ _ _ _ _ => pts_nil)
          (fun _ _ _ _ _ => pe_and (pe_callB call_isi (by rfl) Z.isinstance (by decide +kernel) (pa_cons (pv 5) (pa_cons (pe_bltn (v := .ty "tuple") (by rfl) Z.tuple (by decide +kernel) rfl) pa_nil)))
            (pe_one (pe_call GV (hr.mono (by decide)) (by rfl) FV.g FV.F.kp FV.b .nil pass0 (by exact (pa_cons (pe_ix ix_tup (pv 0) pe_int (fun _ _ => rfl)) (pa_cons (pv 5) pa_nil))))))) pa_nil)))) pss_dead pss_nil)
      (pss_cons (ps_if (pt_not (pt_val (pe_callB call_isi (by rfl) Z.isinstance (by decide +kernel) (pa_cons (pv 3) (pa_cons (pe_bltn (v := .ty "tuple") (by rfl) Z.tuple (by decide +kernel) rfl) pa_nil))))) pss_dead pss_nil)
      (pss_cons (ps_if (pt_not (pt_val (pe_callB (cr_all rfl) (by rfl) Z.all (by decide +kernel) (pa_cons
        (pe_lc (own := [("at", 6), ("line", 7)]) (g := gTup K 2 (gCons (gName 6) (gCons (gName 7) gNil))) (tt := tYes) (te := tCall (spLn K) [] E0 (tCons (tVar 0) (tCons (tCB (rLenS K) (tCons (tVar 2) tNil)) (tCons (tVar 6) (tCons (tVar 7) tNil))))) rfl scCF.nd (pi_enum2 (by rfl) Z.enumerate (pa_cons (pv 3) pa_nil))
          (blkOk_by (N := NCF) (sc := defScope sCF) (by decide +kernel)) (fun _ _ _ _ _ => pg_tup rfl (pgs_cons (pg_name (i := 6) scCF.nd rfl (Or.inl rfl)) (pgs_cons (pg_name (i := 7) scCF.nd rfl (Or.inl rfl)) pgs_nil))) (fun _ _ _ _ _ => pts_nil)
          (fun _ _ _ _ _ => pe_call GL (hr.mono (by decide)) (by rfl) FL.g FL.F.kp FL.b .nil pass0 (by exact (pa_cons (pv 0) (pa_cons (pe_callB call_len_seq (by rfl) Z.len PySem.boot_len (pa_cons (pv 2) pa_nil)) (pa_cons (pv 6) (pa_cons (pv 7) pa_nil))))))) pa_nil)))) pss_dead pss_nil)
      (pss_cons (ps_if (pt_not (pt_val (pe_callB call_isi (by rfl) Z.isinstance (by decide +kernel) (pa_cons (pv 4) (pa_cons (pe_bltn (v := .ty "tuple") (by rfl) Z.tuple (by decide +kernel) rfl) pa_nil))))) (pss_one (ps_ret pe_int)) pss_nil)
      (pss_one (ps_ret (pe_ifExp (pt_val (pe_callB (cr_all rfl) (by rfl) Z.all (by decide +kernel) (pa_cons
        (pe_lc (own := [("end", 8)]) (g := gName 8) (tt := tYes) (te := tCall (spRd K) [] E0 (tCons (tOp (rIxT K) (tVar 0) (tC (.int 0))) (tCons (tCB (rLenS K) (tCons (tVar 2) tNil)) (tCons (tCB (rLenS K) (tCons (tVar 3) tNil)) (tCons (tVar 8) tNil))))) rfl scCF.nd (pi_tup (pv 4))
          (blkOk_by (N := NCF) (sc := defScope sCF) (by decide +kernel)) (fun _ _ _ _ _ => pg_name (i := 8) scCF.nd rfl (Or.inl rfl)) (fun _ _ _ _ _ => pts_nil)
          (fun _ _ _ _ _ => pe_call GR (hr.mono (by decide)) (by rfl) FR.g FR.F.kp FR.b .nil pass0 (by exact (pa_cons (pe_ix ix_tup (pv 0) pe_int (fun _ _ => rfl)) (pa_cons (pe_callB call_len_seq (by rfl) Z.len PySem.boot_len (pa_cons (pv 2) pa_nil)) (pa_cons (pe_callB call_len_seq (by rfl) Z.len PySem.boot_len (pa_cons (pv 3) pa_nil)) (pa_cons (pv 8) pa_nil))))))) pa_nil))) pe_non pe_dead))))))))), ?_⟩
    refine ⟨_, rfl, 3, v, d, rfl, hd, fun H1 s1 => ⟨_, rfl, ?_⟩⟩
    rcases sc with ⟨e, k⟩ | ⟨c, x, rfl, ok, sc⟩
    · refine go_t (by rw [e]; rfl) ?_
      exact ⟨_, rfl, k H1 s1⟩
    refine go_f rfl ?_
    obtain ⟨av, v1, v2, v3, rfl, qv, h1, h2, h3⟩ := dp3 (dp_same s1 hd)
    obtain ⟨ab, x0, y0, rfl, qb, hx, hy⟩ := dp2 (dp_same s1 hb)
    obtain rfl := dp_nat hx
    have hb1 := dp_same s1 hb
    obtain ⟨a1, x1, rfl, q1, r1⟩ := dp_tup h1
    obtain ⟨a2, x2, rfl, q2, r2⟩ := dp_tup h2
    have l1 : x1.length = c.lists.length := by rw [dpAll_len r1, List.length_map]
    have l2 : x2.length = c.lines.length := by rw [dpAll_len r2, List.length_map]
    refine ⟨_, rfl, av, _, rfl, qv, rfl, _, _, rfl, _, _, rfl, _, _, rfl, rfl, ?_⟩
    refine ⟨_, rfl, _, _, _, _, _, rfl, .ty "tuple", ty_data h1, kT _, _, rfl, go_f rfl ?_⟩
    refine ⟨_, rfl, a1, rfl, ⟨_, q1⟩, fun D hD => walk_it walk_tup (fun i H' => Same H1 H' ∧ H' D = some (.lst ((c.lists.take i).map fun _ => V.bl true))) ⟨same_new hD, upd_same⟩ (fun i H' _ p => seqT p.1 q1) ?_ ?_⟩
    · rintro i x _ H4 hi ⟨s4, eD⟩ ⟨rfl, hx⟩
      refine ⟨rfl, ?_⟩
      obtain ⟨dx, hdx, hxd⟩ := dpAll_get r1 hx
      rw [List.getElem?_map] at hdx
      obtain ⟨ns, hn, rfl⟩ := Option.map_eq_some_iff.mp hdx
      refine ⟨_, rfl, _, _, _, _, _, rfl, .ty "tuple", ty_data (dp_same s4 hxd), kT _, _, rfl, go_t rfl ?_⟩
      refine ⟨_, rfl, ab, _, _, _, rfl, rfl, seqT s4 qb, atI_nat (j := 0) rfl, _, rfl, s, x, ns, rfl, dp_same s4 hxd, ok.lists ns (List.mem_of_getElem? hn), fun H5 s5 => ?_⟩
      refine ⟨_, s5 _ _ eD, ?_, same_of (s4.trans s5) hD, ?_⟩
      · have := ok.l8
        rw [List.length_map, List.length_take, sizeLine_eq]
        omega
      · rw [upd_same, take_more hn, List.map_append]
        rfl
    rintro H2 ⟨s2, eD⟩
    rw [l1, List.take_length] at eD
    refine ⟨D, c.lists.map fun _ => true, rfl, (by rw [List.map_map]; exact SqL.of eD), _, rfl, go_f (by rw [all_true]; rfl) ?_⟩
    clear eD
    refine ⟨_, rfl, _, _, _, _, _, rfl, .ty "tuple", ty_data (dp_same s2 h2), kT _, _, rfl, go_f rfl ?_⟩
    refine ⟨_, rfl, a2, x2, .T, rfl, seqT s2 q2, fun D hD => walk_it (walk_enum2 (k := .T) (a := a2) (xs := x2) (n := x2.length) rfl) (fun i H' => Same H2 H' ∧ H' D = some (.lst ((c.lines.take i).map fun _ => V.bl true))) ⟨same_new hD, upd_same⟩ (fun i H' _ p => seqT (s2.trans p.1) q2) ?_ ?_⟩
    · rintro i x H4 H5 hi ⟨s4, eD⟩ ⟨t, y1, y2, rfl, ht, rfl, hy1, hy2⟩
      obtain rfl : y1 = .int (i : Nat) := (Option.some.inj hy1).symm
      obtain ⟨dx, hdx, hxd⟩ := dpAll_get r2 hy2
      rw [List.getElem?_map] at hdx
      obtain ⟨l, hl, rfl⟩ := Option.map_eq_some_iff.mp hdx
      have s5 := same_new (o := .tup [.int (i : Nat), y2]) ht
      have s15 := s2.trans (s4.trans s5)
      refine ⟨t, _, rfl, SqT.of upd_same, rfl, _, _, rfl, _, _, rfl, rfl, rfl, _, rfl, _, rfl, a1, x1, rfl, .inr (seqT s15 q1), _, rfl, _, rfl, s, x1.length, i, ops, _, y2, l, rfl, dp_same s15 hb1, dp_same s15 hxd, by rw [l1]; exact ok.lines i l hl, fun H6 s6 => ?_⟩
      refine ⟨_, s6 _ _ (s5 _ _ eD), ?_, same_of ((s4.trans s5).trans s6) hD, ?_⟩
      · have := ok.n8
        rw [List.length_map, List.length_take, sizeLine_eq]
        omega
      · rw [upd_same, take_more hl, List.map_append]
        rfl
    rintro H3 ⟨s3, eD⟩
    rw [l2, List.take_length] at eD
    refine ⟨_, c.lines.map fun _ => true, rfl, (by rw [List.map_map]; exact SqL.of eD), _, rfl, go_f (by rw [all_true]; rfl) ?_⟩
    clear eD
    have s13 := s2.trans s3
    refine ⟨_, rfl, _, _, _, _, _, rfl, .ty "tuple", ty_data (dp_same s13 h3), kT _, _, rfl, ?_⟩
    rcases sc with ⟨e, k⟩ | ⟨rfl, k⟩
    · refine go_t (by rw [e]; rfl) ?_
      exact k H3 (s1.trans s13)
    refine go_f rfl ?_
    obtain ⟨a3, x3, rfl, q3, r3⟩ := dp_tup h3
    have l3 : x3.length = c.ends.length := by rw [dpAll_len r3, List.length_map]
    refine ⟨_, rfl, a3, rfl, ⟨_, seqT s13 q3⟩, fun D hD => walk_it walk_tup (fun i H' => Same H3 H' ∧ H' D = some (.lst ((c.ends.take i).map fun _ => V.bl true))) ⟨same_new hD, upd_same⟩ (fun i H' _ p => seqT (s13.trans p.1) q3) ?_ ?_⟩
    · rintro i x _ H4 hi ⟨s4, eD⟩ ⟨rfl, hx⟩
      refine ⟨rfl, ?_⟩
      obtain ⟨dx, hdx, hxd⟩ := dpAll_get r3 hx
      rw [List.getElem?_map] at hdx
      obtain ⟨r, hr1, rfl⟩ := Option.map_eq_some_iff.mp hdx
      have s14 := s13.trans s4
      refine ⟨_, rfl, ab, _, _, _, rfl, rfl, seqT s14 qb, atI_nat (j := 0) rfl, _, rfl, a1, x1, rfl, .inr (seqT s14 q1), _, rfl, a2, x2, rfl, .inr (seqT s14 q2), _, rfl, s, x1.length, x2.length, x, r, rfl, dp_same s14 hxd, by rw [l1, l2]; exact ok.ends r (List.mem_of_getElem? hr1), fun H5 s5 => ?_⟩
      refine ⟨_, s5 _ _ eD, ?_, same_of (s4.trans s5) hD, ?_⟩
      · have := ok.e8
        rw [List.length_map, List.length_take, sizeLine_eq]
        omega
      · rw [upd_same, take_more hr1, List.map_append]
        rfl
    rintro H4 ⟨s4, eD⟩
    rw [l3, List.take_length] at eD
    refine ⟨_, c.ends.map fun _ => true, rfl, (by rw [List.map_map]; exact SqL.of eD), _, rfl, go_t (all_true _) ?_⟩
    exact k H4 ((s1.trans s13).trans s4)
def spNC (K : PySem.W.Frag) (cC : Addr) : Sp := fun vs H Q E => ∃ (s : Nat) (ops : List (Nat × List Nat)) (b v : V) (d : D), vs = [b, v] ∧ Dp K H b (bookD s ops) ∧ Dp K H v d ∧
  ScC s ops d (fun u => (u = .non ∧ ∀ H', Same H H' → Q v H') ∨ (u ≠ .non ∧ Thr cC "at" u H E))
theorem scNC : FnScope ["book", "value", "fault"] ["book", "value"] (defScope sNC) := ⟨rfl, rfl, rfl, by decide +kernel, rfl, by decide +kernel, by decide +kernel⟩
theorem ok_nc {f fF : Addr} {fd fdF : FuncData} (F : Fun K "need_cut" "need_cut" sNC f fd) (T : Ers K mg B cB iB cC iC) (FF : At K mg "cut_fault" sCF fF fdF ["book", "value"]) (GF : FnOk P w K mg base CX0 6 fF fdF ["book", "value"] (spCF K)) :
    FnOk P w K mg base (L2.CX P w) 7 f fd ["book", "value"] (spNC K cC) := by
  refine F.okX scNC (fun vs H Q E h => ?_) (fun cdv A outer sh H vs Q E hr h => ?_)
  · obtain ⟨s, i, l, o, v, rfl, _⟩ := h
    rfl
  · obtain ⟨s, ops, b, v, d, rfl, hb, hd, sc⟩ := h
    refine ⟨_, pss_cons (ps_set (i := 2) scNC.nd rfl (Or.inl rfl) (pe_call GF hr rfl FF.g FF.F.kp FF.b .nil pass0 (by exact (pa_cons (pv 0) (pa_cons (pv 1) pa_nil)))))
      (pss_cons (ps_if (pt_cmpR op_notN (pv 2) pe_non (nomark _)) (pss_one (ps_err rfl T.c.T T.c.U hr (takes_of rfl rfl rfl rfl) (by exact (pa_cons (pv 2) pa_nil)))) pss_nil)
      (pss_one (ps_ret (pv 1)))), ?_⟩
    refine ⟨_, rfl, _, rfl, s, ops, b, v, d, rfl, hb, hd, sc.imp fun u hu H1 s1 => ?_⟩
    refine ⟨_, rfl, rfl, _, rfl, ?_⟩
    rcases hu with ⟨rfl, k⟩ | ⟨ne, k⟩
    · refine go_f rfl ?_
      exact ⟨_, rfl, k H1 s1⟩
    · refine go_t ?_ ?_
      · cases u with
        | non => exact absurd rfl ne
        | bl _ | int _ | str _ | ref _ | _ => rfl
      · exact ⟨_, rfl, _, rfl, fun d' hd' => k H1 d' s1 hd'⟩
end
end K74
/-! the least, the greatest, the sum of a tuple of ints. -/
namespace SQ
open PySem PySem.Spec PyProof.Rows L2
theorem alikeI : ∀ ns : List Int, PySem.W.AlikeAll (ns.map PyData.int) := fun ns =>
  ⟨fun x hx y hy => by
    obtain ⟨a, _, rfl⟩ := List.mem_map.mp hx
    obtain ⟨b, _, rfl⟩ := List.mem_map.mp hy
    rfl, fun x hx => by
    obtain ⟨a, _, rfl⟩ := List.mem_map.mp hx
    intro z
    cases z⟩
theorem depthI : ∀ ns : List Int, PyData.depthAll (ns.map PyData.int) ≤ 1
  | [] => by decide
  | n :: r => by
    have := depthI r
    simp [PyData.depthAll, PyData.depth]
    omega
theorem dpI {K : PySem.W.Frag} {H : Hp} : ∀ ns : List Int, DpAll K H (ns.map V.int) (ns.map PyData.int)
  | [] => .nil
  | n :: r => .cons (.int n) (dpI r)
def rPickT (K : PySem.W.Frag) (f : Int → Int → Int) : List V → Hp → VK → Prop := fun vs H Q => ∃ (a : Addr) (n : Int) (ns : List Int), vs = [.ref a] ∧ SqT K H a ((n :: ns).map V.int) ∧ Q (.int (ns.foldl f n)) H
theorem cr_minTI {X : Cx} (hc : X.calm = true) (hu : X.A.units + 65 < cLine) : CallR X (.builtin "min") (rPickT X.K min) := by
  intro pins s σ H vs us Q I r h
  obtain ⟨a, n, ns, rfl, hs, q⟩ := h
  obtain ⟨its, rv, hl, _⟩ := I.tuple hs
  rw [Vals.ref1 r]
  obtain ⟨as, hr⟩ := Dp.readsAll I _ _ its (dpI (n :: ns)) rv
  have hd := depthI (n :: ns)
  refine PySem.W.min_tuple_data (x := .int n) (xs := ns.map PyData.int) (as := as) (I.ok.hd hc) hl hr (alikeI (n :: ns)) (by
    have : PyData.depthAll (PyData.int n :: ns.map PyData.int) ≤ 1 := hd
    omega) fun i v h' tk bs hv hrd hk => ?_
  rw [PySem.W.minD_ints] at hrd
  obtain ⟨t, rfl⟩ : ∃ t, v = .int (ns.foldl min n) t := by
    cases hrd
    exact ⟨_, rfl⟩
  exact ⟨.int _, H, I.kept hk, ⟨t, rfl⟩, q⟩
theorem cr_maxTI {X : Cx} (hc : X.calm = true) (hu : X.A.units + 65 < cLine) : CallR X (.builtin "max") (rPickT X.K max) := by
  intro pins s σ H vs us Q I r h
  obtain ⟨a, n, ns, rfl, hs, q⟩ := h
  obtain ⟨its, rv, hl, _⟩ := I.tuple hs
  rw [Vals.ref1 r]
  obtain ⟨as, hr⟩ := Dp.readsAll I _ _ its (dpI (n :: ns)) rv
  have hd := depthI (n :: ns)
  refine PySem.W.max_tuple_data (x := .int n) (xs := ns.map PyData.int) (as := as) (I.ok.hd hc) hl hr (alikeI (n :: ns)) (by
    have : PyData.depthAll (PyData.int n :: ns.map PyData.int) ≤ 1 := hd
    omega) fun i v h' tk bs hv hrd hk => ?_
  rw [PySem.W.maxD_ints] at hrd
  obtain ⟨t, rfl⟩ : ∃ t, v = .int (ns.foldl max n) t := by
    cases hrd
    exact ⟨_, rfl⟩
  exact ⟨.int _, H, I.kept hk, ⟨t, rfl⟩, q⟩
def rSumT (K : PySem.W.Frag) : List V → Hp → VK → Prop := fun vs H Q => ∃ (a : Addr) (ns : List Int), vs = [.ref a] ∧ SqT K H a (ns.map V.int) ∧ Q (.int ns.sum) H
theorem cr_sumT {X : Cx} (hc : X.calm = true) : CallR X (.builtin "sum") (rSumT X.K) := by
  intro pins s σ H vs us Q I r h
  obtain ⟨a, ns, rfl, hs, q⟩ := h
  obtain ⟨its, rv, hl, _⟩ := I.tuple hs
  rw [Vals.ref1 r]
  obtain ⟨xs, e⟩ := rv.ints.allInts.items
  have hn : numsOf (intItems xs).toList = ns := by rw [← e]; exact rv.ints.numsOf
  rw [nums_intItems] at hn
  rw [e] at hl
  refine PySem.W.ktm_sumG (I.ok.hd hc) hl fun h' tk t' hk => ⟨.int ns.sum, H, I.kept hk, ⟨t', ?_⟩, q⟩
  rw [preSum_eq, List.take_of_length_le (by simp), hn]
end SQ
/-! max(.., default=d) of a list of ints. -/
namespace SQ
open PySem PySem.Spec PyProof.Rows L2
def maxI (d : Int) : List Int → Int
  | [] => d
  | n :: r => r.foldl max n
def rMaxDef (K : PySem.W.Frag) : List V → List V → Hp → VK → Prop := fun vs zs H Q => ∃ (a : Addr) (d : Int) (ns : List Int), vs = [V.ref a] ∧ zs = [.int d] ∧ SqL K H a (ns.map V.int) ∧ Q (.int (maxI d ns)) H
theorem cr_maxDef {X : Cx} (hc : X.calm = true) (hu : X.A.units + 65 < cLine) : CallRK X (.builtin "max") [Str.ofString "default"] (rMaxDef X.K) := by
  intro pins s σ H vs zs us ws Q I r rz h
  obtain ⟨a, d, ns, rfl, rfl, hs, q⟩ := h
  obtain rfl := Vals.ref1 r
  obtain ⟨w1, rfl, e1⟩ := vals1 rz
  obtain ⟨its, rv, hl, hz⟩ := I.list hs
  obtain ⟨as, hr⟩ := Dp.readsAll I _ _ its (dpI ns) rv
  have hd := depthI ns
  refine PySem.W.max_list_default (xs := ns.map PyData.int) (as := as) (d := w1) (I.ok.hd hc) hl.isList hr (alikeI ns) (by omega) ?_ ?_
  · intro e h' tk hk
    have e0 : ns = [] := by simpa using e
    subst e0
    exact ⟨.int d, H, I.kept hk, e1, q⟩
  · intro y ys i v h' tk bs e hv hrd hk
    cases ns with
    | nil => cases e
    | cons n r =>
      rw [List.map_cons] at e
      obtain ⟨rfl, rfl⟩ := List.cons.inj e
      rw [PySem.W.maxD_ints] at hrd
      obtain ⟨t, rfl⟩ : ∃ t, v = .int (r.foldl max n) t := by
        cases hrd
        exact ⟨_, rfl⟩
      exact ⟨.int _, H, I.kept hk, ⟨t, rfl⟩, q⟩
end SQ
/-! where lines are read last. -/
namespace K74
open PySem L2 FX SQ
def putR (i : Nat) (rs : List Rd) (l : List Nat) : List Nat := rs.foldl (fun l r => if r.1 = 1 then l.set r.2 i else l) l
def lastA (c : Cut) : Nat → List Nat
  | 0 => List.range c.lines.length
  | i + 1 => match c.lines[i]? with
    | some ln => putR i ln.2 (lastA c i)
    | none => lastA c i
def lastF (c : Cut) : List Nat := putR c.lines.length c.ends (lastA c c.lines.length)
theorem putR_len {i : Nat} : ∀ (rs : List Rd) (l : List Nat), (putR i rs l).length = l.length
  | [], l => rfl
  | r :: rs, l => by
    show (putR i rs (if r.1 = 1 then l.set r.2 i else l)).length = _
    rw [putR_len rs]
    by_cases h : r.1 = 1
    · rw [if_pos h, List.length_set]
    · rw [if_neg h]
theorem putR_snoc {i : Nat} {rs : List Rd} {r : Rd} {l : List Nat} : putR i (rs ++ [r]) l = if r.1 = 1 then (putR i rs l).set r.2 i else putR i rs l := by
  unfold putR
  rw [List.foldl_append]
  rfl
theorem lastA_len (c : Cut) : ∀ i, (lastA c i).length = c.lines.length
  | 0 => List.length_range
  | i + 1 => by
    have ih := lastA_len c i
    show (match c.lines[i]? with | some ln => putR i ln.2 (lastA c i) | none => lastA c i).length = _
    cases c.lines[i]? with
    | none => exact ih
    | some ln => exact (putR_len _ _).trans ih
theorem lastF_len (c : Cut) : (lastF c).length = c.lines.length := (putR_len _ _).trans (lastA_len c _)
theorem ixN_nat {n k : Nat} (h : k < n) : ixN n (k : Int) = some k := by
  unfold ixN
  rw [if_pos (by omega), if_pos (by omega), Int.toNat_natCast]
theorem set_n {l : List Nat} {k i : Nat} : (l.map nV).set k (nV i) = (l.set k i).map nV := by
  rw [List.map_set]
theorem rg0 (n : Nat) : rgV 0 (n : Int) = (List.range n).map nV := by
  unfold rgV
  rw [Int.sub_zero, Int.toNat_natCast]
  exact List.map_congr_left fun i _ => by rw [Int.zero_add]
section
variable {P : Program} {w : World} {K : PySem.W.Frag} {mg : Str → Option Value} {base : Heap} {B cB iB cC iC : Addr}
abbrev sLast : Stmt := top 26
def spLast (K : PySem.W.Frag) : Sp := fun vs H Q _ => ∃ (s : Nat) (ops : List (Nat × List Nat)) (v : V) (c : Cut), vs = [v] ∧ Dp K H v (cutD c) ∧ OkCut s ops c ∧ ∀ H' p, Same H H' → H p = none → H' p = some (.lst ((lastF c).map nV)) → Q (.ref p) H'
abbrev NLast : List Str := ["cut", "last", "at", "_", "readings", "word", "number"]
theorem scLast : FnScope NLast ["cut"] (defScope sLast) := ⟨rfl, rfl, rfl, by decide +kernel, rfl, by decide +kernel, by decide +kernel⟩
theorem ok_last {f : Addr} {fd : FuncData} (F : Fun K "last_reads" "last_reads" sLast f fd) (Z : Bi mg) : FnOk P w K mg base CX0 1 f fd ["cut"] (spLast K) := by
  refine F.ok scLast (fun vs H Q E h => ?_) (fun cdv A outer sh H vs Q E hr h => ?_)
  · obtain ⟨s, ops, v, c, rfl, _⟩ := h
    rfl
  · obtain ⟨s, ops, v, c, rfl, hd, ok, k⟩ := h
    refine ⟨_, pss_cons (ps_set (i := 1) scLast.nd rfl (Or.inl rfl) (pe_listRg rfl (by rfl) Z.list (prg_1 (by rfl) Z.range (pe_callB call_len_seq (by rfl) Z.len PySem.boot_len (pa_cons (pe_ix ix_tup (pv 0) pe_int (fun _ _ => rfl)) pa_nil)))))
      (pss_cons (ps_for PassesOwn.never rfl (pi_enum2 (by rfl) Z.enumerate (pa_cons (pe_ix ix_tup (pv 0) pe_int (fun _ _ => rfl)) pa_nil)) (pg_tup rfl (pgs_cons (pg_name (i := 2) scLast.nd rfl (Or.inl rfl)) (pgs_cons (pg_tup rfl (pgs_cons (pg_name (i := 3) scLast.nd rfl (Or.inl rfl)) (pgs_cons (pg_name (i := 4) scLast.nd rfl (Or.inl rfl)) pgs_nil))) pgs_nil)))
        (pss_one (ps_for PassesOwn.never rfl (pi_tup (pv 4)) (pg_tup rfl (pgs_cons (pg_name (i := 5) scLast.nd rfl (Or.inl rfl)) (pgs_cons (pg_name (i := 6) scLast.nd rfl (Or.inl rfl)) pgs_nil)))
          (pss_one (ps_if (pt_cmpR op_eq (pv 5) pe_str (nomark _)) (pss_one (ps_asg (pv 2) (pg_sub (pv 1) (pv 6) set_list))) pss_nil)))))
      (pss_cons (ps_for PassesOwn.never rfl (pi_tup (pe_ix ix_tup (pv 0) pe_int (fun _ _ => rfl))) (pg_tup rfl (pgs_cons (pg_name (i := 5) scLast.nd rfl (Or.inl rfl)) (pgs_cons (pg_name (i := 6) scLast.nd rfl (Or.inl rfl)) pgs_nil)))
          (pss_one (ps_if (pt_cmpR op_eq (pv 5) pe_str (nomark _)) (pss_one (ps_asg (pe_callB call_len_seq (by rfl) Z.len PySem.boot_len (pa_cons (pe_ix ix_tup (pv 0) pe_int (fun _ _ => rfl)) pa_nil)) (pg_sub (pv 1) (pv 6) set_list))) pss_nil)))
      (pss_one (ps_ret (pv 1))))), ?_⟩
    obtain ⟨av, v1, v2, v3, rfl, qv, h1, h2, h3⟩ := dp3 hd
    obtain ⟨a2, x2, rfl, q2, r2⟩ := dp_tup h2
    obtain ⟨a3, x3, rfl, q3, r3⟩ := dp_tup h3
    have l2 : x2.length = c.lines.length := by rw [dpAll_len r2, List.length_map]
    have l3 : x3.length = c.ends.length := by rw [dpAll_len r3, List.length_map]
    have n8 := ok.n8
    refine ⟨_, rfl, av, _, _, _, rfl, rfl, qv, atI_nat (j := 1) rfl, a2, x2, rfl, .inr q2, ?_⟩
    refine ⟨_, rfl, RgOk.of_le (by omega) (by omega) (by omega) (by omega), fun p hp => ?_⟩
    rw [rg0, l2]
    have sp := same_new (o := .lst ((List.range c.lines.length).map nV)) hp
    have one : ∀ (i : Nat) (r : Rd) (x : V) (last : List Nat) (u2 u3 u4 u5 u6 : Option V) (H3 : Hp), OkRd s c.lists.length i r → i ≤ c.lines.length → last.length = c.lines.length → Same H H3 → Dp K H3 x (rdD r) → H3 p = some (.lst (last.map nV)) →
        ∃ ax ws, x = .ref ax ∧ SqT K H3 ax [V.str (wordS r.1), nV r.2] ∧ ws = [V.str (wordS r.1), nV r.2] ∧ (r.1 = 1 → r.2 < last.length) := by
      intro i r x last u2 u3 u4 u5 u6 H3 o hi hl s3 hx e3
      obtain ⟨ax, y1, y2, rfl, qx, hy1, hy2⟩ := dp2 hx
      obtain rfl := dp_str hy1
      obtain rfl := dp_nat hy2
      refine ⟨ax, _, rfl, qx, rfl, fun e => ?_⟩
      have := o.2
      rw [if_neg (by omega), if_pos e] at this
      omega
    refine ⟨_, rfl, av, _, _, _, rfl, rfl, seqT sp qv, atI_nat (j := 1) rfl, a2, x2, .T, rfl, seqT sp q2, for_it (walk_enum2 (k := .T) (a := a2) (xs := x2) (n := x2.length) rfl)
      (fun i σ H' => ∃ u2 u3 u4 u5 u6 : Option V, σ = [some (.ref av), some (.ref p), u2, u3, u4, u5, u6] ∧ Same H H' ∧ H' p = some (.lst ((lastA c i).map nV)))
      ⟨none, none, none, none, none, rfl, sp, upd_same⟩ (fun i σ H' _ ⟨_, _, _, _, _, _, s1, _⟩ => seqT s1 q2) ?_ ?_⟩
    · rintro i x σ H1 H2 hi ⟨w2, w3, w4, w5, w6, rfl, s1, e1⟩ ⟨t, y1, y2, rfl, ht, rfl, hy1, hy2⟩
      obtain rfl : y1 = .int (i : Nat) := (Option.some.inj hy1).symm
      obtain ⟨dx, hdx, hxd⟩ := dpAll_get r2 hy2
      rw [List.getElem?_map] at hdx
      obtain ⟨⟨o, rs⟩, hl, rfl⟩ := Option.map_eq_some_iff.mp hdx
      have s2 := same_new (o := .tup [.int (i : Nat), y2]) ht
      have s02 := s1.trans s2
      obtain ⟨al, z1, z2, rfl, ql, hz1, hz2⟩ := dp2 hxd
      obtain ⟨ar, xr, rfl, qr, rr⟩ := dp_tup hz2
      have lr : xr.length = rs.length := by rw [dpAll_len rr, List.length_map]
      have okl := (ok.lines i _ hl).2
      have il : i < c.lines.length := by omega
      refine ⟨t, _, rfl, SqT.of upd_same, rfl, _, _, rfl, _, _, rfl, al, _, rfl, seqT s02 ql, rfl, _, _, rfl, _, _, rfl, rfl, rfl, _, rfl, ar, rfl, ⟨_, seqT s02 qr⟩, for_it (walk_tup (K := K) (a := ar) (xs := xr))
        (fun j σ H' => ∃ u5 u6 : Option V, σ = [some (.ref av), some (.ref p), some (nV i), some z1, some (.ref ar), u5, u6] ∧ Same H H' ∧ H' p = some (.lst ((putR i (rs.take j) (lastA c i)).map nV)))
        ⟨w5, w6, rfl, s02, s2 _ _ e1⟩ (fun j σ H' _ ⟨_, _, _, s3, _⟩ => seqT s3 qr) ?_ ?_⟩
      · rintro j x σ H3 _ hj ⟨u5, u6, rfl, s3, e3⟩ ⟨rfl, hx⟩
        obtain ⟨dx, hdx, hxd2⟩ := dpAll_get rr hx
        rw [List.getElem?_map] at hdx
        obtain ⟨r, hr1, rfl⟩ := Option.map_eq_some_iff.mp hdx
        obtain ⟨ax, _, rfl, qx, rfl, lt⟩ := one i r x _ none none none none none _ (okl r (List.mem_of_getElem? hr1)) (by omega) ((putR_len (rs.take j) (lastA c i)).trans (lastA_len c i)) s3 (dp_same s3 hxd2) e3
        refine ⟨ax, _, rfl, qx, rfl, _, _, rfl, _, _, rfl, rfl, _, rfl, rfl, _, rfl, ?_⟩
        rw [word_ln, take_more hr1, putR_snoc]
        by_cases k1 : r.1 = 1
        · refine go_t (by rw [k1]; rfl) ?_
          rw [if_pos k1]
          refine ⟨_, rfl, _, rfl, _, rfl, p, _, _, r.2, rfl, rfl, e3, ixN_nat (by rw [List.length_map]; exact lt k1), ?_⟩
          exact ⟨_, _, rfl, same_of s3 hp, by rw [upd_same, set_n]⟩
        · refine go_f (by simpa using k1) ?_
          rw [if_neg k1]
          exact ⟨_, _, rfl, s3, e3⟩
      · rintro σ H3 ⟨u5, u6, rfl, s3, e3⟩
        refine ⟨_, _, _, _, _, rfl, s3, ?_⟩
        rw [lr, List.take_length] at e3
        rw [e3]
        show _ = some (HO.lst ((match c.lines[i]? with | some ln => putR i ln.2 (lastA c i) | none => lastA c i).map nV))
        rw [hl]
    · rintro σ H1 ⟨w2, w3, w4, w5, w6, rfl, s1, e1⟩
      rw [l2] at e1
      refine ⟨_, rfl, av, _, _, _, rfl, rfl, seqT s1 qv, atI_nat (j := 2) rfl, a3, rfl, ⟨_, seqT s1 q3⟩, for_it (walk_tup (K := K) (a := a3) (xs := x3))
        (fun j σ H' => ∃ u5 u6 : Option V, σ = [some (.ref av), some (.ref p), w2, w3, w4, u5, u6] ∧ Same H H' ∧ H' p = some (.lst ((putR c.lines.length (c.ends.take j) (lastA c c.lines.length)).map nV)))
        ⟨w5, w6, rfl, s1, e1⟩ (fun j σ H' _ ⟨_, _, _, s3, _⟩ => seqT s3 q3) ?_ ?_⟩
      · rintro j x σ H3 _ hj ⟨u5, u6, rfl, s3, e3⟩ ⟨rfl, hx⟩
        obtain ⟨dx, hdx, hxd2⟩ := dpAll_get r3 hx
        rw [List.getElem?_map] at hdx
        obtain ⟨r, hr1, rfl⟩ := Option.map_eq_some_iff.mp hdx
        obtain ⟨ax, _, rfl, qx, rfl, lt⟩ := one c.lines.length r x _ none none none none none _ (ok.ends r (List.mem_of_getElem? hr1)) (by omega) ((putR_len (c.ends.take j) (lastA c c.lines.length)).trans (lastA_len c _)) s3 (dp_same s3 hxd2) e3
        refine ⟨ax, _, rfl, qx, rfl, _, _, rfl, _, _, rfl, rfl, _, rfl, rfl, _, rfl, ?_⟩
        rw [word_ln, take_more hr1, putR_snoc]
        by_cases k1 : r.1 = 1
        · refine go_t (by rw [k1]; rfl) ?_
          rw [if_pos k1]
          refine ⟨_, rfl, av, _, _, _, rfl, rfl, seqT s3 qv, atI_nat (j := 1) rfl, a2, x2, rfl, .inr (seqT s3 q2), _, rfl, _, rfl, p, _, _, r.2, rfl, rfl, e3, ixN_nat (by rw [List.length_map]; exact lt k1), ?_⟩
          exact ⟨_, _, rfl, same_of s3 hp, by rw [upd_same, l2, set_n]⟩
        · refine go_f (by simpa using k1) ?_
          rw [if_neg k1]
          exact ⟨_, _, rfl, s3, e3⟩
      · rintro σ H3 ⟨u5, u6, rfl, s3, e3⟩
        rw [l3, List.take_length] at e3
        exact ⟨_, rfl, k _ p s3 hp e3⟩
end
end K74
/-! what stands. -/
namespace K74
open PySem L2 FX SQ
theorem hr65 {k : Nat} {A : Around} (hr : Room k A) : A.units + 65 < cLine := by
  have := hr.un
  omega
theorem get_n {as : List Nat} {s : Nat} (h : s < as.length) : (as.map nV)[s]? = some (nV (as.getD s 0)) := by
  rw [List.getElem?_map, List.getElem?_eq_getElem h, List.getD_eq_getElem?_getD, List.getElem?_eq_getElem h]
  rfl
def aheadF (last : List Nat) (i n : Nat) : List Nat := (List.range n).filter fun j => decide (i < last.getD j 0)
def standF (last : List Nat) (i : Nat) : List Nat := aheadF last i i ++ [i]
def maxN : List Nat → Nat
  | [] => 0
  | n :: r => r.foldl max n
def manyF (last : List Nat) (n : Nat) : List Nat := (List.range n).map fun i => (standF last i).length
def mostF (last : List Nat) : Nat := maxN (manyF last last.length)
theorem ahead_succ (last : List Nat) (i n : Nat) : aheadF last i (n + 1) = aheadF last i n ++ (if i < last.getD n 0 then [n] else []) := by
  unfold aheadF
  rw [List.range_succ, List.filter_append, List.filter_cons]
  by_cases c : i < last.getD n 0
  · rw [if_pos c, if_pos (decide_eq_true c)]
    rfl
  · rw [if_neg c, if_neg (by rw [decide_eq_true_eq]; exact c)]
    rfl
theorem ahead_len (last : List Nat) (i n : Nat) : (aheadF last i n).length ≤ n := by
  have := List.length_filter_le (fun j => decide (i < last.getD j 0)) (List.range n)
  rw [List.length_range] at this
  exact this
theorem fold_i : ∀ (r : List Nat) (n : Nat), (r.map fun x : Nat => (x : Int)).foldl max (n : Int) = ((r.foldl max n : Nat) : Int)
  | [], n => rfl
  | x :: r, n => by
    rw [List.map_cons, List.foldl_cons, List.foldl_cons, ← fold_i r (max n x)]
    congr 1
    omega
theorem maxI_n (ns : List Nat) : maxI 0 (ns.map fun x : Nat => (x : Int)) = ((maxN ns : Nat) : Int) := by
  cases ns with
  | nil => rfl
  | cons n r => exact fold_i r n
theorem map_nV (ns : List Nat) : ns.map nV = (ns.map fun x : Nat => (x : Int)).map V.int := by
  rw [List.map_map]
  rfl
section
variable {P : Program} {w : World} {K : PySem.W.Frag} {mg : Str → Option Value} {base : Heap} {B cB iB cC iC : Addr}
abbrev sStand : Stmt := top 27
abbrev sMost : Stmt := top 28
def spStand : Sp := fun vs H Q _ => ∃ (p : Addr) (last : List Nat) (i : Nat), vs = [.ref p, nV i] ∧ H p = some (.lst (last.map nV)) ∧ i < last.length ∧ last.length ≤ 8 ∧ ∀ H' q, Same H H' → H q = none → H' q = some (.lst ((standF last i).map nV)) → Q (.ref q) H'
abbrev NStand : List Str := ["last", "at", "number"]
theorem scStand : FnScope NStand ["last", "at"] (defScope sStand) := ⟨rfl, rfl, rfl, by decide +kernel, rfl, by decide +kernel, by decide +kernel⟩
theorem ok_stand {f : Addr} {fd : FuncData} (F : Fun K "standing" "standing" sStand f fd) (Z : Bi mg) : FnOk P w K mg base CX0 1 f fd ["last", "at"] spStand := by
  refine F.ok scStand (fun vs H Q E h => ?_) (fun cdv A outer sh H vs Q E hr h => ?_)
  · obtain ⟨p, last, i, rfl, _⟩ := h
    rfl
  · obtain ⟨p, last, i, rfl, hp, il, l8, k⟩ := h
    refine ⟨_, pss_one (ps_ret (pe_op op_cat (pe_lc (own := [("number", 2)]) (g := gName 2) (tt := tTest (tOp (rI0 fun i j => .bl (decide (i > j))) (tOp (rIxL K) (tVar 0) (tVar 2)) (tVar 1))) (te := tVar 2) rfl scStand.nd (pi_range1 (by rfl) Z.range (pa_cons (pv 1) pa_nil))
        (blkOk_by (N := NStand) (sc := defScope sStand) (by decide +kernel)) (fun _ _ _ _ _ => pg_name (i := 2) scStand.nd rfl (Or.inl rfl)) (fun _ _ _ _ _ => pts_one (pt_cmpR op_gt (pe_ix ix_list (pv 0) (pv 2) (fun _ _ => rfl)) (pv 1) (nomark _))) (fun _ _ _ _ _ => pv 2))
      (pe_lst (by exact (pa_cons (pv 1) pa_nil))))), ?_⟩
    refine ⟨_, rfl, i, rfl, by omega, by omega, ?_⟩
    rw [Int.toNat_natCast]
    refine fun D hD => walk_it walk_range (fun j H' => Same H H' ∧ H' D = some (.lst ((aheadF last i j).map nV))) ⟨same_new hD, upd_same⟩ (fun _ _ _ _ => trivial) ?_ ?_
    · rintro j x _ H2 hj ⟨s2, eD⟩ ⟨rfl, hx⟩
      obtain rfl : x = nV j := hx.trans (congrArg V.int (Int.zero_add _))
      refine ⟨rfl, _, rfl, _, rfl, p, _, _, _, rfl, rfl, SqL.of (s2 _ _ hp), atI_nat (get_n (by omega)), _, rfl, _, _, rfl, rfl, _, rfl, ?_⟩
      rw [ahead_succ]
      by_cases c : i < last.getD j 0
      · refine go_t (decide_eq_true (by omega)) ⟨_, rfl, _, eD, ?_, same_of s2 hD, ?_⟩
        · have := ahead_len last i j
          rw [List.length_map, sizeLine_eq]
          omega
        · rw [upd_same, if_pos c, List.map_append]
          rfl
      · refine go_f (decide_eq_false (by omega)) ⟨s2, ?_⟩
        rw [if_neg c, List.append_nil]
        exact eD
    rintro H2 ⟨s2, eD⟩
    refine ⟨_, rfl, (by show 1 ≤ sizeLine; decide), fun l hl => ?_⟩
    have s3 := same_new (o := .lst [nV i]) hl
    refine ⟨D, l, _, _, rfl, rfl, s3 _ _ eD, upd_same, ?_, fun q hq => ?_⟩
    · have := ahead_len last i i
      rw [List.length_map, sizeLine_eq]
      show _ + 1 ≤ _
      omega
    · have s4 := (s2.trans s3).trans (same_new (o := .lst ((aheadF last i i).map nV ++ [nV i])) hq)
      refine k _ q s4 ?_ (by rw [upd_same]; unfold standF; rw [List.map_append]; rfl)
      cases e : H q with
      | none => rfl
      | some o =>
        have := (s2.trans s3) _ _ e
        rw [hq] at this
        cases this
def spMost : Sp := fun vs H Q _ => ∃ (p : Addr) (last : List Nat), vs = [.ref p] ∧ H p = some (.lst (last.map nV)) ∧ last.length ≤ 8 ∧ ∀ H', Same H H' → Q (nV (mostF last)) H'
abbrev NMost : List Str := ["last", "at"]
theorem scMost : FnScope NMost ["last"] (defScope sMost) := ⟨rfl, rfl, rfl, by decide +kernel, rfl, by decide +kernel, by decide +kernel⟩
theorem stand_len (last : List Nat) (i : Nat) : (standF last i).length ≤ i + 1 := by
  unfold standF
  rw [List.length_append]
  have := ahead_len last i i
  show _ + 1 ≤ _
  omega
theorem ok_most {f fS : Addr} {fd fdS : FuncData} (F : Fun K "most_standing" "most_standing" sMost f fd) (Z : Bi mg) (FS : At K mg "standing" sStand fS fdS ["last", "at"]) : FnOk P w K mg base CX0 2 f fd ["last"] spMost := by
  have GS : FnOk P w K mg base CX0 1 fS fdS ["last", "at"] spStand := ok_stand FS.F Z
  refine F.ok scMost (fun vs H Q E h => ?_) (fun cdv A outer sh H vs Q E hr h => ?_)
  · obtain ⟨p, last, rfl, _⟩ := h
    rfl
  · obtain ⟨p, last, rfl, hp, l8, k⟩ := h
    refine ⟨_, pss_one (ps_ret (pe_callBK (cr_maxDef rfl (hr65 hr)) (by rfl) Z.max (by decide +kernel) (pa_cons (pe_lc (own := [("at", 1)]) (g := gName 1) (tt := tYes) (te := tCB (rLenS K) (tCons (tCall spStand [] E0 (tCons (tVar 0) (tCons (tVar 1) tNil))) tNil)) rfl scMost.nd (pi_range1 (by rfl) Z.range (pa_cons (pe_callB call_len_seq (by rfl) Z.len PySem.boot_len (pa_cons (pv 0) pa_nil)) pa_nil))
        (blkOk_by (N := NMost) (sc := defScope sMost) (by decide +kernel)) (fun _ _ _ _ _ => pg_name (i := 1) scMost.nd rfl (Or.inl rfl)) (fun _ _ _ _ _ => pts_nil)
        (fun _ _ _ _ _ => pe_callB call_len_seq (by rfl) Z.len PySem.boot_len (pa_cons (pe_call GS (hr.mono (by decide)) (by rfl) FS.g FS.F.kp FS.b .nil pass0 (by exact (pa_cons (pv 0) (pa_cons (pv 1) pa_nil)))) pa_nil))) pa_nil) (pk_cons pe_int pk_nil))), ?_⟩
    refine ⟨_, rfl, p, _, rfl, .inl (SqL.of hp), ((last.length : Nat) : Int), (by rw [List.length_map]), by omega, by omega, ?_⟩
    rw [Int.toNat_natCast]
    refine fun D hD => walk_it walk_range (fun j H' => Same H H' ∧ H' D = some (.lst ((manyF last j).map nV))) ⟨same_new hD, upd_same⟩ (fun _ _ _ _ => trivial) ?_ ?_
    · rintro j x _ H2 hj ⟨s2, eD⟩ ⟨rfl, hx⟩
      obtain rfl : x = nV j := hx.trans (congrArg V.int (Int.zero_add _))
      refine ⟨rfl, _, rfl, _, rfl, p, last, j, rfl, s2 _ _ hp, hj, l8, fun H3 q s3 hq eq => ?_⟩
      refine ⟨q, _, rfl, .inl (SqL.of eq), _, s3 _ _ eD, ?_, same_of (s2.trans s3) hD, ?_⟩
      · unfold manyF
        rw [List.length_map, List.length_map, List.length_range, sizeLine_eq]
        omega
      · rw [upd_same]
        unfold manyF
        rw [List.range_succ, List.map_append, List.map_append, List.length_map]
        rfl
    rintro H2 ⟨s2, eD⟩
    refine ⟨D, 0, (manyF last last.length).map fun x : Nat => (x : Int), rfl, rfl, SqL.of (by rw [← map_nV]; exact eD), ?_⟩
    rw [maxI_n]
    exact k H2 s2
end
end K74
/-! fewest cells: what is due. -/
namespace K74
open PySem L2 FX SQ
theorem pigeon : ∀ (n : Nat) (l : List Nat), (∀ c, c < n → c ∈ l) → n ≤ l.length
  | 0, _, _ => Nat.zero_le _
  | n + 1, l, h => by
    have hm := h n (by omega)
    have ih := pigeon n (l.erase n) (fun c hc => (List.mem_erase_of_ne (by omega)).mpr (h c (by omega)))
    rw [List.length_erase_of_mem hm] at ih
    have : 0 < l.length := List.length_pos_of_mem hm
    omega
theorem nodup_le : ∀ (n : Nat) (l : List Nat), l.Nodup → (∀ x ∈ l, x < n) → l.length ≤ n
  | 0, l, _, h => by
    cases l with
    | nil => exact Nat.le_refl _
    | cons a r => exact absurd (h a (List.mem_cons_self ..)) (Nat.not_lt_zero _)
  | n + 1, l, nd, h => by
    have ih := nodup_le n (l.erase n) (nd.erase n) (fun x hx => by
      have h1 := h x (List.mem_of_mem_erase hx)
      have h2 : x ≠ n := fun e => by
        subst e
        exact (List.Nodup.not_mem_erase nd) hx
      omega)
    by_cases hm : n ∈ l
    · rw [List.length_erase_of_mem hm] at ih
      omega
    · rw [List.erase_of_not_mem hm] at ih
      omega
def takenF (last : List Nat) (cs : List Nat) (i : Nat) : List Nat := (aheadF last i i).map fun j => cs.getD j 0
def freeF (m : Nat) (tk : List Nat) : List Nat := (List.range m).filter fun c => !tk.contains c
def cellsF (last : List Nat) (m : Nat) : Nat → List Nat
  | 0 => []
  | i + 1 => cellsF last m i ++ [(freeF m (takenF last (cellsF last m i) i)).headD 0]
def momF (last : List Nat) (m n : Nat) : List Nat := (List.range n).filter fun i => decide ((standF last i).length = m)
theorem cellsF_len (last : List Nat) (m : Nat) : ∀ i, (cellsF last m i).length = i
  | 0 => rfl
  | i + 1 => by
    show (cellsF last m i ++ [_]).length = _
    rw [List.length_append, cellsF_len last m i]
    rfl
theorem free_ne {m : Nat} {tk : List Nat} (h : tk.length < m) : ∃ c r, freeF m tk = c :: r ∧ c < m ∧ c ∉ tk := by
  have q : ¬ ∀ c, c < m → c ∈ tk := fun a => by
    have := pigeon m tk a
    omega
  cases e : freeF m tk with
  | nil =>
    refine absurd (fun c hc => ?_) q
    rw [freeF, List.filter_eq_nil_iff] at e
    have := e c (List.mem_range.mpr hc)
    simpa using this
  | cons c r =>
    have hm : c ∈ freeF m tk := by rw [e]; exact List.mem_cons_self ..
    rw [freeF, List.mem_filter, List.mem_range] at hm
    exact ⟨c, r, rfl, hm.1, by simpa using hm.2⟩
theorem fold_max : ∀ (l : List Nat) (a : Nat), a ≤ l.foldl max a ∧ ∀ y ∈ l, y ≤ l.foldl max a
  | [], a => ⟨Nat.le_refl _, fun y hy => by cases hy⟩
  | b :: l, a => by
    obtain ⟨h1, h2⟩ := fold_max l (max a b)
    rw [List.foldl_cons]
    refine ⟨by omega, fun y hy => ?_⟩
    rcases List.mem_cons.mp hy with e | e
    · omega
    · exact h2 y e
theorem le_maxN {l : List Nat} {y : Nat} (h : y ∈ l) : y ≤ maxN l := by
  cases l with
  | nil => cases h
  | cons a r =>
    obtain ⟨h1, h2⟩ := fold_max r a
    rcases List.mem_cons.mp h with e | e
    · rw [e]
      exact h1
    · exact h2 y e
theorem fold_mem : ∀ (l : List Nat) (a : Nat), l.foldl max a ∈ a :: l
  | [], a => List.mem_cons_self ..
  | b :: l, a => by
    have ih := fold_mem l (max a b)
    rw [List.foldl_cons]
    rcases List.mem_cons.mp ih with e | e
    · rw [e]
      by_cases h : a ≤ b
      · rw [Nat.max_eq_right h]
        exact List.mem_cons_of_mem _ (List.mem_cons_self ..)
      · rw [Nat.max_eq_left (by omega)]
        exact List.mem_cons_self ..
    · exact List.mem_cons_of_mem _ (List.mem_cons_of_mem _ e)
theorem maxN_mem {l : List Nat} (h : l ≠ []) : maxN l ∈ l := by
  cases l with
  | nil => exact absurd rfl h
  | cons a r => exact fold_mem r a
theorem stand_le {last : List Nat} {i : Nat} (h : i < last.length) : (standF last i).length ≤ mostF last :=
  le_maxN (List.mem_map.mpr ⟨i, List.mem_range.mpr h, rfl⟩)
theorem taken_lt {last cs : List Nat} {i : Nat} (h : i < last.length) : (takenF last cs i).length < mostF last := by
  have h1 := stand_le h
  unfold standF at h1
  rw [List.length_append] at h1
  unfold takenF
  rw [List.length_map]
  have : ([i] : List Nat).length = 1 := rfl
  omega
theorem most_le {last : List Nat} (h : last.length ≤ 8) : mostF last ≤ 9 := by
  by_cases e : last.length = 0
  · have e2 : last = [] := List.eq_nil_of_length_eq_zero e
    subst e2
    decide
  · have hm := maxN_mem (l := manyF last last.length) (fun z => by
      have := congrArg List.length z
      unfold manyF at this
      rw [List.length_map, List.length_range] at this
      exact e this)
    obtain ⟨i, hi, h2⟩ := List.mem_map.mp hm
    have := List.mem_range.mp hi
    have h3 := stand_len last i
    unfold mostF
    omega
structure OkB (s : Nat) (ops : List (Nat × List Nat)) : Prop where
  s2 : 2 ≤ s
  s8 : s ≤ 8
  o8 : ops.length ≤ 8
  ops : ∀ o ∈ ops, 1 ≤ o.1 ∧ o.1 ≤ 3 ∧ o.2.length = s ^ o.1 ∧ ∀ a ∈ o.2, a < s
theorem pow_nat (s : Nat) : ∀ n : Nat, pow' (s : Int) n = ((s ^ n : Nat) : Int)
  | 0 => rfl
  | n + 1 => by
    show pow' s n * s = _
    rw [pow_nat s n, Nat.pow_succ, Int.natCast_mul]
theorem op_table {s : Nat} {o : Nat × List Nat} (h : 1 ≤ o.1 ∧ o.1 ≤ 3 ∧ o.2.length = s ^ o.1 ∧ ∀ a ∈ o.2, a < s) : isTable s 1 3 (opN o) = true := by
  obtain ⟨h1, h3, hl, ha⟩ := h
  have e1 : isBt 1 3 (nD o.1) = true := by
    show (true && (decide ((1 : Int) ≤ (o.1 : Int)) && decide ((o.1 : Int) ≤ 3))) = true
    rw [decide_eq_true (show (1 : Int) ≤ (o.1 : Int) by omega), decide_eq_true (show (o.1 : Int) ≤ 3 by omega)]
    rfl
  have e2 : isRow (pow' s o.1) (.tuple (o.2.map nD)) = true := by
    show (true && decide (((o.2.map nD).length : Int) = pow' s o.1)) = true
    rw [List.length_map, hl, pow_nat]
    simp
  have e3 : (o.2.map nD).all (isB s) = true := by
    rw [List.all_map, List.all_eq_true]
    intro a h
    show isB s (nD a) = true
    rw [isB_n]
    exact decide_eq_true (ha a h)
  show (true && (isBt 1 3 (nD o.1) && (isRow (pow' s o.1) (.tuple (o.2.map nD)) && (o.2.map nD).all (isB s)))) = true
  rw [e1, e2, e3]
  rfl
theorem book_ok {s : Nat} {ops : List (Nat × List Nat)} (h : OkB s ops) : okBook (bookD s ops) = true := by
  have e1 : isBt 2 8 (nD s) = true := by
    show (true && (decide ((2 : Int) ≤ (s : Int)) && decide ((s : Int) ≤ 8))) = true
    rw [decide_eq_true (show (2 : Int) ≤ (s : Int) by have := h.s2; omega), decide_eq_true (show (s : Int) ≤ 8 by have := h.s8; omega)]
    rfl
  show (true && (isBt 2 8 (nD s) && (true && decide ((ops.map opN).length ≤ 8)))) = true
  rw [e1, List.length_map, decide_eq_true h.o8]
  rfl
theorem book_map (ops : List (Nat × List Nat)) : (ops.map opN).map opD = ops.map opN := by
  rw [List.map_map]
  exact List.map_congr_left fun o _ => rfl
section
variable {K : PySem.W.Frag} {cB cC : Addr}
/-- a book and a cut: which one is wrong -/
def GSc (cB cC : Addr) (H : Hp) (E : XK) (db dc : D) (R : Cut → Prop) : Prop := (okBook db = false ∧ Thr cB "at" (.int (-1)) H E) ∨ ∃ s ops, db = bookD s ops ∧ OkB s ops ∧
  (ScC s ops dc (fun u => u ≠ .non ∧ Thr cC "at" u H E) ∨ ∃ c, dc = cutD c ∧ OkCut s ops c ∧ R c)
/-- a book that is told -/
theorem book_rd {H : Hp} {v : V} {d : D} {Q : VK} {E : XK} (hd : Dp K H v d) (h : (okBook d = false ∧ Thr cB "at" (.int (-1)) H E) ∨ ∃ s ops, d = bookD s ops ∧ OkB s ops ∧ ∀ H' v', Same H H' → Dp K H' v' (bookD s ops) → Q v' H') : spNeedBook K cB [v] H Q E := by
  rcases h with ⟨e, t⟩ | ⟨s, ops, rfl, ok, k⟩
  · exact ⟨v, d, rfl, hd, fun _ => t, fun e2 => absurd (e.symm.trans e2) Bool.false_ne_true⟩
  · refine ⟨v, _, rfl, hd, fun e => absurd (e.symm.trans (book_ok ok)) Bool.false_ne_true, fun _ s' d1 e => ?_⟩
    have e' : [nD s, opsD ops] = [.int s', d1] := e
    obtain ⟨e1, e2⟩ := List.cons.inj e'
    obtain ⟨e2, _⟩ := List.cons.inj e2
    subst e2
    have e1' : (s : Int) = s' := by
      injection e1
    subst e1'
    have all : ∀ (j : Nat) y, (ops.map opN)[j]? = some y → isTable s 1 3 y = true := fun j y hy => by
      rw [List.getElem?_map] at hy
      obtain ⟨o, ho, rfl⟩ := Option.map_eq_some_iff.mp hy
      exact op_table (ok.ops o (List.mem_of_getElem? ho))
    refine ⟨fun i x hx ht _ => absurd (ht.symm.trans (all i x hx)) Bool.false_ne_true, fun _ H' v' s1 hv => k H' v' s1 ?_⟩
    have hv : Dp K H' v' (.tuple [.int (s : Nat), .tuple ((ops.map opN).map opD)]) := hv
    rw [book_map] at hv
    exact hv
end
end K74
namespace K74
open PySem L2 FX SQ
def momD (l : List Nat) : D := match l with
  | [] => .none
  | i :: _ => nD i
def momV (l : List Nat) : V := match l with
  | [] => .non
  | i :: _ => nV i
theorem cutV_drop (l : List V) (x : V) : cutV (l ++ [x]) none (some (-1)) = l := by
  unfold cutV
  have e : HT.sIx (l ++ [x]).length (l ++ [x]).length (some (-1)) = l.length := by
    unfold HT.sIx
    dsimp only
    rw [if_pos (by decide), List.length_append]
    show ((-1 : Int) + ((l.length + 1 : Nat) : Int)).toNat = _
    omega
  rw [e, HT.sIx_none, List.drop_zero, Nat.sub_zero]
  simp
theorem inV_n (tk : List Nat) (c : Nat) : inV (nV c) (tk.map nV) = tk.contains c := by
  unfold inV
  induction tk with
  | nil => rfl
  | cons a r ih =>
    rw [List.map_cons, List.any_cons, ih, List.contains_cons]
    congr 1
    show ((a : Int) == (c : Int)) = (c == a)
    by_cases e : a = c
    · subst e
      rw [beq_self_eq_true, beq_self_eq_true]
    · rw [beq_eq_false_iff_ne.mpr (fun z => e (by omega)), beq_eq_false_iff_ne.mpr (fun z => e z.symm)]
theorem flat_n (tk : List Nat) : (tk.map nV).all flatV = true := by
  rw [List.all_map, List.all_eq_true]
  exact fun _ _ => rfl
section
variable {P : Program} {w : World} {K : PySem.W.Frag} {mg : Str → Option Value} {base : Heap} {B cB iB cC iC : Addr}
abbrev sFew : Stmt := top 29
def fewCs (c : Cut) : List Nat := cellsF (lastF c) (mostF (lastF c)) c.lines.length
def fewMs (c : Cut) : List Nat := momF (lastF c) (mostF (lastF c)) c.lines.length
/-- the fewest cells, as a tuple -/
def ToldV (H : Hp) (v : V) (m : Nat) (cs : List Nat) (t : V) : Prop := ∃ a q, v = .ref a ∧ H a = some (.tup [nV m, .ref q, t]) ∧ H q = some (.tup (cs.map nV))
def spFew (K : PySem.W.Frag) (cB cC : Addr) : Sp := fun vs H Q E => ∃ (vb vc : V) (db dc : D), vs = [vb, vc] ∧ Dp K H vb db ∧ Dp K H vc dc ∧
  GSc cB cC H E db dc fun c => ∀ H' v, Same H H' → ToldV H' v (mostF (lastF c)) (fewCs c) (momV (fewMs c)) → Q v H'
abbrev NFew : List Str := ["book", "cut", "last", "many", "cells", "at", "taken", "moments", "number", "cell"]
theorem scFew : FnScope NFew ["book", "cut"] (defScope sFew) := ⟨rfl, rfl, rfl, by decide +kernel, rfl, by decide +kernel, by decide +kernel⟩
theorem mom_succ (last : List Nat) (m n : Nat) : momF last m (n + 1) = momF last m n ++ (if (standF last n).length = m then [n] else []) := by
  unfold momF
  rw [List.range_succ, List.filter_append, List.filter_cons]
  by_cases c : (standF last n).length = m
  · rw [if_pos c, if_pos (decide_eq_true c)]
    rfl
  · rw [if_neg c, if_neg (by rw [decide_eq_true_eq]; exact c)]
    rfl
theorem free_succ (tk : List Nat) (n : Nat) : freeF (n + 1) tk = freeF n tk ++ (if tk.contains n = true then [] else [n]) := by
  unfold freeF
  rw [List.range_succ, List.filter_append, List.filter_cons]
  by_cases c : tk.contains n = true
  · rw [if_pos c, if_neg (by rw [c]; decide)]
    rfl
  · have c' : tk.contains n = false := by simpa using c
    rw [if_neg c, if_pos (by rw [c']; rfl)]
    rfl
theorem ok_few {f fB fN fL fM fS : Addr} {fd fdB fdN fdL fdM fdS : FuncData} (F : Fun K "fewest_cells" "fewest_cells" sFew f fd) (Z : Bi mg) (FB : At K mg "need_book" sNeedBook fB fdB ["value"]) (GB : FnOk P w K mg base (L2.CX P w) 6 fB fdB ["value"] (spNeedBook K cB))
    (FN : At K mg "need_cut" sNC fN fdN ["book", "value"]) (GN : FnOk P w K mg base (L2.CX P w) 7 fN fdN ["book", "value"] (spNC K cC))
    (FL : At K mg "last_reads" sLast fL fdL ["cut"]) (FM : At K mg "most_standing" sMost fM fdM ["last"]) (FS : At K mg "standing" sStand fS fdS ["last", "at"]) :
    FnOk P w K mg base (L2.CX P w) 8 f fd ["book", "cut"] (spFew K cB cC) := by
  have GL : FnOk P w K mg base CX0 1 fL fdL ["cut"] (spLast K) := ok_last FL.F Z
  have GM : FnOk P w K mg base CX0 2 fM fdM ["last"] spMost := ok_most FM.F Z FS
  have GS : FnOk P w K mg base CX0 1 fS fdS ["last", "at"] spStand := ok_stand FS.F Z
  refine F.okX scFew (fun vs H Q E h => ?_) (fun cdv A outer sh H vs Q E hr h => ?_)
  · obtain ⟨vb, vc, db, dc, rfl, _⟩ := h
    rfl
  · obtain ⟨vb, vc, db, dc, rfl, hb, hc, sc⟩ := h
    refine ⟨_, pss_cons (ps_set (i := 0) scFew.nd rfl (Or.inl rfl) (pe_callS GB (hr.mono (by decide)) rfl FB.g FB.F.kp FB.b (fun σ => passAt (takes_of rfl rfl rfl rfl) σ) (by exact (pa_cons (pv 0) pa_nil))))
      (pss_cons (ps_set (i := 2) scFew.nd rfl (Or.inr rfl) (pe_call GL (hr.mono (by decide)) rfl FL.g FL.F.kp FL.b .nil pass0 (by exact (pa_cons (pe_callS GN (hr.mono (by decide)) rfl FN.g FN.F.kp FN.b (fun σ => passAt (takes_of rfl rfl rfl rfl) σ) (by exact (pa_cons (pv 0) (pa_cons (pv 1) pa_nil)))) pa_nil))))
      (pss_cons (ps_set (i := 3) scFew.nd rfl (Or.inr rfl) (pe_call GM (hr.mono (by decide)) rfl FM.g FM.F.kp FM.b .nil pass0 (by exact (pa_cons (pv 2) pa_nil))))
      (pss_cons (ps_set (i := 4) scFew.nd rfl (Or.inr rfl) (pe_lst pa_nil))
      (pss_cons (ps_for (passes_of rfl) rfl (pi_range1 (by rfl) Z.range (pa_cons (pe_callB call_len_seq (by rfl) Z.len PySem.boot_len (pa_cons (pv 2) pa_nil)) pa_nil)) (pg_name (i := 5) scFew.nd rfl (Or.inl rfl))
        (pss_cons (ps_set (i := 6) scFew.nd rfl (Or.inr rfl) (pe_lc (own := [("number", 8)]) (g := gName 8) (tt := tYes) (te := tOp (rIxL K) (tVar 4) (tVar 8)) rfl scFew.nd (pi_list (pe_slice sl_list (pe_call GS (hr.mono (by decide)) rfl FS.g FS.F.kp FS.b .nil pass0 (by exact (pa_cons (pv 2) (pa_cons (pv 5) pa_nil)))) po_none (po_some (pe_un un_neg pe_int))))
            (blkOk_by (N := NFew) (sc := defScope sFew) (by decide +kernel)) (fun _ _ _ _ _ => pg_name (i := 8) scFew.nd rfl (Or.inl rfl)) (fun _ _ _ _ _ => pts_nil) (fun _ _ _ _ _ => pe_ix ix_list (pv 4) (pv 8) (fun _ _ => rfl))))
        (pss_one (ps_expr (pe_bm PySem.F.plainAttrs_list PySem.F.slot_list_append PySem.F.type_list_append mt_append (pv 4) (pa_cons (pe_ix ix_list
          (pe_lc (own := [("cell", 9)]) (g := gName 9) (tt := tTest (tOp (rIn K true) (tVar 9) (tVar 6))) (te := tVar 9) rfl scFew.nd (pi_range1 (by rfl) Z.range (pa_cons (pv 3) pa_nil))
            (blkOk_by (N := NFew) (sc := defScope sFew) (by decide +kernel)) (fun _ _ _ _ _ => pg_name (i := 9) scFew.nd rfl (Or.inl rfl)) (fun _ _ _ _ _ => pts_one (pt_cmpR op_notIn_seq (pv 9) (pv 6) (by with_unfolding_all rfl))) (fun _ _ _ _ _ => pv 9)) pe_int (fun _ _ => rfl)) pa_nil))))))
      (pss_cons (ps_setLc (i := 7) (own := [("at", 5)]) (g := gName 5) (tt := tTest (tOp rEq (tCB (rLenS K) (tCons (tCall spStand [] E0 (tCons (tVar 2) (tCons (tVar 5) tNil))) tNil)) (tVar 3))) (te := tVar 5) rfl scFew.nd rfl rfl (sw_true rfl rfl rfl (by decide +kernel)) (pi_range1 (by rfl) Z.range (pa_cons (pe_callB call_len_seq (by rfl) Z.len PySem.boot_len (pa_cons (pv 2) pa_nil)) pa_nil))
          (blkOk_by (N := NFew) (sc := defScope sFew) (by decide +kernel)) (fun _ _ _ _ _ => pg_name (i := 5) scFew.nd rfl (Or.inl rfl)) (fun _ _ _ _ _ => pts_one (pt_cmpR op_eq (pe_callB call_len_seq (by rfl) Z.len PySem.boot_len (pa_cons (pe_call GS (hr.mono (by decide)) (by rfl) FS.g FS.F.kp FS.b .nil pass0 (by exact (pa_cons (pv 2) (pa_cons (pv 5) pa_nil)))) pa_nil)) (pv 3) (nomark _))) (fun _ _ _ _ _ => pv 5))
      (pss_one (ps_ret (pe_tup (by exact (pa_cons (pv 3) (pa_cons (pe_tupleOf (by rfl) Z.tuple (pv 4)) (pa_cons (pe_ifExp (pt_truth (pv 7) (fun _ => rfl)) (pe_ix ix_list (pv 7) pe_int (fun _ _ => rfl)) pe_non) pa_nil)))))))))))), ?_⟩
    refine ⟨_, rfl, book_rd hb ?_⟩
    rcases sc with ⟨e, t⟩ | ⟨s, ops, rfl, okb, sc⟩
    · exact .inl ⟨e, t⟩
    refine .inr ⟨s, ops, rfl, okb, fun H1 vb' s1 hb' => ?_⟩
    refine ⟨_, rfl, _, rfl, s, ops, _, vc, dc, rfl, hb', dp_same s1 hc, ?_⟩
    rcases sc with sc | ⟨c, rfl, ok, k⟩
    · exact sc.imp fun u ⟨ne, t⟩ => .inr ⟨ne, t.same s1⟩
    refine .inr ⟨c, _, rfl, ok, .inr ⟨rfl, .inl ⟨rfl, fun H2 s2 => ?_⟩⟩⟩
    have ll : (lastF c).length = c.lines.length := lastF_len c
    have n8 := ok.n8
    unfold fewCs fewMs at k
    refine ⟨s, ops, vc, c, rfl, dp_same (s1.trans s2) hc, ok, fun H3 p s3 hp ep => ?_⟩
    generalize lastF c = last at ll ep k
    rw [← ll] at k
    have l8 : last.length ≤ 8 := by omega
    refine ⟨_, rfl, p, last, rfl, ep, l8, fun H4 s4 => ?_⟩
    have ep4 := s4 _ _ ep
    have m9 := most_le l8
    generalize hm : mostF last = m at k m9
    refine ⟨(by show 0 ≤ sizeLine; decide), fun q hq => ?_⟩
    have s5 := same_new (o := .lst []) hq
    refine ⟨_, rfl, p, _, rfl, .inl (SqL.of (s5 _ _ ep4)), ((last.length : Nat) : Int), (by rw [List.length_map]), by omega, by omega, ?_⟩
    rw [Int.toNat_natCast]
    refine for_range (n := last.length) (fun i σ H' => ∃ u5 u6 : Option V, σ = [some vb', some vc, some (.ref p), some (nV m), some (.ref q), u5, u6, none, none, none] ∧ Same H4 H' ∧ H' q = some (.lst ((cellsF last m i).map nV)))
      ⟨none, none, rfl, s5, upd_same⟩ ?_ ?_
    · rintro i σ H5 hi ⟨u5, u6, rfl, s5', eq⟩
      have ep5 := s5' _ _ ep4
      refine ⟨_, rfl, _, rfl, p, last, i, congrArg (fun z => [V.ref p, V.int z]) (Int.zero_add _), ep5, hi, l8, fun H6 r s6 hr6 er => ⟨_, rfl, _, rfl, r, _, rfl, SqL.of er, fun z hz => ?_⟩⟩
      have e : cutV ((standF last i).map nV) none (some (-1)) = (aheadF last i i).map nV := by
        unfold standF
        rw [List.map_append]
        exact cutV_drop _ _
      have s7 := same_new (o := .lst (cutV ((standF last i).map nV) none (some (-1)))) hz
      have s57 := s6.trans s7
      have la := ahead_len last i i
      have cl := cellsF_len last m i
      refine ⟨z, rfl, ⟨(aheadF last i i).map nV, SqL.of (by rw [upd_same]; exact congrArg (fun l => some (HO.lst l)) e)⟩, fun D hD => walk_it (walk_list (K := K) (a := z) (xs := (aheadF last i i).map nV)) (fun j H' => Same H5 H' ∧ SqL K H' z ((aheadF last i i).map nV) ∧ H' D = some (.lst (((aheadF last i i).take j).map fun x => nV ((cellsF last m i).getD x 0))))
        ⟨s57.trans (same_new hD), (same_new hD).seq (SqL.of (by rw [upd_same]; exact congrArg (fun l => some (HO.lst l)) e)), upd_same⟩ (fun j H' _ p => p.2.1) ?_ ?_⟩
      · rintro j x _ H7 hj ⟨sj, ez, eD⟩ ⟨rfl, hx⟩
        rw [List.getElem?_map] at hx
        obtain ⟨y, hy, rfl⟩ := Option.map_eq_some_iff.mp hx
        have yi : y < i := by
          have := List.mem_of_getElem? hy
          unfold aheadF at this
          rw [List.mem_filter, List.mem_range] at this
          exact this.1
        have hD5 : H5 D = none := by
          cases e5 : H5 D with
          | none => rfl
          | some o =>
            have := s57 _ _ e5
            rw [hD] at this
            cases this
        have zD : z ≠ D := fun w => by
          rw [← w, upd_same] at hD
          cases hD
        refine ⟨rfl, _, rfl, _, rfl, q, _, _, _, rfl, rfl, SqL.of (sj _ _ eq), atI_nat (get_n (by omega)), _, eD, ?_, same_of sj hD5, ?_, ?_⟩
        · rw [List.length_map, List.length_take, sizeLine_eq]
          omega
        · rcases ez with (h | ⟨o, h⟩) | h
          · exact .inl (.inl (by rw [upd_ne zD]; exact h))
          · exact .inl (.inr ⟨o, by rw [upd_ne zD]; exact h⟩)
          · exact .inr h
        · rw [upd_same, take_more hy, List.map_append]
          rfl
      rintro H7 ⟨sj, ez, eD⟩
      rw [List.length_map, List.take_length] at eD
      have eD : H7 D = some (.lst ((takenF last (cellsF last m i) i).map nV)) := by
        rw [eD]
        unfold takenF
        rw [List.map_map]
        rfl
      have tl := taken_lt (last := last) (cs := cellsF last m i) hi
      rw [hm] at tl
      generalize htk : takenF last (cellsF last m i) i = tk at eD tl
      refine ⟨_, rfl, .inl ⟨rfl, _, SqL.of (sj _ _ eq)⟩, _, rfl, ((m : Nat) : Int), rfl, by omega, by omega, ?_⟩
      rw [Int.toNat_natCast]
      refine fun D2 hD2 => walk_it walk_range (fun j H' => Same H7 H' ∧ H' D2 = some (.lst ((freeF j tk).map nV))) ⟨same_new hD2, upd_same⟩ (fun _ _ _ _ => trivial) ?_ ?_
      · rintro j x _ H8 hj ⟨s8, e8⟩ ⟨rfl, hx⟩
        obtain rfl : x = nV j := hx.trans (congrArg V.int (Int.zero_add _))
        refine ⟨rfl, _, rfl, _, rfl, D, _, rfl, .inl (SqL.of (s8 _ _ eD)), rfl, flat_n _, _, rfl, ?_⟩
        rw [inV_n, free_succ]
        by_cases ct : tk.contains j = true
        · refine go_f (by rw [ct]; rfl) ⟨s8, ?_⟩
          rw [if_pos ct, List.append_nil]
          exact e8
        · refine go_t (by simpa using ct) ⟨_, rfl, _, e8, ?_, same_of s8 hD2, ?_⟩
          · have := List.length_filter_le (fun c => !tk.contains c) (List.range j)
            rw [List.length_range] at this
            rw [List.length_map, sizeLine_eq]
            unfold freeF
            omega
          · rw [upd_same, if_neg ct, List.map_append]
            rfl
      rintro H8 ⟨s8, e8⟩
      obtain ⟨c0, fr, ef, _, _⟩ := free_ne tl
      rw [ef] at e8
      have eq8 := s8 _ _ (sj _ _ eq)
      refine ⟨D2, _, _, _, rfl, rfl, SqL.of e8, atI_nat (j := 0) rfl, q, _, _, rfl, rfl, eq8, ?_, ?_⟩
      · rw [List.length_map, cl, sizeLine_eq]
        omega
      · refine ⟨_, _, rfl, ?_, ?_⟩
        · intro a o ea
          have aq : a ≠ q := fun w => by
            rw [w, hq] at ea
            cases ea
          rw [upd_ne aq]
          exact s8 _ _ (sj _ _ (s5' _ _ ea))
        · rw [upd_same]
          show _ = some (HO.lst ((cellsF last m i ++ [(freeF m (takenF last (cellsF last m i) i)).headD 0]).map nV))
          rw [htk, ef, List.map_append]
          rfl
    · rintro σ H5 ⟨u5, u6, rfl, s5', eq⟩
      have ep5 := s5' _ _ ep4
      refine ⟨_, rfl, p, _, rfl, .inl (SqL.of ep5), ((last.length : Nat) : Int), (by rw [List.length_map]), by omega, by omega, ?_⟩
      rw [Int.toNat_natCast]
      refine fun D hD => walk_it walk_range (fun j H' => Same H5 H' ∧ H' D = some (.lst ((momF last m j).map nV))) ⟨same_new hD, upd_same⟩ (fun _ _ _ _ => trivial) ?_ ?_
      · rintro j x _ H6 hj ⟨s6, eD⟩ ⟨rfl, hx⟩
        obtain rfl : x = nV j := hx.trans (congrArg V.int (Int.zero_add _))
        refine ⟨rfl, _, rfl, _, rfl, p, last, j, rfl, s6 _ _ ep5, hj, l8, fun H7 r s7 hr7 er => ⟨r, _, rfl, .inl (SqL.of er), _, rfl, rfl, _, rfl, ?_⟩⟩
        rw [mom_succ, show (decide (V.int ((((standF last j).map nV).length : Nat) : Int) = nV m)) = decide ((standF last j).length = m) from by
          rw [List.length_map]
          by_cases z : (standF last j).length = m
          · rw [decide_eq_true z, decide_eq_true (congrArg nV z)]
          · rw [decide_eq_false z, decide_eq_false fun q => z (by have := V.int.inj q; omega)]]
        by_cases cm : (standF last j).length = m
        · refine go_t (decide_eq_true cm) ⟨_, rfl, _, s7 _ _ eD, ?_, same_of (s6.trans s7) hD, ?_⟩
          · have := List.length_filter_le (fun i => decide ((standF last i).length = m)) (List.range j)
            rw [List.length_range] at this
            rw [List.length_map, sizeLine_eq]
            unfold momF
            omega
          · rw [upd_same, if_pos cm, List.map_append]
            rfl
        · refine go_f (decide_eq_false cm) ⟨s6.trans s7, ?_⟩
          rw [if_neg cm, List.append_nil]
          exact s7 _ _ eD
      rintro H6 ⟨s6, eD⟩
      have eq6 := s6 _ _ eq
      refine ⟨_, rfl, _, rfl, .inl ⟨q, _, rfl, SqL.of eq6, fun t ht => ?_⟩⟩
      have s7 := same_new (o := .tup ((cellsF last m last.length).map nV)) ht
      have s07 : Same H (upd H6 t (.tup ((cellsF last m last.length).map nV))) := fun a o ea => s7 _ _ (s6 _ _ (s5' _ _ (s4 _ _ (s3 _ _ (s2 _ _ (s1 _ _ ea))))))
      have fin : ∀ (u : V), u = momV (momF last m last.length) → ∀ tt, upd H6 t (.tup ((cellsF last m last.length).map nV)) tt = none → Q (.ref tt) (upd (upd H6 t (.tup ((cellsF last m last.length).map nV))) tt (.tup [nV m, .ref t, u])) := fun u eu tt htt => by
        have s8 := same_new (o := .tup [nV m, .ref t, u]) htt
        exact k _ _ (s07.trans s8) ⟨tt, t, rfl, by rw [upd_same, eu], s8 _ _ upd_same⟩
      generalize momF last m last.length = mo at eD fin
      refine ⟨_, rfl, !(mo.map nV).isEmpty, .inl ⟨_, SqL.of (s7 _ _ eD), rfl⟩, ?_⟩
      cases mo with
      | nil => exact go_f rfl ⟨(by show 3 ≤ sizeLine; decide), fun tt htt => fin .non rfl tt htt⟩
      | cons i r => exact go_t rfl ⟨_, rfl, D, _, _, _, rfl, rfl, SqL.of (s7 _ _ eD), atI_nat (j := 0) rfl, (by show 3 ≤ sizeLine; decide), fun tt htt => fin (nV i) rfl tt htt⟩
end
end K74
/-! what holds as fewest cells. -/
namespace K74
open PySem L2 FX SQ
def apartN (last cs : List Nat) (n : Nat) : Bool := (List.range n).all fun i => !(takenF last cs i).contains (cs.getD i 0)
theorem apart_succ (last cs : List Nat) (n : Nat) : apartN last cs (n + 1) = (apartN last cs n && !(takenF last cs n).contains (cs.getD n 0)) := by
  unfold apartN
  rw [List.range_succ, List.all_append]
  simp
theorem apart_no {last cs : List Nat} {i : Nat} (h : (takenF last cs i).contains (cs.getD i 0) = true) : ∀ n, i < n → apartN last cs n = false := fun n hn => by
  unfold apartN
  rw [List.all_eq_false]
  exact ⟨i, List.mem_range.mpr hn, by rw [h]; decide⟩
def natsD (d : D) : List Nat := (items d).map fun x => (intV x).toNat
theorem natsD_r (cs : List Nat) : natsD (rN cs) = cs := by
  show (cs.map nD).map _ = cs
  rw [List.map_map]
  conv => rhs; rw [← List.map_id cs]
  exact List.map_congr_left fun x _ => by
    show ((x : Int)).toNat = x
    omega
abbrev it (d : D) (i : Nat) : D := (items d).getD i .none
def holdF (last : List Nat) (d : D) : Bool := isTup 3 d && (isN (it d 0) && (isTup last.length (it d 1) && ((decide (intV (it d 0) = (mostF last : Nat)) && (items (it d 1)).all (isB (intV (it d 0)))) &&
  (isB last.length (it d 2) && (decide (((standF last (intV (it d 2)).toNat).length : Int) = intV (it d 0)) && apartN last (natsD (it d 1)) last.length)))))
def VOk (n : Nat) (d : D) : Prop := isTup 3 d = true → isTup n (it d 1) = true → ∃ cs, it d 1 = rN cs
section
variable {P : Program} {w : World} {K : PySem.W.Frag} {mg : Str → Option Value} {base : Heap} {B cB iB cC iC : Addr}
abbrev sApart : Stmt := top 30
abbrev sHold : Stmt := top 31
def spApart (K : PySem.W.Frag) : Sp := fun vs H Q _ => ∃ (p ac : Addr) (last cs : List Nat), vs = [.ref p, .ref ac] ∧ H p = some (.lst (last.map nV)) ∧ last.length ≤ 8 ∧ SqT K H ac (cs.map nV) ∧ cs.length = last.length ∧ ∀ H', Same H H' → Q (.bl (apartN last cs last.length)) H'
abbrev NApart : List Str := ["last", "cells", "at", "cell", "number"]
theorem scApart : FnScope NApart ["last", "cells"] (defScope sApart) := ⟨rfl, rfl, rfl, by decide +kernel, rfl, by decide +kernel, by decide +kernel⟩
theorem ok_apart {f fS : Addr} {fd fdS : FuncData} (F : Fun K "are_apart" "are_apart" sApart f fd) (Z : Bi mg) (FS : At K mg "standing" sStand fS fdS ["last", "at"]) : FnOk P w K mg base CX0 2 f fd ["last", "cells"] (spApart K) := by
  have GS : FnOk P w K mg base CX0 1 fS fdS ["last", "at"] spStand := ok_stand FS.F Z
  refine F.ok scApart (fun vs H Q E h => ?_) (fun cdv A outer sh H vs Q E hr h => ?_)
  · obtain ⟨p, ac, last, cs, rfl, _⟩ := h
    rfl
  · obtain ⟨p, ac, last, cs, rfl, ep, l8, qc, lc, k⟩ := h
    refine ⟨_, pss_cons (ps_for PassesOwn.never rfl (pi_enum2 (by rfl) Z.enumerate (pa_cons (pv 1) pa_nil)) (pg_tup rfl (pgs_cons (pg_name (i := 2) scApart.nd rfl (Or.inl rfl)) (pgs_cons (pg_name (i := 3) scApart.nd rfl (Or.inl rfl)) pgs_nil)))
        (pss_one (ps_if (pt_cmpR op_in_seq (pv 3) (pe_lc (own := [("number", 4)]) (g := gName 4) (tt := tYes) (te := tOp (rIxT K) (tVar 1) (tVar 4)) rfl scApart.nd (pi_list (pe_slice sl_list (pe_call GS (hr.mono (by decide)) rfl FS.g FS.F.kp FS.b .nil pass0 (by exact (pa_cons (pv 0) (pa_cons (pv 2) pa_nil)))) po_none (po_some (pe_un un_neg pe_int))))
            (blkOk_by (N := NApart) (sc := defScope sApart) (by decide +kernel)) (fun _ _ _ _ _ => pg_name (i := 4) scApart.nd rfl (Or.inl rfl)) (fun _ _ _ _ _ => pts_nil) (fun _ _ _ _ _ => pe_ix ix_tup (pv 1) (pv 4) (fun _ _ => rfl))) (by with_unfolding_all rfl))
          (pss_one (ps_ret pe_bl)) pss_nil)))
      (pss_one (ps_ret pe_bl)), ?_⟩
    refine ⟨_, rfl, ac, _, .T, rfl, qc, for_it (walk_enum2 (k := .T) (a := ac) (xs := cs.map nV) (n := cs.length) (by rw [List.length_map])) (fun i σ H' => ∃ u1 u2 : Option V, σ = [some (.ref p), some (.ref ac), u1, u2, none] ∧ Same H H' ∧ apartN last cs i = true) ⟨none, none, rfl, Same.refl H, rfl⟩ (fun i σ H' _ ⟨_, _, _, s1, _⟩ => seqT s1 qc) ?_ ?_⟩
    · rintro i x σ H1 H2 hi ⟨w1, w2, rfl, s1, ai⟩ ⟨t, x1, x2, rfl, ht, rfl, hx1, hx2⟩
      obtain rfl : x1 = .int (i : Nat) := (Option.some.inj hx1).symm
      have hx2 : (cs.map nV)[i]? = some x2 := hx2
      rw [get_n hi] at hx2
      obtain rfl := (Option.some.inj hx2).symm
      have s2 := s1.trans (same_new (o := .tup [.int (i : Nat), nV (cs.getD i 0)]) ht)
      refine ⟨t, _, rfl, SqT.of upd_same, rfl, _, _, rfl, _, _, rfl, rfl, _, rfl, _, rfl, _, rfl, p, last, i, rfl, s2 _ _ ep, by omega, l8, fun H6 r s6 hr6 er => ⟨_, rfl, _, rfl, r, _, rfl, SqL.of er, fun z hz => ?_⟩⟩
      have e : cutV ((standF last i).map nV) none (some (-1)) = (aheadF last i i).map nV := by
        unfold standF
        rw [List.map_append]
        exact cutV_drop _ _
      have s26 := s2.trans s6
      have s7 := same_new (o := .lst (cutV ((standF last i).map nV) none (some (-1)))) hz
      have s27 := s26.trans s7
      have la := ahead_len last i i
      refine ⟨z, rfl, ⟨(aheadF last i i).map nV, SqL.of (by rw [upd_same]; exact congrArg (fun l => some (HO.lst l)) e)⟩, fun D hD => walk_it (walk_list (K := K) (a := z) (xs := (aheadF last i i).map nV)) (fun j H' => Same H H' ∧ SqL K H' z ((aheadF last i i).map nV) ∧ H' D = some (.lst (((aheadF last i i).take j).map fun x => nV (cs.getD x 0))))
        ⟨s27.trans (same_new hD), (same_new hD).seq (SqL.of (by rw [upd_same]; exact congrArg (fun l => some (HO.lst l)) e)), upd_same⟩ (fun j H' _ p => p.2.1) ?_ ?_⟩
      · rintro j x _ H7 hj ⟨sj, ez, eD⟩ ⟨rfl, hx⟩
        rw [List.getElem?_map] at hx
        obtain ⟨y, hy, rfl⟩ := Option.map_eq_some_iff.mp hx
        have yi : y < i := by
          have := List.mem_of_getElem? hy
          unfold aheadF at this
          rw [List.mem_filter, List.mem_range] at this
          exact this.1
        have hD5 : H D = none := by
          cases e5 : H D with
          | none => rfl
          | some o =>
            have := s27 _ _ e5
            rw [hD] at this
            cases this
        have zD : z ≠ D := fun w => by
          rw [← w, upd_same] at hD
          cases hD
        refine ⟨rfl, _, rfl, _, rfl, ac, _, _, _, rfl, rfl, seqT sj qc, atI_nat (get_n (by omega)), _, eD, ?_, same_of sj hD5, ?_, ?_⟩
        · rw [List.length_map, List.length_take, sizeLine_eq]
          omega
        · rcases ez with (h | ⟨o, h⟩) | h
          · exact .inl (.inl (by rw [upd_ne zD]; exact h))
          · exact .inl (.inr ⟨o, by rw [upd_ne zD]; exact h⟩)
          · exact .inr h
        · rw [upd_same, take_more hy, List.map_append]
          rfl
      rintro H7 ⟨sj, ez, eD⟩
      rw [List.length_map, List.take_length] at eD
      have eD : H7 D = some (.lst ((takenF last cs i).map nV)) := by
        rw [eD]
        unfold takenF
        rw [List.map_map]
        rfl
      refine ⟨D, _, rfl, .inl (SqL.of eD), rfl, flat_n _, _, rfl, ?_⟩
      rw [inV_n]
      by_cases ct : (takenF last cs i).contains (cs.getD i 0) = true
      · refine go_t ct ?_
        have := k H7 sj
        rw [apart_no ct _ (by omega)] at this
        exact this
      · have cf : (takenF last cs i).contains (cs.getD i 0) = false := by simpa using ct
        refine go_f cf ⟨_, _, rfl, sj, ?_⟩
        rw [apart_succ, ai, cf]
        rfl
    · rintro σ H1 ⟨u1, u2, rfl, s1, ai⟩
      have := k H1 s1
      rw [← lc, ai] at this
      exact this
def spHold (K : PySem.W.Frag) (cB cC : Addr) : Sp := fun vs H Q E => ∃ (vb vc v : V) (db dc : D), vs = [vb, vc, v] ∧ Dp K H vb db ∧ Dp K H vc dc ∧
  GSc cB cC H E db dc fun c => ∃ d, Dp K H v d ∧ VOk c.lines.length d ∧ 0 < c.lines.length ∧ ∀ H', Same H H' → Q (.bl (holdF (lastF c) d)) H'
abbrev NHold : List Str := ["book", "cut", "value", "last", "many", "cells", "moment", "cell"]
theorem scHold : FnScope NHold ["book", "cut", "value"] (defScope sHold) := ⟨rfl, rfl, rfl, by decide +kernel, rfl, by decide +kernel, by decide +kernel⟩
theorem isN_int {d : D} (h : isN d = true) : ∃ n : Nat, d = nD n := by
  unfold isN at h
  rw [Bool.and_eq_true, decide_eq_true_eq] at h
  cases d with
  | int i => exact ⟨i.toNat, by
      have := h.2
      have h2 : 0 ≤ i := this
      exact congrArg PyData.int (show i = ((i.toNat : Nat) : Int) by omega)⟩
  | none => cases h.1
  | bool _ => cases h.1
  | str _ => cases h.1
  | list _ => cases h.1
  | tuple _ => cases h.1
  | dict _ => cases h.1
theorem ok_hold {f fB fN fL fM fS fT fU fW fA : Addr} {fd fdB fdN fdL fdM fdS fdT fdU fdW fdA : FuncData} (F : Fun K "fewest_hold" "fewest_hold" sHold f fd) (Z : Bi mg) (FB : At K mg "need_book" sNeedBook fB fdB ["value"]) (GB : FnOk P w K mg base (L2.CX P w) 6 fB fdB ["value"] (spNeedBook K cB))
    (FN : At K mg "need_cut" sNC fN fdN ["book", "value"]) (GN : FnOk P w K mg base (L2.CX P w) 7 fN fdN ["book", "value"] (spNC K cC))
    (FL : At K mg "last_reads" sLast fL fdL ["cut"]) (FM : At K mg "most_standing" sMost fM fdM ["last"]) (FS : At K mg "standing" sStand fS fdS ["last", "at"])
    (FT : At K mg "is_tuple_of" sTup fT fdT ["many", "value"]) (FU : At K mg "is_number" sNumber fU fdU ["value"]) (GU : FnOk P w K mg base CX0 2 fU fdU ["value"] (spB K isN))
    (FW : At K mg "is_below" sBelow fW fdW ["many", "value"]) (GW : FnOk P w K mg base CX0 3 fW fdW ["many", "value"] (spB1 K isB)) (FA : At K mg "are_apart" sApart fA fdA ["last", "cells"]) :
    FnOk P w K mg base (L2.CX P w) 8 f fd ["book", "cut", "value"] (spHold K cB cC) := by
  have GL : FnOk P w K mg base CX0 1 fL fdL ["cut"] (spLast K) := ok_last FL.F Z
  have GM : FnOk P w K mg base CX0 2 fM fdM ["last"] spMost := ok_most FM.F Z FS
  have GS : FnOk P w K mg base CX0 1 fS fdS ["last", "at"] spStand := ok_stand FS.F Z
  have GT : FnOk P w K mg base CX0 1 fT fdT ["many", "value"] (spB1 K isTup) := ok_tup FT.F Z
  have GA : FnOk P w K mg base CX0 2 fA fdA ["last", "cells"] (spApart K) := ok_apart FA.F Z FS
  refine F.okX scHold (fun vs H Q E h => ?_) (fun cdv A outer sh H vs Q E hr h => ?_)
  · obtain ⟨vb, vc, v, db, dc, rfl, _⟩ := h
    rfl
  · obtain ⟨vb, vc, v, db, dc, rfl, hb, hc, sc⟩ := h
    refine ⟨_, pss_cons (ps_set (i := 0) scHold.nd rfl (Or.inl rfl) (pe_callS GB (hr.mono (by decide)) rfl FB.g FB.F.kp FB.b (fun σ => passAt (takes_of rfl rfl rfl rfl) σ) (by exact (pa_cons (pv 0) pa_nil))))
      (pss_cons (ps_set (i := 3) scHold.nd rfl (Or.inl rfl) (pe_call GL (hr.mono (by decide)) rfl FL.g FL.F.kp FL.b .nil pass0 (by exact (pa_cons (pe_callS GN (hr.mono (by decide)) rfl FN.g FN.F.kp FN.b (fun σ => passAt (takes_of rfl rfl rfl rfl) σ) (by exact (pa_cons (pv 0) (pa_cons (pv 1) pa_nil)))) pa_nil))))
      (pss_cons (ps_if (PW.pt (pw_or (pt_not (pt_val (pe_call GT (hr.mono (by decide)) rfl FT.g FT.F.kp FT.b .nil pass0 (by exact (pa_cons pe_int (pa_cons (pv 2) pa_nil))))))
          (pw_or (pt_not (pt_val (pe_call GU (hr.mono (by decide)) rfl FU.g FU.F.kp FU.b .nil pass0 (by exact (pa_cons (pe_ix ix_tup (pv 2) pe_int (fun _ _ => rfl)) pa_nil)))))
          (pw_or1 (pt_not (pt_val (pe_call GT (hr.mono (by decide)) rfl FT.g FT.F.kp FT.b .nil pass0 (by exact (pa_cons (pe_callB call_len_seq (by rfl) Z.len PySem.boot_len (pa_cons (pv 3) pa_nil)) (pa_cons (pe_ix ix_tup (pv 2) pe_int (fun _ _ => rfl)) pa_nil)))))))))) (pss_one (ps_ret pe_bl)) pss_nil)
      (pss_cons (ps_asg (pv 2) (pg_tup rfl (pgs_cons (pg_name (i := 4) scHold.nd rfl (Or.inr rfl)) (pgs_cons (pg_name (i := 5) scHold.nd rfl (Or.inl rfl)) (pgs_cons (pg_name (i := 6) scHold.nd rfl (Or.inl rfl)) pgs_nil)))))
      (pss_cons (ps_if (PW.pt (pw_or (pt_cmpR op_ne (pv 4) (pe_call GM (hr.mono (by decide)) rfl FM.g FM.F.kp FM.b .nil pass0 (by exact (pa_cons (pv 3) pa_nil))) (nomark _))
          (pw_or1 (pt_not (pt_val (pe_callB (cr_all rfl) (by rfl) Z.all (by decide +kernel) (pa_cons (pe_lc (own := [("cell", 7)]) (g := gName 7) (tt := tYes) (te := tCall (spB1 K isB) [] E0 (tCons (tVar 4) (tCons (tVar 7) tNil))) rfl scHold.nd (pi_tup (pv 5))
            (blkOk_by (N := NHold) (sc := defScope sHold) (by decide +kernel)) (fun _ _ _ _ _ => pg_name (i := 7) scHold.nd rfl (Or.inl rfl)) (fun _ _ _ _ _ => pts_nil) (fun _ _ _ _ _ => pe_call GW (hr.mono (by decide)) (by rfl) FW.g FW.F.kp FW.b .nil pass0 (by exact (pa_cons (pv 4) (pa_cons (pv 7) pa_nil))))) pa_nil))))))) (pss_one (ps_ret pe_bl)) pss_nil)
      (pss_cons (ps_if (pt_cmpR op_eq (pe_callB call_len_seq (by rfl) Z.len PySem.boot_len (pa_cons (pv 3) pa_nil)) pe_int (nomark _)) pss_dead pss_nil)
      (pss_one (ps_ret (pe_and (pe_call GW (hr.mono (by decide)) rfl FW.g FW.F.kp FW.b .nil pass0 (by exact (pa_cons (pe_callB call_len_seq (by rfl) Z.len PySem.boot_len (pa_cons (pv 3) pa_nil)) (pa_cons (pv 6) pa_nil))))
        (pe_and (pe_cmpR op_eq (pe_callB call_len_seq (by rfl) Z.len PySem.boot_len (pa_cons (pe_call GS (hr.mono (by decide)) rfl FS.g FS.F.kp FS.b .nil pass0 (by exact (pa_cons (pv 3) (pa_cons (pv 6) pa_nil)))) pa_nil)) (pv 4) (nomark _))
        (pe_one (pe_call GA (hr.mono (by decide)) rfl FA.g FA.F.kp FA.b .nil pass0 (by exact (pa_cons (pv 3) (pa_cons (pv 5) pa_nil)))))))))))))), ?_⟩
    refine ⟨_, rfl, book_rd hb ?_⟩
    rcases sc with ⟨e, t⟩ | ⟨s, ops, rfl, okb, sc⟩
    · exact .inl ⟨e, t⟩
    refine .inr ⟨s, ops, rfl, okb, fun H1 vb' s1 hb' => ?_⟩
    refine ⟨_, rfl, _, rfl, s, ops, _, vc, dc, rfl, hb', dp_same s1 hc, ?_⟩
    rcases sc with sc | ⟨c, rfl, ok, d, hd, vok, c0, k⟩
    · exact sc.imp fun u ⟨ne, t⟩ => .inr ⟨ne, t.same s1⟩
    refine .inr ⟨c, _, rfl, ok, .inr ⟨rfl, .inl ⟨rfl, fun H2 s2 => ?_⟩⟩⟩
    have ll : (lastF c).length = c.lines.length := lastF_len c
    have n8 := ok.n8
    refine ⟨s, ops, vc, c, rfl, dp_same (s1.trans s2) hc, ok, fun H3 p s3 hp ep => ?_⟩
    generalize lastF c = last at ll ep k
    rw [← ll] at vok c0
    have l8 : last.length ≤ 8 := by omega
    have s03 : Same H H3 := s1.trans (s2.trans s3)
    have no : holdF last d = false → ∀ H', Same H3 H' → Q (.bl false) H' := fun e H' s' => by
      have := k H' (s03.trans s')
      rw [e] at this
      exact this
    have ep3 := ep
    refine ⟨_, rfl, 3, v, d, rfl, dp_same s03 hd, fun H4 s4 => ⟨_, rfl, ?_⟩⟩
    by_cases t3 : isTup 3 d = true
    case neg =>
      have hf : isTup 3 d = false := by simpa using t3
      exact go_t (by rw [hf]; rfl) (go_t rfl (no (by unfold holdF; exact and_f hf) H4 s4))
    refine go_f (by rw [t3]; rfl) ?_
    have eH : holdF last d = (isN (it d 0) && (isTup last.length (it d 1) && ((decide (intV (it d 0) = (mostF last : Nat)) && (items (it d 1)).all (isB (intV (it d 0)))) &&
      (isB last.length (it d 2) && (decide (((standF last (intV (it d 2)).toNat).length : Int) = intV (it d 0)) && apartN last (natsD (it d 1)) last.length))))) := and_t t3
    obtain ⟨d0, d1, d2, rfl⟩ : ∃ d0 d1 d2, d = .tuple [d0, d1, d2] := by
      cases d with
      | tuple ds =>
        have h3 : ds.length = 3 := by
          have := of_decide_eq_true (show decide ((ds.length : Int) = 3) = true from t3)
          omega
        match ds, h3 with
        | [a, b, c], _ => exact ⟨a, b, c, rfl⟩
      | none | bool _ | int _ | str _ | list _ | dict _ => cases t3
    have vok := vok t3
    replace eH : holdF last (.tuple [d0, d1, d2]) = (isN d0 && (isTup last.length d1 && ((decide (intV d0 = (mostF last : Nat)) && (items d1).all (isB (intV d0))) &&
      (isB last.length d2 && (decide (((standF last (intV d2).toNat).length : Int) = intV d0) && apartN last (natsD d1) last.length))))) := eH
    replace vok : isTup last.length d1 = true → ∃ cs, d1 = rN cs := vok
    obtain ⟨av, x0, x1, x2, rfl, qv, h0, h1, h2⟩ := dp3 (dp_same s03 hd)
    refine ⟨_, rfl, av, _, _, _, rfl, rfl, seqT s4 qv, atI_nat (j := 0) rfl, x0, d0, rfl, dp_same s4 h0, fun H5 s5 => ⟨_, rfl, ?_⟩⟩
    have s35 := s4.trans s5
    by_cases n0 : isN d0 = true
    case neg =>
      have hf : isN d0 = false := by simpa using n0
      exact go_t (by rw [hf]; rfl) (go_t rfl (no (by rw [eH]; exact and_f hf) H5 s35))
    refine go_f (by rw [n0]; rfl) ?_
    rw [and_t n0] at eH
    refine ⟨_, rfl, p, _, rfl, .inl (SqL.of (s35 _ _ ep)), _, rfl, av, _, _, _, rfl, rfl, seqT s35 qv, atI_nat (j := 1) rfl, _, x1, d1, rfl, dp_same s35 h1, fun H6 s6 => ⟨_, rfl, ?_⟩⟩
    have s36 := s35.trans s6
    rw [List.length_map]
    by_cases t1 : isTup last.length d1 = true
    case neg =>
      have hf : isTup last.length d1 = false := by simpa using t1
      exact go_t (by rw [hf]; rfl) (no (by rw [eH]; exact and_f hf) H6 s36)
    refine go_f (by rw [t1]; rfl) ?_
    rw [and_t t1] at eH
    obtain ⟨cs, rfl⟩ := vok t1
    obtain ⟨m, rfl⟩ := isN_int n0
    obtain rfl := dp_nat h0
    have lc : cs.length = last.length := by
      have := of_decide_eq_true (show decide (((cs.map nD).length : Int) = last.length) = true from t1)
      rw [List.length_map] at this
      omega
    obtain ⟨ac, xc, rfl, qc, rc⟩ := dp_tup h1
    obtain rfl := dpAll_nat rc
    refine ⟨_, rfl, av, _, rfl, seqT s36 qv, rfl, _, _, rfl, _, _, rfl, _, _, rfl, rfl, ?_⟩
    refine ⟨_, rfl, _, rfl, p, last, rfl, s36 _ _ ep, l8, fun H7 s7 => ⟨rfl, _, rfl, ?_⟩⟩
    have s37 := s36.trans s7
    rw [natsD_r] at eH
    by_cases em : m = mostF last
    case neg =>
      refine go_t (by
        show (!decide (nV m = nV (mostF last))) = true
        rw [decide_eq_false fun z => em (by have := V.int.inj z; omega)]
        rfl) (go_t rfl (no ?_ H7 s37))
      rw [eH]
      refine and_f (and_f (decide_eq_false fun z => em ?_))
      have z : (m : Int) = (mostF last : Nat) := z
      omega
    refine go_f (by
      show (!decide (nV m = nV (mostF last))) = false
      rw [decide_eq_true (congrArg nV em)]
      rfl) ?_
    have e1 : decide (intV (nD m) = ((mostF last : Nat) : Int)) = true := decide_eq_true (by rw [em]; rfl)
    rw [and_t e1] at eH
    replace eH : holdF last (.tuple [nD m, rN cs, d2]) = ((cs.map nD).all (isB m) &&
      (isB last.length d2 && (decide (((standF last (intV d2).toNat).length : Int) = m) && apartN last cs last.length))) := eH
    refine ⟨_, rfl, ac, rfl, ⟨_, seqT s37 qc⟩, fun D hD => walk_it (walk_tup (K := K) (a := ac) (xs := cs.map nV)) (fun i H' => Same H7 H' ∧ H' D = some (.lst ((cs.take i).map fun x => V.bl (isB m (nD x))))) ⟨same_new hD, upd_same⟩ (fun i H' _ p => seqT (s37.trans p.1) qc) ?_ ?_⟩
    · rintro i x _ H8 hi ⟨s8, eD⟩ ⟨rfl, hx⟩
      rw [List.getElem?_map] at hx
      obtain ⟨y, hy, rfl⟩ := Option.map_eq_some_iff.mp hx
      refine ⟨rfl, _, rfl, _, rfl, m, _, nD y, rfl, .int _, fun H9 s9 => ⟨_, s9 _ _ eD, ?_, same_of (s8.trans s9) hD, ?_⟩⟩
      · rw [List.length_map, List.length_take, sizeLine_eq]
        omega
      · rw [upd_same, take_more hy, List.map_append]
        rfl
    rintro H8 ⟨s8, eD⟩
    rw [List.length_map, List.take_length] at eD
    have s38 := s37.trans s8
    refine ⟨D, cs.map fun x => isB m (nD x), rfl, (by rw [List.map_map]; exact SqL.of eD), _, rfl, ?_⟩
    rw [show ((cs.map fun x => isB m (nD x)).all id) = (cs.map nD).all (isB m) from by rw [List.all_map, List.all_map]; rfl]
    by_cases ea : (cs.map nD).all (isB m) = true
    case neg =>
      have hf : (cs.map nD).all (isB m) = false := by simpa using ea
      exact go_t (by rw [hf]; rfl) (no (by rw [eH]; exact and_f hf) H8 s38)
    refine go_f (by rw [ea]; rfl) ?_
    rw [and_t ea] at eH
    refine ⟨_, rfl, p, _, rfl, .inl (SqL.of (s38 _ _ ep)), rfl, _, rfl, go_f (decide_eq_false fun z => ?_) ?_⟩
    · have := V.int.inj z
      rw [List.length_map] at this
      omega
    refine ⟨_, rfl, p, _, rfl, .inl (SqL.of (s38 _ _ ep)), _, rfl, _, x2, d2, rfl, dp_same s38 h2, fun H9 s9 => ⟨_, rfl, ?_⟩⟩
    have s39 := s38.trans s9
    rw [List.length_map]
    by_cases b2 : isB last.length d2 = true
    case neg =>
      have hf : isB last.length d2 = false := by simpa using b2
      exact go_f hf (no (by rw [eH]; exact and_f hf) H9 s39)
    refine go_t b2 ?_
    rw [and_t b2] at eH
    obtain ⟨t, rfl⟩ := isN_int (by
      unfold isB at b2
      rw [Bool.and_eq_true] at b2
      exact b2.1)
    obtain rfl := dp_nat h2
    rw [isB_n, decide_eq_true_eq] at b2
    refine ⟨_, rfl, _, rfl, p, last, t, rfl, s39 _ _ ep, b2, l8, fun Ha r sa hra er => ⟨r, _, rfl, .inl (SqL.of er), _, rfl, rfl, _, rfl, ?_⟩⟩
    have s3a := s39.trans sa
    have et : (intV (nD t)).toNat = t := by
      show ((t : Int)).toNat = t
      omega
    rw [et] at eH
    rw [show (decide (V.int ((((standF last t).map nV).length : Nat) : Int) = V.int ((m : Nat) : Int))) = decide (((standF last t).length : Int) = m) from by
      rw [List.length_map]
      by_cases z : (((standF last t).length : Nat) : Int) = (m : Nat)
      · rw [decide_eq_true z, decide_eq_true (congrArg V.int z)]
      · rw [decide_eq_false z, decide_eq_false fun q => z (V.int.inj q)]]
    by_cases es : (((standF last t).length : Nat) : Int) = (m : Nat)
    case neg =>
      exact go_f (decide_eq_false es) (no (by rw [eH]; exact and_f (decide_eq_false es)) Ha s3a)
    refine go_t (decide_eq_true es) ?_
    rw [and_t (decide_eq_true es)] at eH
    refine ⟨_, rfl, _, rfl, p, ac, last, cs, rfl, s3a _ _ ep, l8, seqT s3a qc, lc, fun Hb sb => ?_⟩
    have := k Hb (s03.trans (s3a.trans sb))
    rw [eH] at this
    exact this
end
end K74
/-! the draws. -/
namespace K74
open PySem L2 FX SQ
theorem lay_i : ∀ ns : List Int, PyData.canLayAll0 (ns.map PyData.int) = true
  | [] => rfl
  | n :: r => lay_i r
theorem shaped_i (ns : List Int) : SeqAt.shaped (.list (ns.map PyData.int)) = true := by
  unfold SeqAt.shaped
  rw [Bool.and_eq_true]
  refine ⟨lay_i ns, decide_eq_true ?_⟩
  have := depthI ns
  show PyData.depth (.list (ns.map PyData.int)) ≤ 64
  simp only [PyData.depth]
  omega
theorem eqv_i (ns : List Int) : PyData.eqv (.list (ns.map PyData.int)) (.list []) = ns.isEmpty := by
  cases ns <;> rfl
theorem atI_last {xs : List Int} {n : Nat} (h : xs.length = n + 1) : ∃ y, atI (xs.map V.int) (-1) = some (V.int y) ∧ (xs.map V.int)[(xs.map V.int).length - 1]? = some (V.int y) := by
  obtain ⟨y, e⟩ : ∃ y, (xs.map V.int)[n]? = some (V.int y) := ⟨xs[n]'(by omega), by
    rw [List.getElem?_map, List.getElem?_eq_getElem (by omega)]
    rfl⟩
  refine ⟨y, ?_, ?_⟩
  · unfold atI ixN
    rw [List.length_map, if_neg (by decide), if_pos (by omega), h]
    show (xs.map V.int)[((-1 : Int) + ((n + 1 : Nat) : Int)).toNat]? = _
    rw [show ((-1 : Int) + ((n + 1 : Nat) : Int)).toNat = n from by omega]
    exact e
  · rw [List.length_map, h]
    exact e
theorem fin_nat {m : Nat} (m0 : 0 < m) (z : Int) {Q : VK} {H' : Hp} (h : ∀ j : Nat, j < m → Q (nV j) H') : Q (.int (z % (m : Int))) H' := by
  have r0 := Int.emod_nonneg z (show (m : Int) ≠ 0 by omega)
  have r1 := Int.emod_lt_of_pos z (show (0 : Int) < m by omega)
  obtain ⟨j, hj⟩ : ∃ j : Nat, z % (m : Int) = (j : Int) := ⟨(z % (m : Int)).toNat, by omega⟩
  rw [hj] at r1 ⊢
  exact h j (by omega)
/-- a deal: the list of the numbers left, and the blend -/
def Deal (H : Hp) (p l : Addr) : Prop := p ≠ l ∧ ∃ (xs : List Int) (b : Int), H p = some (.lst [.ref l, .int b]) ∧ H l = some (.lst (xs.map V.int)) ∧ xs.length ≤ 48
/-- all but the deal as it was -/
def But2 (p l : Addr) (H H' : Hp) : Prop := ∀ c o, H c = some o → c ≠ p → c ≠ l → H' c = some o
theorem But2.refl (p l : Addr) (H : Hp) : But2 p l H H := fun _ _ e _ _ => e
theorem But2.trans {p l : Addr} {H H1 H2 : Hp} (a : But2 p l H H1) (b : But2 p l H1 H2) : But2 p l H H2 := fun c o e n m => b c o (a c o e n m) n m
theorem But2.of {p l : Addr} {H H1 : Hp} (s : Same H H1) : But2 p l H H1 := fun c o e _ _ => s c o e
theorem But2.put {p l : Addr} {H H1 : Hp} {o : HO} (a : But2 p l H H1) : But2 p l H (upd H1 p o) := fun c u e n m => by
  rw [upd_ne n]
  exact a c u e n m
theorem But2.putl {p l : Addr} {H H1 : Hp} {o : HO} (a : But2 p l H H1) : But2 p l H (upd H1 l o) := fun c u e n m => by
  rw [upd_ne m]
  exact a c u e n m
theorem Deal.same {p l : Addr} {H H1 : Hp} (d : Deal H p l) (s : Same H H1) : Deal H1 p l := by
  obtain ⟨n, xs, b, e1, e2, h⟩ := d
  exact ⟨n, xs, b, s _ _ e1, s _ _ e2, h⟩
section
variable {P : Program} {w : World} {K : PySem.W.Frag} {mg : Str → Option Value} {base : Heap}
abbrev sAny : Stmt := top 34
abbrev sOf : Stmt := top 35
def spAny : Sp := fun vs H Q _ => ∃ (p l : Addr) (m : Nat), vs = [.ref p, nV m] ∧ 0 < m ∧ m < 1000 ∧ Deal H p l ∧ ∀ (H' : Hp) (j : Nat), But2 p l H H' → Deal H' p l → j < m → Q (nV j) H'
abbrev NAny : List Str := ["deal", "bound", "rest"]
theorem scAny : FnScope NAny ["deal", "bound"] (defScope sAny) := ⟨rfl, rfl, rfl, by decide +kernel, rfl, by decide +kernel, by decide +kernel⟩
theorem ok_any {f : Addr} {fd : FuncData} (F : Fun K "_law_any" "_law_any" sAny f fd) (Z : Bi mg) : FnOk P w K mg base CX0 1 f fd ["deal", "bound"] spAny := by
  refine F.ok scAny (fun vs H Q E h => ?_) (fun cdv A outer s H vs Q E hr h => ?_)
  · obtain ⟨p, l, m, rfl, _⟩ := h
    rfl
  · obtain ⟨p, l, m, rfl, m0, m1, ⟨pl, xs, b, hp, hl, h48⟩, k⟩ := h
    have hu := hr65 hr
    refine ⟨_, pss_cons (ps_while PassesOwn.never (PW.pt (pw_and (pt_cmpR (op_neD (Nat.lt_of_le_of_lt (Nat.add_le_add_left (by decide : 64 ≤ 65) _) hu)) (pe_ix ix_list (pv 0) pe_int (fun _ _ => rfl)) (pe_lst pa_nil) (nomark _))
          (pw_and1 (pt_cmpR op_eq (pe_ix ix_list (pe_ix ix_list (pv 0) pe_int (fun _ _ => rfl)) (pe_un un_neg pe_int) (fun _ _ => rfl)) pe_int (nomark _)))))
        (pss_one (ps_expr (pe_bm0 PySem.F.plainAttrs_list PySem.F.slot_list_pop PySem.F.type_list_pop mt_pop (pe_ix ix_list (pv 0) pe_int (fun _ _ => rfl))))))
      (pss_cons (ps_if (pt_cmpR (op_neD (Nat.lt_of_le_of_lt (Nat.add_le_add_left (by decide : 64 ≤ 65) _) hu)) (pe_ix ix_list (pv 0) pe_int (fun _ _ => rfl)) (pe_lst pa_nil) (nomark _))
        (pss_cons (ps_set (i := 2) scAny.nd rfl (Or.inl rfl) (pe_callTy call_int1 (by rfl) Z.int (by decide +kernel) (pa_cons (pe_bm0 PySem.F.plainAttrs_list PySem.F.slot_list_pop PySem.F.type_list_pop mt_pop (pe_ix ix_list (pv 0) pe_int (fun _ _ => rfl))) pa_nil)))
        (pss_cons (ps_expr (pe_bm PySem.F.plainAttrs_list PySem.F.slot_list_append PySem.F.type_list_append mt_append (pe_ix ix_list (pv 0) pe_int (fun _ _ => rfl)) (pa_cons (pe_op op_fdiv (pv 2) (pv 1)) pa_nil)))
        (pss_one (ps_ret (pe_op op_mod (pv 2) (pv 1)))))) pss_nil)
      (pss_cons (ps_asg (pe_op op_mod (pe_callTy call_int1 (by rfl) Z.int (by decide +kernel) (pa_cons (pe_op op_add (pe_op op_mul (pe_ix ix_list (pv 0) pe_int (fun _ _ => rfl)) pe_int) pe_int) pa_nil)) pe_int) (pg_sub (pv 0) pe_int set_list))
      (pss_one (ps_ret (pe_op op_mod (pe_callTy call_int1 (by rfl) Z.int (by decide +kernel) (pa_cons (pe_op op_fdiv (pe_ix ix_list (pv 0) pe_int (fun _ _ => rfl)) pe_int) pa_nil)) (pv 1)))))), ?_⟩
    have dpl : ∀ (H' : Hp) (ys : List Int), H' l = some (.lst (ys.map V.int)) → Dp K H' (.ref l) (.list (ys.map PyData.int)) := fun H' ys e => .lst (SqL.of e) (dpI ys)
    refine ⟨fun n σ H' => ∃ ys : List Int, n = ys.length ∧ ys.length ≤ 48 ∧ σ = [some (.ref p), some (nV m), none] ∧ But2 p l H H' ∧ H' p = some (.lst [.ref l, .int b]) ∧ H' l = some (.lst (ys.map V.int)), ⟨_, xs, rfl, h48, rfl, But2.refl p l H, hp, hl⟩, ?_⟩
    rintro n σ H1 ⟨ys, rfl, y48, rfl, b1, ep, el⟩
    refine ⟨_, rfl, p, _, _, _, rfl, rfl, SqL.of ep, atI_nat (j := 0) rfl, (by show 0 ≤ sizeLine; decide), fun e he => ?_⟩
    have s2 := same_new (o := .lst []) he
    refine ⟨.list (ys.map PyData.int), .list [], dpl _ ys (s2 _ _ el), .lst (SqL.of upd_same) .nil, shaped_i _, rfl, _, rfl, ?_⟩
    rw [eqv_i]
    have b2 := b1.trans (But2.of s2)
    have ep2 := s2 _ _ ep
    have el2 := s2 _ _ el
    generalize upd H1 e (.lst []) = H2 at b2 ep2 el2
    cases hy : ys with
    | nil =>
      subst hy
      refine go_f rfl ?_
      refine ⟨_, rfl, p, _, _, _, rfl, rfl, SqL.of ep2, atI_nat (j := 0) rfl, (by show 0 ≤ sizeLine; decide), fun e he => ?_⟩
      have s3 := same_new (o := .lst []) he
      refine ⟨.list [], .list [], .lst (SqL.of (s3 _ _ el2)) .nil, .lst (SqL.of upd_same) .nil, rfl, rfl, _, rfl, go_f rfl ?_⟩
      have b3 := b2.trans (But2.of s3)
      have ep3 := s3 _ _ ep2
      have el3 := s3 _ _ el2
      generalize upd H2 e (.lst []) = H3 at b3 ep3 el3
      refine ⟨_, rfl, p, _, _, _, rfl, rfl, SqL.of ep3, atI_nat (j := 1) rfl, _, _, rfl, rfl, .inr ⟨by decide, by decide⟩, _, _, rfl, rfl, .inl ⟨_, rfl, ?_⟩⟩
      refine ⟨_, _, rfl, rfl, (by show (0 : Int) < 2147483647; decide), _, rfl, p, _, _, 1, rfl, rfl, ep3, rfl, ?_⟩
      refine ⟨_, rfl, p, _, _, _, rfl, rfl, SqL.of upd_same, atI_nat (j := 1) rfl, _, _, rfl, rfl, ⟨by decide, by decide⟩, .inl ⟨_, rfl, _, rfl, _, _, rfl, rfl, (by show (0 : Int) < (m : Int); omega), ?_⟩⟩
      exact fin_nat m0 _ fun j hj => k _ j b3.put ⟨pl, [], _, upd_same, by rw [upd_ne (Ne.symm pl)]; exact el3, by decide⟩ hj
    | cons y0 yr =>
      refine go_t rfl ?_
      obtain ⟨y, ea, eg⟩ := atI_last (xs := ys) (n := yr.length) (by rw [hy]; rfl)
      refine ⟨_, rfl, p, _, _, _, rfl, rfl, SqL.of ep2, atI_nat (j := 0) rfl, _, rfl, l, _, _, _, rfl, rfl, SqL.of el2, ea, rfl, _, rfl, ?_⟩
      by_cases c : V.int y = V.int 0
      · refine go_t (decide_eq_true c) ?_
        refine ⟨fun σ' H' => σ' = [some (.ref p), some (nV m), none] ∧ But2 p l H H' ∧ H' p = some (.lst [.ref l, .int b]) ∧ H' l = some (.lst (ys.dropLast.map V.int)), ?_, _, rfl, p, _, _, _, rfl, rfl, SqL.of ep2, atI_nat (j := 0) rfl, .inl ⟨rfl, _, SqL.of el2⟩, l, _, _, rfl, rfl, el2, eg, ?_⟩
        · rintro σ' H' ⟨rfl, b', p', l'⟩
          refine ⟨_, ?_, ys.dropLast, rfl, by rw [List.length_dropLast]; omega, rfl, b', p', l'⟩
          rw [List.length_dropLast, hy, List.length_cons]
          omega
        · exact ⟨rfl, b2.putl, by rw [upd_ne pl]; exact ep2, by rw [upd_same, List.map_dropLast]⟩
      · refine go_f (decide_eq_false c) ?_
        refine ⟨_, rfl, p, _, _, _, rfl, rfl, SqL.of ep2, atI_nat (j := 0) rfl, (by show 0 ≤ sizeLine; decide), fun e he => ?_⟩
        have s3 := same_new (o := .lst []) he
        refine ⟨.list (ys.map PyData.int), .list [], dpl _ ys (s3 _ _ el2), .lst (SqL.of upd_same) .nil, shaped_i _, rfl, _, rfl, ?_⟩
        rw [eqv_i]
        refine go_t (by rw [hy]; rfl) ?_
        have b3 := b2.trans (But2.of s3)
        have ep3 := s3 _ _ ep2
        have el3 := s3 _ _ el2
        generalize upd H2 e (.lst []) = H3 at b3 ep3 el3
        refine ⟨_, rfl, p, _, _, _, rfl, rfl, SqL.of ep3, atI_nat (j := 0) rfl, .inl ⟨rfl, _, SqL.of el3⟩, l, _, _, rfl, rfl, el3, eg, .inl ⟨_, rfl, ?_⟩⟩
        have ep4 : upd H3 l (.lst (ys.map V.int).dropLast) p = some (.lst [.ref l, .int b]) := by rw [upd_ne pl]; exact ep3
        refine ⟨_, rfl, p, _, _, _, rfl, rfl, SqL.of ep4, atI_nat (j := 0) rfl, .inl ⟨rfl, _, SqL.of upd_same⟩, _, rfl, _, rfl, _, _, rfl, rfl, ⟨by show (0 : Int) < (m : Int); omega, by show (m : Int) < _; omega⟩, l, _, _, rfl, rfl, upd_same, ?_, ?_⟩
        · rw [List.length_dropLast, List.length_map, sizeLine_eq]
          omega
        · refine ⟨_, rfl, _, rfl, _, _, rfl, rfl, (by show (0 : Int) < (m : Int); omega), ?_⟩
          have l48 : (ys.dropLast ++ [y / (m : Int)]).length ≤ 48 := by
            have e1 : ys.length = yr.length + 1 := by rw [hy]; rfl
            rw [List.length_append, List.length_dropLast]
            show _ + 1 ≤ 48
            omega
          refine fin_nat (Q := Q) m0 _ fun j hj => k _ j (b3.putl).putl ⟨pl, ys.dropLast ++ [y / (m : Int)], b, by rw [upd_ne pl, upd_ne pl]; exact ep3, ?_, l48⟩ hj
          rw [upd_same, List.map_append, List.map_dropLast]
          rfl
end
end K74
namespace K74
open PySem L2 FX SQ
section
variable {P : Program} {w : World} {K : PySem.W.Frag} {mg : Str → Option Value} {base : Heap}
abbrev sDraw : Stmt := top 33
theorem ite_any {b : Bool} {A B : Prop} (h1 : A) (h2 : B) : if b = true then A else B := by
  cases b
  · exact h2
  · exact h1
theorem sqK_but {K : PySem.W.Frag} {H H' : Hp} {p l a : Addr} {xs : List V} (b : But2 p l H H') (n : a ≠ p) (m : a ≠ l) : ∀ {kd : SQ.Kd}, SQ.SqK K H kd a xs → SQ.SqK K H' kd a xs
  | .L, q => by
    rcases q with (h | ⟨o, h⟩) | h
    · exact .inl (.inl (b a _ h n m))
    · exact .inl (.inr ⟨o, b a _ h n m⟩)
    · exact .inr h
  | .T, q => by
    rcases q with (h | ⟨o, h⟩) | h
    · exact .inl (.inl (b a _ h n m))
    · exact .inl (.inr ⟨o, b a _ h n m⟩)
    · exact .inr h
def spOf (K : PySem.W.Frag) : Sp := fun vs H Q _ => ∃ (p l a : Addr) (kd : SQ.Kd) (xs : List V), vs = [.ref p, .ref a] ∧ a ≠ p ∧ a ≠ l ∧ Deal H p l ∧ SQ.SqK K H kd a xs ∧ 0 < xs.length ∧ xs.length < 1000 ∧ ∀ (H' : Hp) (v : V), But2 p l H H' → Deal H' p l → v ∈ xs → Q v H'
theorem scOf : FnScope ["deal", "some"] ["deal", "some"] (defScope sOf) := ⟨rfl, rfl, rfl, by decide +kernel, rfl, by decide +kernel, by decide +kernel⟩
theorem ok_of {f ft : Addr} {fd fdt : FuncData} (F : Fun K "_law_of" "_law_of" sOf f fd) (Z : Bi mg) (Ft : At K mg "_law_any" sAny ft fdt ["deal", "bound"]) : FnOk P w K mg base CX0 2 f fd ["deal", "some"] (spOf K) := by
  have Gt : FnOk P w K mg base CX0 1 ft fdt ["deal", "bound"] spAny := ok_any Ft.F Z
  refine F.ok scOf (fun vs H Q E h => ?_) (fun cdv A outer s H vs Q E hr h => ?_)
  · obtain ⟨p, l, a, kd, xs, rfl, _⟩ := h
    rfl
  · obtain ⟨p, l, a, kd, xs, rfl, n1, n2, hb, hl, l0, l1, k⟩ := h
    refine ⟨_, pss_one (ps_ret (pe_ix ix_seq (pv 1) (pe_call Gt hr rfl Ft.g Ft.F.kp Ft.b .nil pass0 (by exact (pa_cons (pv 0) (pa_cons (pe_callB call_len_seq (by rfl) Z.len PySem.boot_len (pa_cons (pv 1) pa_nil)) pa_nil)))) (fun _ _ => rfl))), ?_⟩
    have hlS : SqL K H a xs ∨ SqT K H a xs := by
      cases kd with
      | L => exact .inl hl
      | T => exact .inr hl
    refine ⟨_, rfl, _, rfl, _, rfl, a, xs, rfl, hlS, p, l, xs.length, rfl, l0, l1, hb, fun H' j bt hb' hj => ?_⟩
    have kk := k H' _ bt hb' (List.getElem_mem hj)
    have q := sqK_but bt n1 n2 hl
    cases kd with
    | L => exact .inl ⟨a, xs, _, _, rfl, rfl, q, atI_nat (List.getElem?_eq_getElem hj), kk⟩
    | T => exact .inr (.inl ⟨a, xs, _, _, rfl, rfl, q, atI_nat (List.getElem?_eq_getElem hj), kk⟩)
def spDraw (K : PySem.W.Frag) : Sp := fun vs H Q _ => ∃ (a : Addr) (k : Nat) (ns : List Int), vs = [.ref a, nV k] ∧ SqL K H a (ns.map V.int) ∧ k < 1000 ∧ ∀ (H' : Hp) (p l : Addr), Same H H' → H p = none → H l = none → Deal H' p l → Q (.ref p) H'
abbrev NDraw : List Str := ["script", "salt", "cells", "blend", "cell"]
theorem scDraw : FnScope NDraw ["script", "salt"] (defScope sDraw) := ⟨rfl, rfl, rfl, by decide +kernel, rfl, by decide +kernel, by decide +kernel⟩
theorem cut48 (ns : List Int) : ∃ ms : List Int, cutV (ns.map V.int) none (some 48) = ms.map V.int ∧ ms.length ≤ 48 := by
  refine ⟨ns.take (min 48 ns.length), ?_, ?_⟩
  · unfold cutV
    rw [HT.sIx_none, List.drop_zero, Nat.sub_zero, show (some (48 : Int)) = some ((48 : Nat) : Int) from rfl, HT.sIx_nat, List.length_map, List.map_take]
  · rw [List.length_take]
    omega
theorem ok_draw {f : Addr} {fd : FuncData} (F : Fun K "_law_draw" "_law_draw" sDraw f fd) (Z : Bi mg) : FnOk P w K mg base CX0 1 f fd ["script", "salt"] (spDraw K) := by
  refine F.ok scDraw (fun vs H Q E h => ?_) (fun cdv A outer s H vs Q E hr h => ?_)
  · obtain ⟨a, k, ns, rfl, _⟩ := h
    rfl
  · obtain ⟨a, k, ns, rfl, hS, k1, kk⟩ := h
    refine ⟨_, pss_cons (ps_setLc (i := 2) (own := [("cell", 4)]) (g := gName 4) (tt := tYes) rfl scDraw.nd rfl rfl (sw_true rfl rfl rfl (by decide +kernel)) (pi_list (pe_slice sl_list (pv 0) po_none (po_some pe_int)))
          (blkOk_by (N := NDraw) (sc := defScope sDraw) (by decide +kernel)) (fun _ _ _ _ _ => pg_name (i := 4) scDraw.nd rfl (Or.inl rfl)) (fun _ _ _ _ _ => pts_nil)
          (fun _ _ _ _ _ => pe_callB call_abs (by rfl) Z.abs (by decide +kernel) (pa_cons (pe_callTy call_int1 (by rfl) Z.int (by decide +kernel) (pa_cons (pv 4) pa_nil)) pa_nil)))
      (pss_cons (ps_set (i := 3) scDraw.nd rfl (Or.inl rfl) (pe_op op_add pe_int (pe_op op_mul pe_int (pv 1))))
      (pss_cons (ps_for PassesOwn.never rfl (pi_list (pv 2)) (pg_name (i := 4) scDraw.nd rfl (Or.inl rfl))
        (pss_one (ps_set (i := 3) scDraw.nd rfl (Or.inl rfl) (pe_op op_mod (pe_callTy call_int1 (by rfl) Z.int (by decide +kernel) (pa_cons (pe_op op_add (pe_op op_add (pe_op op_mul (pv 3) pe_int) (pe_op op_mod (pv 4) pe_int)) pe_int) pa_nil)) pe_int))))
      (pss_one (ps_ret (pe_lst (by exact (pa_cons (pe_revL (pe_lc (own := [("cell", 4)]) (g := gName 4) rfl scDraw.nd (pi_list (pv 2))
          (blkOk_by (N := NDraw) (sc := defScope sDraw) (by decide +kernel)) (fun _ _ _ _ _ => pg_name (i := 4) scDraw.nd rfl (Or.inl rfl)) (fun _ _ _ _ _ => pts_one (pt_cmpR op_ge (pv 4) (pe_op op_pow pe_int pe_int) (nomark _))) (fun _ _ _ _ _ => pv 4))) (pa_cons (pv 3) pa_nil)))))))), ?_⟩
    refine ⟨_, rfl, _, rfl, a, _, rfl, hS, fun z hz => ?_⟩
    obtain ⟨ms, em, m48⟩ := cut48 ns
    have s1 := same_new (o := .lst (cutV (ns.map V.int) none (some 48))) hz
    have qz : SqL K (upd H z (.lst (cutV (ns.map V.int) none (some 48)))) z (ms.map V.int) := SqL.of (by rw [upd_same, em])
    refine ⟨z, rfl, ⟨_, qz⟩, fun D hD => walk_it (walk_list (K := K) (a := z) (xs := ms.map V.int)) (fun i H' => Same (upd H z (.lst (cutV (ns.map V.int) none (some 48)))) H' ∧ ∃ cs : List Int, cs.length = i ∧ H' D = some (.lst (cs.map V.int))) ⟨same_new hD, [], rfl, upd_same⟩ (fun i H' _ p => p.1.seq qz) ?_ ?_⟩
    · rintro i x _ H2 hi ⟨s2, cs, lc, eD⟩ ⟨rfl, hx⟩
      rw [List.getElem?_map] at hx
      obtain ⟨y, hy, rfl⟩ := Option.map_eq_some_iff.mp hx
      have il : i < ms.length := by
        rw [List.length_map] at hi
        exact hi
      refine ⟨rfl, _, rfl, .inl ⟨_, rfl, _, rfl, _, eD, ?_, same_of s2 hD, cs ++ [if y < 0 then -y else y], ?_, ?_⟩⟩
      · rw [List.length_map, lc, sizeLine_eq]
        omega
      · rw [List.length_append, lc]
        rfl
      · rw [upd_same, List.map_append]
        rfl
    rintro H2 ⟨s2, cs, lc, eD⟩
    have c48 : cs.length ≤ 48 := by
      rw [lc, List.length_map]
      exact m48
    have s02 := s1.trans s2
    refine ⟨_, rfl, _, _, rfl, rfl, .inl ⟨by decide, by decide⟩, _, _, rfl, rfl, ?_⟩
    refine ⟨_, rfl, D, rfl, ⟨_, SqL.of eD⟩, for_list (K := K) (a := D) (xs := cs.map V.int) (fun i σ H' => ∃ (bl : Int) (u : Option V), σ = [some (.ref a), some (nV k), some (.ref D), some (.int bl), u] ∧ H' = H2) ⟨_, none, rfl, rfl⟩ (fun i σ H' _ ⟨_, _, _, e⟩ => by rw [e]; exact SqL.of eD) ?_ ?_⟩
    · rintro i x σ _ hx ⟨bl, u, rfl, rfl⟩
      rw [List.getElem?_map] at hx
      obtain ⟨y, hy, rfl⟩ := Option.map_eq_some_iff.mp hx
      refine ⟨_, rfl, _, _, rfl, rfl, .inr ⟨by decide, by decide⟩, _, rfl, _, _, rfl, rfl, (by show (0 : Int) < 2147483549; decide), _, _, rfl, rfl, _, _, rfl, rfl, .inl ⟨_, rfl, ?_⟩⟩
      exact ⟨_, _, rfl, rfl, (by show (0 : Int) < 2147483647; decide), _, _, rfl, rfl⟩
    · rintro σ H9 ⟨bl, u, rfl, e9⟩
      obtain rfl := e9.symm
      refine ⟨_, rfl, D, rfl, ⟨_, SqL.of eD⟩, fun D2 hD2 => walk_it (walk_list (K := K) (a := D) (xs := cs.map V.int)) (fun i H' => Same H2 H' ∧ ∃ ds : List Int, ds.length ≤ i ∧ H' D2 = some (.lst (ds.map V.int))) ⟨same_new hD2, [], Nat.le_refl _, upd_same⟩ (fun i H' _ p => p.1.seq (SqL.of eD)) ?_ ?_⟩
      · rintro i x _ H3 hi ⟨s3, ds, ld, e3⟩ ⟨rfl, hx⟩
        rw [List.getElem?_map] at hx
        obtain ⟨y, hy, rfl⟩ := Option.map_eq_some_iff.mp hx
        have il : i < cs.length := by
          rw [List.length_map] at hi
          exact hi
        refine ⟨rfl, _, rfl, _, _, rfl, rfl, ⟨by decide, by decide, by decide⟩, _, _, rfl, rfl, _, rfl, ?_⟩
        refine ite_any ?_ ?_
        · refine ⟨_, rfl, _, e3, ?_, same_of s3 hD2, ds ++ [y], ?_, ?_⟩
          · rw [List.length_map, sizeLine_eq]
            omega
          · rw [List.length_append]
            show _ + 1 ≤ _
            omega
          · rw [upd_same, List.map_append]
            rfl
        · exact ⟨s3, ds, by omega, e3⟩
      · rintro H3 ⟨s3, ds, ld, e3⟩
        rw [List.length_map] at ld
        refine ⟨D2, _, rfl, SqL.of e3, fun l hl => ⟨_, rfl, (by show 2 ≤ sizeLine; decide), fun p hp => ?_⟩⟩
        have s4 := same_new (o := .lst (ds.map V.int).reverse) hl
        have s5 := same_new (o := .lst [.ref l, .int bl]) hp
        have lp : l ≠ p := fun w => by
          rw [← w, upd_same] at hp
          cases hp
        have s03 := s02.trans s3
        have no : ∀ c, H3 c = none → H c = none := fun c hc => by
          cases e : H c with
          | none => rfl
          | some o =>
            have := s03 _ _ e
            rw [hc] at this
            cases this
        refine kk _ p l ((s03.trans s4).trans s5) (no p ?_) (no l hl) ⟨Ne.symm lp, ds.reverse, bl, upd_same, ?_, ?_⟩
        · rw [upd_ne (Ne.symm lp)] at hp
          exact hp
        · rw [upd_ne lp, upd_same, List.map_reverse]
        · rw [List.length_reverse]
          omega
end
end K74
/-! tuples of numbers, lists of them; the law's own rows. -/
namespace K74
open PySem L2 FX SQ
def Tn (H : Hp) (v : V) (ns : List Nat) : Prop := ∃ a, v = .ref a ∧ H a = some (.tup (ns.map nV))
theorem Tn.same {H H' : Hp} {v : V} {ns : List Nat} (s : Same H H') (t : Tn H v ns) : Tn H' v ns := by
  obtain ⟨a, e, h⟩ := t
  exact ⟨a, e, s _ _ h⟩
theorem Tn.upd {H : Hp} {D : Addr} {l : List V} {o : HO} {v : V} {ns : List Nat} (e : H D = some (.lst l)) (t : Tn H v ns) : Tn (upd H D o) v ns := by
  obtain ⟨a, ea, h⟩ := t
  refine ⟨a, ea, ?_⟩
  rw [upd_ne (by
    rintro rfl
    rw [e] at h
    cases h)]
  exact h
theorem Tn.dp {K : PySem.W.Frag} {H : Hp} {v : V} {ns : List Nat} (t : Tn H v ns) : Dp K H v (rN ns) := by
  obtain ⟨a, rfl, h⟩ := t
  exact .tup (SqT.of h) (dp_n ns)
def TnL (H : Hp) (vs : List V) (L : List (List Nat)) : Prop := vs.length = L.length ∧ ∀ (i : Nat) v ns, vs[i]? = some v → L[i]? = some ns → Tn H v ns
theorem TnL.same {H H' : Hp} {vs : List V} {L : List (List Nat)} (s : Same H H') (h : TnL H vs L) : TnL H' vs L := ⟨h.1, fun i v o a b => (h.2 i v o a b).same s⟩
theorem TnL.upd {H : Hp} {D : Addr} {l : List V} {o : HO} {vs : List V} {L : List (List Nat)} (e : H D = some (.lst l)) (h : TnL H vs L) : TnL (upd H D o) vs L := ⟨h.1, fun i v o a b => (h.2 i v o a b).upd e⟩
theorem TnL.nil {H : Hp} : TnL H [] [] := ⟨rfl, fun i v o a => by cases a⟩
theorem TnL.snoc {H : Hp} {vs : List V} {L : List (List Nat)} {v : V} {x : List Nat} (h : TnL H vs L) (g : Tn H v x) : TnL H (vs ++ [v]) (L ++ [x]) := by
  refine ⟨by rw [List.length_append, List.length_append, h.1]; rfl, fun i v' o' a b => ?_⟩
  by_cases hi : i < vs.length
  · rw [List.getElem?_append_left hi] at a
    rw [List.getElem?_append_left (by rw [← h.1]; exact hi)] at b
    exact h.2 i v' o' a b
  · rw [List.getElem?_append_right (by omega)] at a
    rw [List.getElem?_append_right (by rw [← h.1]; omega), ← h.1] at b
    cases e : i - vs.length with
    | zero =>
      rw [e] at a b
      cases a
      cases b
      exact g
    | succ k =>
      rw [e] at a
      cases a
theorem TnL.cons {H : Hp} {vs : List V} {L : List (List Nat)} {v : V} {x : List Nat} (g : Tn H v x) (h : TnL H vs L) : TnL H (v :: vs) (x :: L) := ⟨by rw [List.length_cons, List.length_cons, h.1], fun i v' o' a b => by
  cases i with
  | zero =>
    cases a
    cases b
    exact g
  | succ i => exact h.2 i v' o' a b⟩
theorem TnL.dp {K : PySem.W.Frag} {H : Hp} : ∀ {vs : List V} {L : List (List Nat)}, TnL H vs L → DpAll K H vs (L.map rN)
  | [], [], _ => .nil
  | [], _ :: _, h => by cases h.1
  | _ :: _, [], h => by cases h.1
  | v :: vs, x :: L, h => .cons (h.2 0 v x rfl rfl).dp (TnL.dp ⟨by simpa using h.1, fun i v' o' a b => h.2 (i + 1) v' o' a b⟩)
theorem TnL.at {H : Hp} {vs : List V} {L : List (List Nat)} {i : Nat} {v : V} (h : TnL H vs L) (e : vs[i]? = some v) : ∃ x, L[i]? = some x ∧ Tn H v x := by
  have hi := (List.getElem?_eq_some_iff.mp e).1
  have h2 : L[i]? = some (L[i]'(by rw [← h.1]; exact hi)) := List.getElem?_eq_getElem _
  exact ⟨_, h2, h.2 i v _ e h2⟩
/-- a list of tuples, a tuple of tuples -/
def Ls (H : Hp) (v : V) (L : List (List Nat)) : Prop := ∃ a vs, v = .ref a ∧ H a = some (.lst vs) ∧ TnL H vs L
def Ts (H : Hp) (v : V) (L : List (List Nat)) : Prop := ∃ a vs, v = .ref a ∧ H a = some (.tup vs) ∧ TnL H vs L
theorem Ls.same {H H' : Hp} {v : V} {L : List (List Nat)} (s : Same H H') (h : Ls H v L) : Ls H' v L := by
  obtain ⟨a, vs, e, h1, h2⟩ := h
  exact ⟨a, vs, e, s _ _ h1, h2.same s⟩
theorem Ts.same {H H' : Hp} {v : V} {L : List (List Nat)} (s : Same H H') (h : Ts H v L) : Ts H' v L := by
  obtain ⟨a, vs, e, h1, h2⟩ := h
  exact ⟨a, vs, e, s _ _ h1, h2.same s⟩
theorem Ls.dp {K : PySem.W.Frag} {H : Hp} {v : V} {L : List (List Nat)} (h : Ls H v L) : Dp K H v (.list (L.map rN)) := by
  obtain ⟨a, vs, rfl, h1, h2⟩ := h
  exact .lst (SqL.of h1) h2.dp
theorem Ts.dp {K : PySem.W.Frag} {H : Hp} {v : V} {L : List (List Nat)} (h : Ts H v L) : Dp K H v (.tuple (L.map rN)) := by
  obtain ⟨a, vs, rfl, h1, h2⟩ := h
  exact .tup (SqT.of h1) h2.dp
theorem TnL.app {H : Hp} : ∀ {ws : List V} {vs : List V} {M L : List (List Nat)}, TnL H vs L → TnL H ws M → TnL H (vs ++ ws) (L ++ M)
  | [], vs, [], L, h, _ => by rw [List.append_nil, List.append_nil]; exact h
  | [], _, _ :: _, _, _, g => by cases g.1
  | _ :: _, _, [], _, _, g => by cases g.1
  | w :: ws, vs, x :: M, L, h, g => by
    have h2 := TnL.snoc h (g.2 0 w x rfl rfl)
    have g2 : TnL H ws M := ⟨by simpa using g.1, fun i v' o' a b => g.2 (i + 1) v' o' a b⟩
    have := TnL.app h2 g2
    rw [List.append_assoc, List.append_assoc] at this
    exact this
def stepN (c : Nat) (L : List (List Nat)) : List (List Nat) := L.flatMap fun r => (List.range c).map fun v => r ++ [v]
def rowsN (c : Nat) : Nat → List (List Nat)
  | 0 => [[]]
  | n + 1 => stepN c (rowsN c n)
theorem stepN_len (c : Nat) (L : List (List Nat)) : (stepN c L).length = c * L.length := by
  unfold stepN
  induction L with
  | nil => rfl
  | cons a l ih =>
    rw [List.flatMap_cons, List.length_append, ih, List.length_map, List.length_range, List.length_cons, Nat.mul_succ]
    omega
theorem rowsN_len (c : Nat) : ∀ n, (rowsN c n).length = c ^ n
  | 0 => rfl
  | n + 1 => by
    show (stepN c (rowsN c n)).length = _
    rw [stepN_len, rowsN_len c n, Nat.pow_succ, Nat.mul_comm]
theorem rowsN_mem {c : Nat} : ∀ {n : Nat} {r : List Nat}, r ∈ rowsN c n → r.length = n ∧ ∀ a ∈ r, a < c
  | 0, r, h => by
    have : r = [] := List.mem_singleton.mp h
    subst this
    exact ⟨rfl, fun a ha => by cases ha⟩
  | n + 1, r, h => by
    obtain ⟨r0, h0, h1⟩ := List.mem_flatMap.mp h
    obtain ⟨v, hv, rfl⟩ := List.mem_map.mp h1
    obtain ⟨l, m⟩ := rowsN_mem h0
    refine ⟨by rw [List.length_append, l]; rfl, fun a ha => ?_⟩
    rcases List.mem_append.mp ha with q | q
    · exact m a q
    · rw [List.mem_singleton.mp q]
      exact List.mem_range.mp hv
theorem rowsN_all {c : Nat} : ∀ {r : List Nat}, (∀ a ∈ r, a < c) → r ∈ rowsN c r.length := by
  intro r
  suffices H : ∀ (n : Nat) (r : List Nat), r.length = n → (∀ a ∈ r, a < c) → r ∈ rowsN c n from H _ r rfl
  intro n
  induction n with
  | zero =>
    intro r l _
    rw [List.eq_nil_of_length_eq_zero l]
    exact List.mem_singleton.mpr rfl
  | succ n ih =>
    intro r l h
    have ne : r ≠ [] := fun z => by rw [z] at l; cases l
    rw [← List.dropLast_concat_getLast ne]
    refine List.mem_flatMap.mpr ⟨r.dropLast, ih _ (by rw [List.length_dropLast, l]; rfl) (fun a ha => h a (List.dropLast_subset _ ha)), List.mem_map.mpr ⟨_, List.mem_range.mpr (h _ (List.getLast_mem ne)), rfl⟩⟩
section
variable {P : Program} {w : World} {K : PySem.W.Frag} {mg : Str → Option Value} {base : Heap}
abbrev sLR : Stmt := top 36
def spLR : Sp := fun vs H Q _ => ∃ c n : Nat, vs = [nV c, nV n] ∧ c ≤ 8 ∧ n ≤ 8 ∧ c ^ n ≤ 100000 ∧ 0 < c ∧ ∀ H' v, Same H H' → Ls H' v (rowsN c n) → Q v H'
abbrev NLR : List Str := ["size", "many", "rows", "turn", "longer", "row", "value"]
theorem scLR : FnScope NLR ["size", "many"] (defScope sLR) := ⟨rfl, rfl, rfl, by decide +kernel, rfl, by decide +kernel, by decide +kernel⟩
theorem ok_lr {f : Addr} {fd : FuncData} (F : Fun K "_law_rows" "_law_rows" sLR f fd) (Z : Bi mg) : FnOk P w K mg base CX0 1 f fd ["size", "many"] spLR := by
  refine F.ok scLR (fun vs H Q E h => ?_) (fun cdv A outer sh H vs Q E hr h => ?_)
  · obtain ⟨c, n, rfl, _⟩ := h
    rfl
  · obtain ⟨c, n, rfl, c8, n8, big, c0, k⟩ := h
    refine ⟨_, pss_cons (ps_set (i := 2) scLR.nd rfl (Or.inl rfl) (pe_lst (by exact (pa_cons (pe_tup pa_nil) pa_nil))))
      (pss_cons (ps_for PassesOwn.never rfl (pi_range1 rfl Z.range (pa_cons (pv 1) pa_nil)) (pg_name (i := 3) scLR.nd rfl (Or.inl rfl))
        (pss_cons (ps_set (i := 4) scLR.nd rfl (Or.inl rfl) (pe_lst pa_nil))
        (pss_cons (ps_for PassesOwn.never rfl (pi_list (pv 2)) (pg_name (i := 5) scLR.nd rfl (Or.inr rfl))
          (pss_one (ps_set (i := 4) scLR.nd rfl (Or.inl rfl) (pe_op op_cat (pv 4) (pe_lc (own := [("value", 6)]) (g := gName 6) (tt := tYes) (te := tOp (rCatA K) (tVar 5) (tTup (tCons (tVar 6) tNil))) rfl scLR.nd (pi_range1 (by rfl) Z.range (pa_cons (pv 0) pa_nil))
            (blkOk_by (N := NLR) (sc := defScope sLR) (by decide +kernel)) (fun _ _ _ _ _ => pg_name (i := 6) scLR.nd rfl (Or.inl rfl)) (fun _ _ _ _ _ => pts_nil) (fun _ _ _ _ _ => pe_op op_catA (pv 5) (pe_tup (by exact (pa_cons (pv 6) pa_nil)))))))))
        (pss_one (ps_set (i := 2) scLR.nd rfl (Or.inl rfl) (pv 4))))))
      (pss_one (ps_ret (pv 2)))), ?_⟩
    refine ⟨(by show 0 ≤ sizeLine; decide), fun t ht => ⟨(by show 1 ≤ sizeLine; decide), fun l hl => ?_⟩⟩
    have s0 := (same_new (o := .tup []) ht).trans (same_new (o := .lst [V.ref t]) hl)
    have d0 : Ls (upd (upd H t (.tup [])) l (.lst [.ref t])) (.ref l) (rowsN c 0) := ⟨l, _, rfl, upd_same, TnL.cons ⟨t, rfl, (same_new hl) _ _ upd_same⟩ TnL.nil⟩
    generalize upd (upd H t (.tup [])) l (.lst [.ref t]) = H0 at s0 d0
    refine ⟨_, rfl, n, rfl, by omega, by omega, ?_⟩
    rw [Int.toNat_natCast]
    refine for_range (n := n) (fun i σ H' => ∃ (v : V) (u1 u2 u3 : Option V), σ = [some (nV c), some (nV n), some v, u1, u2, u3, none] ∧ Same H H' ∧ Ls H' v (rowsN c i)) ⟨_, none, none, none, rfl, s0, d0⟩ ?_ ?_
    · rintro i σ H1 hi ⟨v, u1, u2, u3, rfl, s1, ⟨a, xs, rfl, ea, ta⟩⟩
      have hlen := rowsN_len c i
      have shp : ∀ r ∈ rowsN c i, r.length = i := fun r hr => (rowsN_mem hr).1
      generalize hL : rowsN c i = L at ta hlen shp
      have lx : xs.length = L.length := ta.1
      have pw : c * L.length ≤ 100000 := by
        rw [hlen, Nat.mul_comm, ← Nat.pow_succ]
        exact Nat.le_trans (Nat.pow_le_pow_right c0 (by omega)) big
      refine ⟨(by show 0 ≤ sizeLine; decide), fun D hD => ?_⟩
      have sD := same_new (o := .lst []) hD
      refine ⟨_, rfl, a, rfl, ⟨_, SqL.of (sD _ _ ea)⟩, for_list (K := K) (a := a) (xs := xs) (fun j σ H' => ∃ (D' : Addr) (w1 w3 : Option V) (vs : List V), σ = [some (nV c), some (nV n), some (.ref a), w1, some (.ref D'), w3, none] ∧ Same H1 H' ∧ H' D' = some (.lst vs) ∧ TnL H' vs (stepN c (L.take j))) ⟨D, _, _, [], rfl, sD, upd_same, TnL.nil⟩ (fun j σ H' _ ⟨_, _, _, _, _, s, _⟩ => SqL.of (s _ _ ea)) ?_ ?_⟩
      · rintro j x σ H2 hj ⟨D', w1, w3, vs, rfl, s2, eD', tv⟩
        obtain ⟨r, hr', tx⟩ := (ta.same s2).at hj
        have lr := shp _ (List.mem_of_getElem? hr')
        have lj := (List.getElem?_eq_some_iff.mp hr').1
        obtain ⟨ar, rfl, er⟩ := tx
        have lv := tv.1
        rw [stepN_len, List.length_take] at lv
        have lv2 : c * min j L.length + c ≤ c * L.length := by
          rw [← Nat.mul_succ]
          exact Nat.mul_le_mul_left c (by omega)
        refine ⟨_, rfl, _, rfl, c, rfl, by omega, by omega, ?_⟩
        rw [Int.toNat_natCast]
        refine fun Z0 hZ => walk_it walk_range (fun y H' => Same H2 H' ∧ ∃ ws, H' Z0 = some (.lst ws) ∧ TnL H' ws ((List.range y).map fun v => r ++ [v])) ⟨same_new hZ, [], upd_same, TnL.nil⟩ (fun _ _ _ _ => trivial) ?_ ?_
        · rintro y x _ H3 hy ⟨s3, ws, eZ, tw⟩ ⟨rfl, hx⟩
          obtain rfl : x = nV y := hx.trans (congrArg V.int (Int.zero_add _))
          have er3 := s3 _ _ er
          have lw := tw.1
          rw [List.length_map, List.length_range] at lw
          refine ⟨rfl, _, rfl, _, rfl, (by show 1 ≤ sizeLine; decide), fun b hb => ?_⟩
          have sb := same_new (o := .tup [nV y]) hb
          have fin : ∀ (H4 : Hp) (q : Addr), Same H3 H4 → H4 q = some (.tup ((r ++ [y]).map nV)) → ∃ acc, H4 Z0 = some (.lst acc) ∧ acc.length < sizeLine ∧ (Same H2 (upd H4 Z0 (.lst (acc ++ [.ref q]))) ∧ ∃ ws, upd H4 Z0 (.lst (acc ++ [.ref q])) Z0 = some (.lst ws) ∧ TnL (upd H4 Z0 (.lst (acc ++ [.ref q]))) ws ((List.range (y + 1)).map fun v => r ++ [v])) := fun H4 q s4 eq => by
            have eZ4 := s4 _ _ eZ
            refine ⟨ws, eZ4, by rw [lw, sizeLine_eq]; omega, same_of (s3.trans s4) hZ, _, upd_same, ?_⟩
            rw [List.range_succ, List.map_append]
            exact TnL.snoc ((tw.same s4).upd eZ4) (Tn.upd eZ4 ⟨q, rfl, eq⟩)
          refine ⟨ar, b, r.map nV, [nV y], rfl, rfl, SqT.of (sb _ _ er3), SqT.of upd_same, ?_, fun e => ?_, fun _ e => (by cases e), fun ne _ q hq => ?_⟩
          · rw [List.length_map, lr, sizeLine_eq]
            show i + 1 ≤ _
            omega
          · have e' : r = [] := List.map_eq_nil_iff.mp e
            exact fin _ b sb (by rw [upd_same, e']; rfl)
          · exact fin _ q (sb.trans (same_new hq)) (by rw [upd_same, List.map_append]; rfl)
        · rintro H3 ⟨s3, ws, eZ, tw⟩
          have lw := tw.1
          rw [List.length_map, List.length_range] at lw
          refine ⟨D', Z0, vs, ws, rfl, rfl, s3 _ _ eD', eZ, by rw [lv, lw, sizeLine_eq]; omega, fun q hq => ?_⟩
          have s4 := same_new (o := .lst (vs ++ ws)) hq
          refine ⟨q, _, _, _, rfl, (s2.trans s3).trans s4, upd_same, ?_⟩
          rw [take_more hr']
          unfold stepN
          rw [List.flatMap_append, List.flatMap_cons, List.flatMap_nil, List.append_nil]
          exact TnL.app ((tv.same s3).same s4) (tw.same s4)
      · rintro σ H2 ⟨D', w1, w3, vs, rfl, s2, eD', tv⟩
        rw [lx, List.take_length] at tv
        refine ⟨_, rfl, .ref D', _, _, _, rfl, s1.trans s2, D', vs, rfl, eD', ?_⟩
        show TnL H2 vs (stepN c (rowsN c i))
        rw [hL]
        exact tv
    · rintro σ H1 ⟨v, u1, u2, u3, rfl, s1, d1⟩
      exact ⟨_, rfl, k H1 v s1 d1⟩
end
end K74
/-! drawn operations, books. -/
namespace K74
open PySem L2 FX SQ
theorem Deal.nlst {H : Hp} {p l a : Addr} {o : HO} (d : Deal H p l) (e : H a = some o) (n : ∀ xs, o ≠ .lst xs) : a ≠ p ∧ a ≠ l := by
  obtain ⟨_, xs, b, e1, e2, _⟩ := d
  refine ⟨fun z => ?_, fun z => ?_⟩
  · rw [z, e1] at e
    exact n _ (Option.some.inj e).symm
  · rw [z, e2] at e
    exact n _ (Option.some.inj e).symm
theorem Deal.new {H : Hp} {p l a : Addr} (d : Deal H p l) (e : H a = none) : a ≠ p ∧ a ≠ l := by
  obtain ⟨_, xs, b, e1, e2, _⟩ := d
  exact ⟨fun z => (by rw [z, e1] at e; cases e), fun z => (by rw [z, e2] at e; cases e)⟩
theorem Deal.upd {H : Hp} {p l a : Addr} {o : HO} (d : Deal H p l) (n : a ≠ p ∧ a ≠ l) : Deal (upd H a o) p l := by
  obtain ⟨pl, xs, b, e1, e2, h⟩ := d
  exact ⟨pl, xs, b, by rw [upd_ne (Ne.symm n.1)]; exact e1, by rw [upd_ne (Ne.symm n.2)]; exact e2, h⟩
theorem But2.new {H H1 : Hp} {p l a : Addr} {o : HO} (b : But2 p l H H1) (n : H a = none) : But2 p l H (upd H1 a o) := fun c u e x y => by
  rw [upd_ne (ne_of_none e n)]
  exact b c u e x y
theorem Tn.but {H H' : Hp} {p l : Addr} {v : V} {ns : List Nat} (d : Deal H p l) (b : But2 p l H H') (t : Tn H v ns) : Tn H' v ns := by
  obtain ⟨a, rfl, e⟩ := t
  obtain ⟨n, m⟩ := d.nlst e (fun _ z => nomatch z)
  exact ⟨a, rfl, b _ _ e n m⟩
theorem TnL.but {H H' : Hp} {p l : Addr} {vs : List V} {L : List (List Nat)} (d : Deal H p l) (b : But2 p l H H') (t : TnL H vs L) : TnL H' vs L := ⟨t.1, fun i v o x y => (t.2 i v o x y).but d b⟩
theorem ne_deal {H : Hp} {p l a : Addr} {vs : List V} {L : List (List Nat)} (d : Deal H p l) (e : H a = some (.lst vs)) (t : TnL H vs L) (h : 2 ≤ L.length) : a ≠ p ∧ a ≠ l := by
  obtain ⟨_, xs, b, e1, e2, _⟩ := d
  have lv := t.1
  refine ⟨fun z => ?_, fun z => ?_⟩
  · rw [z, e1] at e
    cases e
    obtain ⟨x, _, ⟨q, hq, _⟩⟩ := t.at (i := 1) (v := .int b) rfl
    cases hq
  · rw [z, e2] at e
    cases e
    rw [List.length_map] at lv
    cases xs with
    | nil =>
      have : (0 : Nat) = L.length := lv
      omega
    | cons x xr =>
      obtain ⟨_, _, ⟨q, hq, _⟩⟩ := t.at (i := 0) (v := .int x) rfl
      cases hq
/-- an operation drawn -/
def OpV (H : Hp) (v : V) (o : Nat × List Nat) : Prop := ∃ a q, v = .ref a ∧ H a = some (.tup [nV o.1, .ref q]) ∧ H q = some (.tup (o.2.map nV))
theorem OpV.but {H H' : Hp} {p l : Addr} {v : V} {o : Nat × List Nat} (d : Deal H p l) (b : But2 p l H H') (t : OpV H v o) : OpV H' v o := by
  obtain ⟨a, q, rfl, e1, e2⟩ := t
  obtain ⟨n, m⟩ := d.nlst e1 (fun _ z => nomatch z)
  obtain ⟨n2, m2⟩ := d.nlst e2 (fun _ z => nomatch z)
  exact ⟨a, q, rfl, b _ _ e1 n m, b _ _ e2 n2 m2⟩
abbrev OkO (s : Nat) (o : Nat × List Nat) : Prop := 1 ≤ o.1 ∧ o.1 ≤ 3 ∧ o.2.length = s ^ o.1 ∧ ∀ a ∈ o.2, a < s
theorem fmax_i {s : Nat} (r : List Nat) (n : Nat) (h : ∀ a ∈ n :: r, a < s) : ∃ j : Nat, (r.map fun x : Nat => (x : Int)).foldl max (n : Int) = (j : Int) ∧ j < s := by
  refine ⟨r.foldl max n, fold_i r n, h _ (fold_mem r n)⟩
theorem fmin_i {s : Nat} : ∀ (r : List Nat) (n : Nat), (∀ a ∈ n :: r, a < s) → ∃ j : Nat, (r.map fun x : Nat => (x : Int)).foldl min (n : Int) = (j : Int) ∧ j < s
  | [], n, h => ⟨n, rfl, h n (List.mem_cons_self ..)⟩
  | x :: r, n, h => by
    obtain ⟨j, e, l⟩ := fmin_i (s := s) r (min n x) (fun a ha => by
      rcases List.mem_cons.mp ha with q | q
      · have h1 := h n (List.mem_cons_self ..)
        omega
      · exact h a (List.mem_cons_of_mem _ (List.mem_cons_of_mem _ q)))
    refine ⟨j, ?_, l⟩
    rw [List.map_cons, List.foldl_cons, ← e]
    congr 1
    omega
section
variable {P : Program} {w : World} {K : PySem.W.Frag} {mg : Str → Option Value} {base : Heap}
abbrev sOpn : Stmt := top 37
def spOpn : Sp := fun vs H Q _ => ∃ (p l : Addr) (s : Nat), vs = [.ref p, nV s] ∧ 2 ≤ s ∧ s ≤ 4 ∧ Deal H p l ∧ ∀ (H' : Hp) (v : V) (o : Nat × List Nat), But2 p l H H' → Deal H' p l → OpV H' v o → OkO s o → o.1 ≤ 2 → Q v H'
abbrev NOpn : List Str := ["deal", "size", "places", "kind", "answers", "row"]
theorem scOpn : FnScope NOpn ["deal", "size"] (defScope sOpn) := ⟨rfl, rfl, rfl, by decide +kernel, rfl, by decide +kernel, by decide +kernel⟩
theorem ok_opn {f fA fR : Addr} {fd fdA fdR : FuncData} (F : Fun K "_law_operation" "_law_operation" sOpn f fd) (Z : Bi mg) (FA : At K mg "_law_any" sAny fA fdA ["deal", "bound"]) (FR : At K mg "_law_rows" sLR fR fdR ["size", "many"]) : FnOk P w K mg base CX0 2 f fd ["deal", "size"] spOpn := by
  have GA : FnOk P w K mg base CX0 1 fA fdA ["deal", "bound"] spAny := ok_any FA.F Z
  have GR : FnOk P w K mg base CX0 1 fR fdR ["size", "many"] spLR := ok_lr FR.F Z
  refine F.ok scOpn (fun vs H Q E h => ?_) (fun cdv A outer sh H vs Q E hr h => ?_)
  · obtain ⟨p, l, s, rfl, _⟩ := h
    rfl
  · obtain ⟨p, l, s, rfl, s2, s4, dl, k⟩ := h
    have hu := hr65 hr
    refine ⟨_, pss_cons (ps_par rfl scOpn.nd (i := 2) (j := 3) rfl rfl (by decide) rfl rfl (by exact (pa_cons (pe_op op_add pe_int (pe_call GA hr rfl FA.g FA.F.kp FA.b .nil pass0 (by exact (pa_cons (pv 0) (pa_cons pe_int pa_nil))))) (pa_cons (pe_call GA hr rfl FA.g FA.F.kp FA.b .nil pass0 (by exact (pa_cons (pv 0) (pa_cons pe_int pa_nil)))) pa_nil))) rfl)
      (pss_cons (ps_set (i := 4) scOpn.nd rfl (Or.inl rfl) (pe_lst pa_nil))
      (pss_cons (ps_for PassesOwn.never rfl (pi_list (pe_call GR hr rfl FR.g FR.F.kp FR.b .nil pass0 (by exact (pa_cons (pv 1) (pa_cons (pv 2) pa_nil))))) (pg_name (i := 5) scOpn.nd rfl (Or.inl rfl))
        (pss_one (ps_if (pt_cmpR op_eq (pv 3) pe_int (nomark _))
          (pss_one (ps_expr (pe_bm PySem.F.plainAttrs_list PySem.F.slot_list_append PySem.F.type_list_append mt_append (pv 4) (pa_cons (pe_call GA hr rfl FA.g FA.F.kp FA.b .nil pass0 (by exact (pa_cons (pv 0) (pa_cons (pv 1) pa_nil)))) pa_nil))))
          (pss_one (ps_if (pt_cmpR op_eq (pv 3) pe_int (nomark _))
            (pss_one (ps_expr (pe_bm PySem.F.plainAttrs_list PySem.F.slot_list_append PySem.F.type_list_append mt_append (pv 4) (pa_cons (pe_callB (cr_maxTI rfl hu) (by rfl) Z.max (by decide +kernel) (pa_cons (pv 5) pa_nil)) pa_nil))))
            (pss_one (ps_if (pt_cmpR op_eq (pv 3) pe_int (nomark _))
              (pss_one (ps_expr (pe_bm PySem.F.plainAttrs_list PySem.F.slot_list_append PySem.F.type_list_append mt_append (pv 4) (pa_cons (pe_ifExp (pt_cmpR op_gt (pe_call GA hr rfl FA.g FA.F.kp FA.b .nil pass0 (by exact (pa_cons (pv 0) (pa_cons pe_int pa_nil)))) pe_int (nomark _)) (pe_ix ix_tup (pv 5) pe_int (fun _ _ => rfl)) (pe_callB (cr_minTI rfl hu) (by rfl) Z.min (by decide +kernel) (pa_cons (pv 5) pa_nil))) pa_nil))))
              (pss_one (ps_if (pt_cmpR op_eq (pv 3) pe_int (nomark _))
                (pss_one (ps_expr (pe_bm PySem.F.plainAttrs_list PySem.F.slot_list_append PySem.F.type_list_append mt_append (pv 4) (pa_cons (pe_op op_mod (pe_op op_add (pe_ix ix_tup (pv 5) pe_int (fun _ _ => rfl)) pe_int) (pv 1)) pa_nil))))
                (pss_one (ps_expr (pe_bm PySem.F.plainAttrs_list PySem.F.slot_list_append PySem.F.type_list_append mt_append (pv 4) (pa_cons (pe_callB (cr_minTI rfl hu) (by rfl) Z.min (by decide +kernel) (pa_cons (pv 5) pa_nil)) pa_nil)))))))))))))
      (pss_one (ps_ret (pe_tup (by exact (pa_cons (pv 2) (pa_cons (pe_tupleOf (by rfl) Z.tuple (pv 4)) pa_nil)))))))), ?_⟩
    refine ⟨_, rfl, p, l, 2, rfl, by decide, by decide, dl, fun H1 j b1 d1 hj => ⟨_, _, rfl, rfl, _, rfl, p, l, 6, rfl, by decide, by decide, d1, fun H2 kd b2 d2 hk => ⟨_, _, rfl, ?_⟩⟩⟩
    have b02 := b1.trans b2
    refine ⟨(by show 0 ≤ sizeLine; decide), fun D hD => ?_⟩
    have sD := same_new (o := .lst []) hD
    have dD := d2.new hD
    obtain ⟨n, en, hn⟩ : ∃ n : Nat, (1 : Int) + (j : Int) = (n : Int) ∧ n = 1 + j := ⟨1 + j, by omega, rfl⟩
    have sn : s ^ n ≤ 4 ^ 2 := Nat.le_trans (Nat.pow_le_pow_left s4 n) (Nat.pow_le_pow_right (by decide) (by omega))
    have sn2 : 2 ≤ s ^ n := by
      have h1 : 2 ^ 1 ≤ 2 ^ n := Nat.pow_le_pow_right (by decide) (by omega)
      have h2 : 2 ^ n ≤ s ^ n := Nat.pow_le_pow_left s2 n
      omega
    refine ⟨_, rfl, _, rfl, s, n, congrArg (fun z => [V.int (s : Nat), V.int z]) en, by omega, by omega, by omega, by omega, fun H3 v s3 ⟨a, vs, e, ea, ta⟩ => ?_⟩
    subst e
    have d3 := (d2.same sD).same s3
    have b03 := (b02.trans (But2.of sD)).trans (But2.of s3)
    have rl : (rowsN s n).length = s ^ n := rowsN_len s n
    obtain ⟨na, ma⟩ := ne_deal d3 ea ta (by omega)
    have eD3 : H3 D = some (.lst []) := s3 _ _ upd_same
    have aD : a ≠ D := fun z => by
      rw [z, eD3] at ea
      cases ea
      have := ta.1
      have h0 : (0 : Nat) = (rowsN s n).length := this
      omega
    have hD3 : ∀ c o, H c = some o → c ≠ p → c ≠ l → c ≠ D := fun c o e x y z => by
      have := b02 c o e x y
      rw [z, hD] at this
      cases this
    refine ⟨a, rfl, ⟨_, SqL.of ea⟩, for_list (K := K) (a := a) (xs := vs) (fun i σ H' => ∃ (u : Option V) (as : List Nat), σ = [some (.ref p), some (nV s), some (.int (1 + (j : Nat))), some (nV kd), some (.ref D), u] ∧ (∀ c o, H3 c = some o → c ≠ p → c ≠ l → c ≠ D → H' c = some o) ∧ Deal H' p l ∧ as.length = i ∧ (∀ x ∈ as, x < s) ∧ H' D = some (.lst (as.map nV)))
      ⟨none, [], rfl, fun c o e _ _ _ => e, d3, rfl, fun x hx => (by cases hx), eD3⟩ (fun i σ H' _ ⟨_, _, _, f, _⟩ => SqL.of (f _ _ ea na ma aD)) ?_ ?_⟩
    · rintro i x σ H4 hi ⟨u, as, rfl, f4, d4, la, lt, eD⟩
      obtain ⟨r, hr', tx⟩ := ta.at hi
      obtain ⟨ar, rfl, er⟩ := tx
      obtain ⟨lr, rlt⟩ := rowsN_mem (List.mem_of_getElem? hr')
      obtain ⟨n1, m1⟩ := d3.nlst er (fun _ z => nomatch z)
      have arD : ar ≠ D := fun z => by
        rw [z, eD3] at er
        cases er
      have er4 := f4 _ _ er n1 m1 arD
      have il : i < (rowsN s n).length := (List.getElem?_eq_some_iff.mp hr').1
      obtain ⟨x0, xr, hx⟩ : ∃ x0 xr, r = x0 :: xr := by
        cases r with
        | nil =>
          have : (0 : Nat) = n := lr
          omega
        | cons a b => exact ⟨a, b, rfl⟩
      subst hx
      have qr : SqT K H4 ar (((x0 : Int) :: xr.map fun x : Nat => (x : Int)).map V.int) := SqT.of (by rw [er4]; exact congrArg (fun l => some (HO.tup l)) (map_nV (x0 :: xr)))
      have q0 : SqT K H4 ar ((x0 :: xr).map nV) := SqT.of er4
      have put : ∀ (H5 : Hp) (y : Nat), But2 p l H4 H5 → Deal H5 p l → y < s → ∃ l' xs z, V.ref D = .ref l' ∧ [nV y] = [z] ∧ H5 l' = some (.lst xs) ∧ xs.length < sizeLine ∧
          (∃ (u : Option V) (as : List Nat), [some (V.ref p), some (nV s), some (.int (1 + (j : Nat))), some (nV kd), some (.ref D), some (V.ref ar)] = [some (.ref p), some (nV s), some (.int (1 + (j : Nat))), some (nV kd), some (.ref D), u] ∧ (∀ c o, H3 c = some o → c ≠ p → c ≠ l → c ≠ D → upd H5 l' (.lst (xs ++ [z])) c = some o) ∧ Deal (upd H5 l' (.lst (xs ++ [z]))) p l ∧ as.length = i + 1 ∧ (∀ x ∈ as, x < s) ∧ upd H5 l' (.lst (xs ++ [z])) D = some (.lst (as.map nV))) := fun H5 y b5 d5 hy => by
        have eD5 := b5 _ _ eD dD.1 dD.2
        refine ⟨D, _, _, rfl, rfl, eD5, by rw [List.length_map, la, sizeLine_eq]; omega, _, as ++ [y], rfl, fun c o e x z w => ?_, d5.upd dD, by rw [List.length_append, la]; rfl, fun x hx => ?_, by rw [upd_same, List.map_append]; rfl⟩
        · rw [upd_ne w]
          exact b5 _ _ (f4 _ _ e x z w) x z
        · rcases List.mem_append.mp hx with q | q
          · exact lt x q
          · rw [List.mem_singleton.mp q]
            exact hy
      obtain ⟨jx, ex, lx⟩ := fmax_i xr x0 rlt
      obtain ⟨jn, en', ln⟩ := fmin_i xr x0 rlt
      have x0s := rlt x0 (List.mem_cons_self ..)
      refine ⟨_, rfl, rfl, _, rfl, ite_any ?_ ?_⟩
      · refine ⟨_, rfl, .inl ⟨rfl, _, SqL.of eD⟩, _, rfl, _, rfl, p, l, s, rfl, by omega, by omega, d4, fun H5 y b5 d5 hy => ?_⟩
        exact put H5 y b5 d5 hy
      refine ⟨_, rfl, rfl, _, rfl, ite_any ?_ ?_⟩
      · refine ⟨_, rfl, .inl ⟨rfl, _, SqL.of eD⟩, _, rfl, ar, (x0 : Int), xr.map (fun x : Nat => (x : Int)), rfl, qr, ?_⟩
        rw [ex]
        exact put H4 jx (But2.refl p l H4) d4 lx
      refine ⟨_, rfl, rfl, _, rfl, ite_any ?_ ?_⟩
      · refine ⟨_, rfl, .inl ⟨rfl, _, SqL.of eD⟩, _, rfl, p, l, 4, rfl, by decide, by decide, d4, fun H5 y b5 d5 hy => ⟨_, _, rfl, rfl, _, rfl, ite_any ?_ ?_⟩⟩
        · obtain ⟨n5, m5⟩ := d4.nlst er4 (fun _ z => nomatch z)
          exact ⟨_, rfl, ar, _, _, _, rfl, rfl, SqT.of (b5 _ _ er4 n5 m5), atI_nat (j := 0) rfl, put H5 x0 b5 d5 x0s⟩
        · obtain ⟨n5, m5⟩ := d4.nlst er4 (fun _ z => nomatch z)
          refine ⟨_, rfl, ar, (x0 : Int), xr.map (fun x : Nat => (x : Int)), rfl, SqT.of (by rw [b5 _ _ er4 n5 m5]; exact congrArg (fun l => some (HO.tup l)) (map_nV (x0 :: xr))), ?_⟩
          rw [en']
          exact put H5 jn b5 d5 ln
      refine ⟨_, rfl, rfl, _, rfl, ite_any ?_ ?_⟩
      · refine ⟨_, rfl, .inl ⟨rfl, _, SqL.of eD⟩, _, rfl, ar, _, _, _, rfl, rfl, q0, atI_nat (j := 0) rfl, _, _, rfl, rfl, _, rfl, _, _, rfl, rfl, (by show (0 : Int) < (s : Int); omega), ?_⟩
        obtain ⟨y, ey, hy⟩ : ∃ y : Nat, ((x0 : Int) + 1) % (s : Int) = (y : Int) ∧ y < s := by
          have r0 := Int.emod_nonneg ((x0 : Int) + 1) (show (s : Int) ≠ 0 by omega)
          have r1 := Int.emod_lt_of_pos ((x0 : Int) + 1) (show (0 : Int) < s by omega)
          exact ⟨(((x0 : Int) + 1) % (s : Int)).toNat, by omega, by omega⟩
        obtain ⟨l', xs', z', h1, h2, h3⟩ := put H4 y (But2.refl p l H4) d4 hy
        exact ⟨l', xs', z', h1, (congrArg (fun w => [V.int w]) ey).trans h2, h3⟩
      · refine ⟨_, rfl, .inl ⟨rfl, _, SqL.of eD⟩, _, rfl, ar, (x0 : Int), xr.map (fun x : Nat => (x : Int)), rfl, qr, ?_⟩
        rw [en']
        exact put H4 jn (But2.refl p l H4) d4 ln
    · rintro σ H4 ⟨u, as, rfl, f4, d4, la, lt, eD⟩
      rw [ta.1, rl] at la
      refine ⟨_, rfl, _, rfl, .inl ⟨D, _, rfl, SqL.of eD, fun q hq => ⟨(by show 2 ≤ sizeLine; decide), fun z hz => ?_⟩⟩⟩
      rw [en]
      have sq := same_new (o := .tup (as.map nV)) hq
      have sz := same_new (o := .tup [V.int (n : Nat), .ref q]) hz
      refine k _ _ (n, as) (fun c o e x y => sz _ _ (sq _ _ (f4 _ _ (b03 c o e x y) x y (hD3 c o e x y)))) ((d4.same sq).same sz) ⟨z, q, rfl, upd_same, sz _ _ upd_same⟩ ⟨by omega, by omega, la, lt⟩ (by show n ≤ 2; omega)
end
end K74
/-! the law's own ways. -/
namespace K74
open PySem L2 FX SQ
section
variable {P : Program} {w : World} {K : PySem.W.Frag} {mg : Str → Option Value} {base : Heap}
abbrev sLW : Stmt := top 43
def spLW : Sp := fun vs H Q _ => ∃ c n : Nat, vs = [nV n, nV c] ∧ c ≤ 8 ∧ n ≤ 8 ∧ c ^ n ≤ 100000 ∧ ∀ H' v, Same H H' → Ls H' v (rowsN c n) → Q v H'
abbrev NLW : List Str := ["many", "cells", "rows", "line", "longer", "row", "cell"]
theorem scLW : FnScope NLW ["many", "cells"] (defScope sLW) := ⟨rfl, rfl, rfl, by decide +kernel, rfl, by decide +kernel, by decide +kernel⟩
theorem ok_lw {f : Addr} {fd : FuncData} (F : Fun K "_law_ways" "_law_ways" sLW f fd) (Z : Bi mg) : FnOk P w K mg base CX0 1 f fd ["many", "cells"] spLW := by
  refine F.ok scLW (fun vs H Q E h => ?_) (fun cdv A outer sh H vs Q E hr h => ?_)
  · obtain ⟨c, n, rfl, _⟩ := h
    rfl
  · obtain ⟨c, n, rfl, c8, n8, big, k⟩ := h
    refine ⟨_, pss_cons (ps_set (i := 2) scLW.nd rfl (Or.inl rfl) (pe_lst (by exact (pa_cons (pe_tup pa_nil) pa_nil))))
      (pss_cons (ps_for PassesOwn.never rfl (pi_range1 rfl Z.range (pa_cons (pv 0) pa_nil)) (pg_name (i := 3) scLW.nd rfl (Or.inl rfl))
        (pss_cons (ps_set (i := 4) scLW.nd rfl (Or.inl rfl) (pe_lst pa_nil))
        (pss_cons (ps_for PassesOwn.never rfl (pi_list (pv 2)) (pg_name (i := 5) scLW.nd rfl (Or.inr rfl))
          (pss_one (ps_set (i := 4) scLW.nd rfl (Or.inl rfl) (pe_op op_cat (pv 4) (pe_lc (own := [("cell", 6)]) (g := gName 6) (tt := tYes) (te := tOp (rCatA K) (tVar 5) (tTup (tCons (tVar 6) tNil))) rfl scLW.nd (pi_range1 (by rfl) Z.range (pa_cons (pv 1) pa_nil))
            (blkOk_by (N := NLW) (sc := defScope sLW) (by decide +kernel)) (fun _ _ _ _ _ => pg_name (i := 6) scLW.nd rfl (Or.inl rfl)) (fun _ _ _ _ _ => pts_nil) (fun _ _ _ _ _ => pe_op op_catA (pv 5) (pe_tup (by exact (pa_cons (pv 6) pa_nil)))))))))
        (pss_one (ps_set (i := 2) scLW.nd rfl (Or.inl rfl) (pv 4))))))
      (pss_one (ps_ret (pv 2)))), ?_⟩
    refine ⟨(by show 0 ≤ sizeLine; decide), fun t ht => ⟨(by show 1 ≤ sizeLine; decide), fun l hl => ?_⟩⟩
    have s0 := (same_new (o := .tup []) ht).trans (same_new (o := .lst [V.ref t]) hl)
    have d0 : Ls (upd (upd H t (.tup [])) l (.lst [.ref t])) (.ref l) (rowsN c 0) := ⟨l, _, rfl, upd_same, TnL.cons ⟨t, rfl, (same_new hl) _ _ upd_same⟩ TnL.nil⟩
    generalize upd (upd H t (.tup [])) l (.lst [.ref t]) = H0 at s0 d0
    refine ⟨_, rfl, n, rfl, by omega, by omega, ?_⟩
    rw [Int.toNat_natCast]
    refine for_range (n := n) (fun i σ H' => ∃ (v : V) (u1 u2 u3 : Option V), σ = [some (nV n), some (nV c), some v, u1, u2, u3, none] ∧ Same H H' ∧ Ls H' v (rowsN c i)) ⟨_, none, none, none, rfl, s0, d0⟩ ?_ ?_
    · rintro i σ H1 hi ⟨v, u1, u2, u3, rfl, s1, ⟨a, xs, rfl, ea, ta⟩⟩
      have hlen := rowsN_len c i
      have shp : ∀ r ∈ rowsN c i, r.length = i := fun r hr => (rowsN_mem hr).1
      generalize hL : rowsN c i = L at ta hlen shp
      have lx : xs.length = L.length := ta.1
      have pw : c * L.length ≤ 100000 := by
        rcases Nat.eq_zero_or_pos c with c0 | c0
        · rw [c0, Nat.zero_mul]
          exact Nat.zero_le _
        · rw [hlen, Nat.mul_comm, ← Nat.pow_succ]
          exact Nat.le_trans (Nat.pow_le_pow_right c0 (by omega)) big
      refine ⟨(by show 0 ≤ sizeLine; decide), fun D hD => ?_⟩
      have sD := same_new (o := .lst []) hD
      refine ⟨_, rfl, a, rfl, ⟨_, SqL.of (sD _ _ ea)⟩, for_list (K := K) (a := a) (xs := xs) (fun j σ H' => ∃ (D' : Addr) (w1 w3 : Option V) (vs : List V), σ = [some (nV n), some (nV c), some (.ref a), w1, some (.ref D'), w3, none] ∧ Same H1 H' ∧ H' D' = some (.lst vs) ∧ TnL H' vs (stepN c (L.take j))) ⟨D, _, _, [], rfl, sD, upd_same, TnL.nil⟩ (fun j σ H' _ ⟨_, _, _, _, _, s, _⟩ => SqL.of (s _ _ ea)) ?_ ?_⟩
      · rintro j x σ H2 hj ⟨D', w1, w3, vs, rfl, s2, eD', tv⟩
        obtain ⟨r, hr', tx⟩ := (ta.same s2).at hj
        have lr := shp _ (List.mem_of_getElem? hr')
        have lj := (List.getElem?_eq_some_iff.mp hr').1
        obtain ⟨ar, rfl, er⟩ := tx
        have lv := tv.1
        rw [stepN_len, List.length_take] at lv
        have lv2 : c * min j L.length + c ≤ c * L.length := by
          rw [← Nat.mul_succ]
          exact Nat.mul_le_mul_left c (by omega)
        refine ⟨_, rfl, _, rfl, c, rfl, by omega, by omega, ?_⟩
        rw [Int.toNat_natCast]
        refine fun Z0 hZ => walk_it walk_range (fun y H' => Same H2 H' ∧ ∃ ws, H' Z0 = some (.lst ws) ∧ TnL H' ws ((List.range y).map fun v => r ++ [v])) ⟨same_new hZ, [], upd_same, TnL.nil⟩ (fun _ _ _ _ => trivial) ?_ ?_
        · rintro y x _ H3 hy ⟨s3, ws, eZ, tw⟩ ⟨rfl, hx⟩
          obtain rfl : x = nV y := hx.trans (congrArg V.int (Int.zero_add _))
          have er3 := s3 _ _ er
          have lw := tw.1
          rw [List.length_map, List.length_range] at lw
          refine ⟨rfl, _, rfl, _, rfl, (by show 1 ≤ sizeLine; decide), fun b hb => ?_⟩
          have sb := same_new (o := .tup [nV y]) hb
          have fin : ∀ (H4 : Hp) (q : Addr), Same H3 H4 → H4 q = some (.tup ((r ++ [y]).map nV)) → ∃ acc, H4 Z0 = some (.lst acc) ∧ acc.length < sizeLine ∧ (Same H2 (upd H4 Z0 (.lst (acc ++ [.ref q]))) ∧ ∃ ws, upd H4 Z0 (.lst (acc ++ [.ref q])) Z0 = some (.lst ws) ∧ TnL (upd H4 Z0 (.lst (acc ++ [.ref q]))) ws ((List.range (y + 1)).map fun v => r ++ [v])) := fun H4 q s4 eq => by
            have eZ4 := s4 _ _ eZ
            refine ⟨ws, eZ4, by rw [lw, sizeLine_eq]; omega, same_of (s3.trans s4) hZ, _, upd_same, ?_⟩
            rw [List.range_succ, List.map_append]
            exact TnL.snoc ((tw.same s4).upd eZ4) (Tn.upd eZ4 ⟨q, rfl, eq⟩)
          refine ⟨ar, b, r.map nV, [nV y], rfl, rfl, SqT.of (sb _ _ er3), SqT.of upd_same, ?_, fun e => ?_, fun _ e => (by cases e), fun ne _ q hq => ?_⟩
          · rw [List.length_map, lr, sizeLine_eq]
            show i + 1 ≤ _
            omega
          · have e' : r = [] := List.map_eq_nil_iff.mp e
            exact fin _ b sb (by rw [upd_same, e']; rfl)
          · exact fin _ q (sb.trans (same_new hq)) (by rw [upd_same, List.map_append]; rfl)
        · rintro H3 ⟨s3, ws, eZ, tw⟩
          have lw := tw.1
          rw [List.length_map, List.length_range] at lw
          refine ⟨D', Z0, vs, ws, rfl, rfl, s3 _ _ eD', eZ, by rw [lv, lw, sizeLine_eq]; omega, fun q hq => ?_⟩
          have s4 := same_new (o := .lst (vs ++ ws)) hq
          refine ⟨q, _, _, _, rfl, (s2.trans s3).trans s4, upd_same, ?_⟩
          rw [take_more hr']
          unfold stepN
          rw [List.flatMap_append, List.flatMap_cons, List.flatMap_nil, List.append_nil]
          exact TnL.app ((tv.same s3).same s4) (tw.same s4)
      · rintro σ H2 ⟨D', w1, w3, vs, rfl, s2, eD', tv⟩
        rw [lx, List.take_length] at tv
        refine ⟨_, rfl, .ref D', _, _, _, rfl, s1.trans s2, D', vs, rfl, eD', ?_⟩
        show TnL H2 vs (stepN c (rowsN c i))
        rw [hL]
        exact tv
    · rintro σ H1 ⟨v, u1, u2, u3, rfl, s1, d1⟩
      exact ⟨_, rfl, k H1 v s1 d1⟩
end
end K74
/-! data that never change; drawn books. -/
namespace K74
open PySem L2 FX SQ
mutual
inductive IM (H : Hp) : V → D → Prop
  | non : IM H .non .none
  | bl (b : Bool) : IM H (.bl b) (.bool b)
  | int (i : Int) : IM H (.int i) (.int i)
  | str (x : Str) : IM H (.str x) (.str x)
  | tup {a : Addr} {vs : List V} {ds : List D} : H a = some (.tup vs) → IMs H vs ds → IM H (.ref a) (.tuple ds)
inductive IMs (H : Hp) : List V → List D → Prop
  | nil : IMs H [] []
  | cons {v : V} {d : D} {vs : List V} {ds : List D} : IM H v d → IMs H vs ds → IMs H (v :: vs) (d :: ds)
end
mutual
theorem IM.but {H H' : Hp} {p l : Addr} (dl : Deal H p l) (b : But2 p l H H') : ∀ {v : V} {d : D}, IM H v d → IM H' v d
  | _, _, .non => .non
  | _, _, .bl b => .bl b
  | _, _, .int i => .int i
  | _, _, .str x => .str x
  | _, _, .tup e r => by
    obtain ⟨n, m⟩ := dl.nlst e (fun _ z => nomatch z)
    exact .tup (b _ _ e n m) (IMs.but dl b r)
theorem IMs.but {H H' : Hp} {p l : Addr} (dl : Deal H p l) (b : But2 p l H H') : ∀ {vs : List V} {ds : List D}, IMs H vs ds → IMs H' vs ds
  | _, _, .nil => .nil
  | _, _, .cons h r => .cons (IM.but dl b h) (IMs.but dl b r)
end
mutual
theorem IM.same {H H' : Hp} (s : Same H H') : ∀ {v : V} {d : D}, IM H v d → IM H' v d
  | _, _, .non => .non
  | _, _, .bl b => .bl b
  | _, _, .int i => .int i
  | _, _, .str x => .str x
  | _, _, .tup e r => .tup (s _ _ e) (IMs.same s r)
theorem IMs.same {H H' : Hp} (s : Same H H') : ∀ {vs : List V} {ds : List D}, IMs H vs ds → IMs H' vs ds
  | _, _, .nil => .nil
  | _, _, .cons h r => .cons (IM.same s h) (IMs.same s r)
end
mutual
theorem IM.upd {H : Hp} {a0 : Addr} {l : List V} {o : HO} (e : H a0 = some (.lst l)) : ∀ {v : V} {d : D}, IM H v d → IM (L2.upd H a0 o) v d
  | _, _, .non => .non
  | _, _, .bl b => .bl b
  | _, _, .int i => .int i
  | _, _, .str x => .str x
  | _, _, .tup (a := a) h r => .tup (by
      rw [upd_ne (by
        rintro rfl
        rw [e] at h
        cases h)]
      exact h) (IMs.upd e r)
theorem IMs.upd {H : Hp} {a0 : Addr} {l : List V} {o : HO} (e : H a0 = some (.lst l)) : ∀ {vs : List V} {ds : List D}, IMs H vs ds → IMs (L2.upd H a0 o) vs ds
  | _, _, .nil => .nil
  | _, _, .cons h r => .cons (IM.upd e h) (IMs.upd e r)
end
mutual
theorem IM.dp {K : PySem.W.Frag} {H : Hp} : ∀ {v : V} {d : D}, IM H v d → Dp K H v d
  | _, _, .non => .non
  | _, _, .bl b => .bl b
  | _, _, .int i => .int i
  | _, _, .str x => .str x
  | _, _, .tup e r => .tup (SqT.of e) (IMs.dp r)
theorem IMs.dp {K : PySem.W.Frag} {H : Hp} : ∀ {vs : List V} {ds : List D}, IMs H vs ds → DpAll K H vs ds
  | _, _, .nil => .nil
  | _, _, .cons h r => .cons (IM.dp h) (IMs.dp r)
end
theorem IMs.snoc {H : Hp} {v : V} {d : D} (h : IM H v d) : ∀ {vs : List V} {ds : List D}, IMs H vs ds → IMs H (vs ++ [v]) (ds ++ [d])
  | _, _, .nil => .cons h .nil
  | _, _, .cons x r => .cons x (IMs.snoc h r)
theorem IMs.nats {H : Hp} : ∀ ns : List Nat, IMs H (ns.map nV) (ns.map nD)
  | [] => .nil
  | n :: r => .cons (.int n) (IMs.nats r)
theorem IMs.len {H : Hp} : ∀ {vs : List V} {ds : List D}, IMs H vs ds → vs.length = ds.length
  | _, _, .nil => rfl
  | _, _, .cons _ r => congrArg (· + 1) (IMs.len r)
theorem OpV.im {H : Hp} {v : V} {o : Nat × List Nat} (h : OpV H v o) : IM H v (opN o) := by
  obtain ⟨a, q, rfl, e1, e2⟩ := h
  exact .tup e1 (.cons (.int _) (.cons (.tup e2 (IMs.nats _)) .nil))
section
variable {P : Program} {w : World} {K : PySem.W.Frag} {mg : Str → Option Value} {base : Heap}
abbrev sBk : Stmt := top 38
def spBk : Sp := fun vs H Q _ => ∃ (p l : Addr), vs = [.ref p, nV 3] ∧ Deal H p l ∧ ∀ (H' : Hp) (v : V) (s : Nat) (ops : List (Nat × List Nat)), But2 p l H H' → Deal H' p l → IM H' v (bookD s ops) → OkB s ops → s ≤ 4 → 0 < ops.length → Q v H'
abbrev NBk : List Str := ["deal", "most", "size", "turn"]
theorem scBk : FnScope NBk ["deal", "most"] (defScope sBk) := ⟨rfl, rfl, rfl, by decide +kernel, rfl, by decide +kernel, by decide +kernel⟩
theorem ok_bk {f fA fO : Addr} {fd fdA fdO : FuncData} (F : Fun K "_law_book" "_law_book" sBk f fd) (Z : Bi mg) (FA : At K mg "_law_any" sAny fA fdA ["deal", "bound"]) (FO : At K mg "_law_operation" sOpn fO fdO ["deal", "size"]) (GO : FnOk P w K mg base CX0 2 fO fdO ["deal", "size"] spOpn) :
    FnOk P w K mg base CX0 3 f fd ["deal", "most"] spBk := by
  have GA : FnOk P w K mg base CX0 1 fA fdA ["deal", "bound"] spAny := ok_any FA.F Z
  refine F.ok scBk (fun vs H Q E h => ?_) (fun cdv A outer sh H vs Q E hr h => ?_)
  · obtain ⟨p, l, rfl, _⟩ := h
    rfl
  · obtain ⟨p, l, rfl, dl, k⟩ := h
    refine ⟨_, pss_cons (ps_set (i := 2) scBk.nd rfl (Or.inr rfl) (pe_op op_add pe_int (pe_call GA (hr.mono (by decide)) rfl FA.g FA.F.kp FA.b .nil pass0 (by exact (pa_cons (pv 0) (pa_cons (pe_op op_sub (pv 1) pe_int) pa_nil))))))
      (pss_one (ps_ret (pe_tup (by exact (pa_cons (pv 2) (pa_cons (pe_tupleOf (by rfl) Z.tuple (pe_lc (own := [("turn", 3)]) (g := gName 3) (tt := tYes) (te := tCall spOpn [] E0 (tCons (tVar 0) (tCons (tVar 2) tNil))) rfl scBk.nd (pi_range1 (by rfl) Z.range (pa_cons (pe_op op_add pe_int (pe_call GA (hr.mono (by decide)) rfl FA.g FA.F.kp FA.b .nil pass0 (by exact (pa_cons (pv 0) (pa_cons pe_int pa_nil))))) pa_nil))
          (blkOk_by (N := NBk) (sc := defScope sBk) (by decide +kernel)) (fun _ _ _ _ _ => pg_name (i := 3) scBk.nd rfl (Or.inl rfl)) (fun _ _ _ _ _ => pts_nil) (fun _ _ _ _ _ => pe_call GO (hr.mono (by decide)) (by rfl) FO.g FO.F.kp FO.b .nil pass0 (by exact (pa_cons (pv 0) (pa_cons (pv 2) pa_nil)))))) pa_nil)))))), ?_⟩
    refine ⟨_, rfl, _, rfl, _, _, rfl, rfl, p, l, 2, rfl, by decide, by decide, dl, fun H1 j b1 d1 hj => ⟨_, _, rfl, rfl, ?_⟩⟩
    obtain ⟨s, es, hs⟩ : ∃ s : Nat, (2 : Int) + (j : Int) = (s : Int) ∧ s = 2 + j := ⟨2 + j, by omega, rfl⟩
    refine ⟨_, rfl, _, rfl, p, l, 2, rfl, by decide, by decide, d1, fun H2 i b2 d2 hi => ⟨_, _, rfl, rfl, ((1 + i : Nat) : Int), congrArg (fun z => [V.int z]) (show (1 : Int) + (i : Int) = ((1 + i : Nat) : Int) by omega), by omega, by omega, ?_⟩⟩
    have b02 := b1.trans b2
    rw [Int.toNat_natCast]
    refine fun D hD => ?_
    have sD := same_new (o := .lst []) hD
    have dD := d2.new hD
    refine walk_it walk_range (fun i H' => (∀ c o, H2 c = some o → c ≠ p → c ≠ l → c ≠ D → H' c = some o) ∧ Deal H' p l ∧ ∃ vs ops, H' D = some (.lst vs) ∧ IMs H' vs (ops.map opN) ∧ ops.length = i ∧ ∀ o ∈ ops, OkO s o) ⟨fun c o e _ _ _ => sD _ _ e, d2.same sD, [], [], upd_same, .nil, rfl, fun o ho => (by cases ho)⟩ (fun _ _ _ _ => trivial) ?_ ?_
    · rintro n x _ H3 hn ⟨f3, d3, vs, ops, eD, im, lo, oo⟩ ⟨rfl, hx⟩
      refine ⟨rfl, _, rfl, _, rfl, p, l, s, congrArg (fun z => [V.ref p, V.int z]) es, by omega, by omega, d3, fun H4 v o b4 d4 ov ok o2 => ?_⟩
      have eD4 := b4 _ _ eD dD.1 dD.2
      have lv := im.len
      rw [List.length_map] at lv
      refine ⟨_, eD4, by rw [lv, lo, sizeLine_eq]; omega, fun c o' e x y z => ?_, d4.upd dD, _, ops ++ [o], upd_same, ?_, by rw [List.length_append, lo]; rfl, fun o' ho => ?_⟩
      · rw [upd_ne z]
        exact b4 _ _ (f3 _ _ e x y z) x y
      · rw [List.map_append]
        exact IMs.upd eD4 (IMs.snoc ov.im (IMs.but d3 b4 im))
      · rcases List.mem_append.mp ho with q | q
        · exact oo _ q
        · rw [List.mem_singleton.mp q]
          exact ok
    · rintro H3 ⟨f3, d3, vs, ops, eD, im, lo, oo⟩
      refine .inl ⟨D, _, rfl, SqL.of eD, fun q hq => ⟨(by show 2 ≤ sizeLine; decide), fun z hz => ?_⟩⟩
      have sq := same_new (o := .tup vs) hq
      have sz := same_new (o := .tup [V.int (2 + (j : Nat)), .ref q]) hz
      have hDD : ∀ c o, H c = some o → c ≠ p → c ≠ l → c ≠ D := fun c o e x y w => by
        have := b02 c o e x y
        rw [w, hD] at this
        cases this
      refine k _ _ s ops (fun c o e x y => sz _ _ (sq _ _ (f3 _ _ (b02 c o e x y) x y (hDD c o e x y)))) ((d3.same sq).same sz) ?_ ⟨by omega, by omega, by omega, oo⟩ (by omega) (by omega)
      refine .tup (vs := [V.int (2 + (j : Nat)), .ref q]) upd_same (.cons ?_ (.cons (.tup (sz _ _ upd_same) (IMs.same sz (IMs.same sq im))) .nil))
      rw [es]
      exact .int _
end
end K74
/-! drawn cuts. -/
namespace K74
open PySem L2 FX SQ
def NLs (H H' : Hp) : Prop := ∀ c o, H c = some o → (∀ xs, o ≠ .lst xs) → H' c = some o
theorem NLs.trans {H H1 H2 : Hp} (a : NLs H H1) (b : NLs H1 H2) : NLs H H2 := fun c o e n => b c o (a c o e n) n
theorem NLs.of {H H1 : Hp} (s : Same H H1) : NLs H H1 := fun c o e _ => s c o e
theorem NLs.but {H H1 : Hp} {p l : Addr} (d : Deal H p l) (b : But2 p l H H1) : NLs H H1 := fun c o e n => b c o e (d.nlst e n).1 (d.nlst e n).2
theorem NLs.put {H : Hp} {a : Addr} {xs : List V} {o : HO} (e : H a = some (.lst xs)) : NLs H (upd H a o) := fun c u q n => by
  rw [upd_ne (fun z => by
    rw [z, e] at q
    exact n _ (Option.some.inj q).symm)]
  exact q
mutual
theorem IM.nl {H H' : Hp} (s : NLs H H') : ∀ {v : V} {d : D}, IM H v d → IM H' v d
  | _, _, .non => .non
  | _, _, .bl b => .bl b
  | _, _, .int i => .int i
  | _, _, .str x => .str x
  | _, _, .tup e r => .tup (s _ _ e (fun _ z => nomatch z)) (IMs.nl s r)
theorem IMs.nl {H H' : Hp} (s : NLs H H') : ∀ {vs : List V} {ds : List D}, IMs H vs ds → IMs H' vs ds
  | _, _, .nil => .nil
  | _, _, .cons h r => .cons (IM.nl s h) (IMs.nl s r)
end
/-- all but the deal and one list as it was -/
def ButX (p l a : Addr) (H H' : Hp) : Prop := ∀ c o, H c = some o → c ≠ p → c ≠ l → c ≠ a → H' c = some o
theorem ButX.refl (p l a : Addr) (H : Hp) : ButX p l a H H := fun _ _ e _ _ _ => e
theorem ButX.same {p l a : Addr} {H H1 H2 : Hp} (b : ButX p l a H H1) (s : Same H1 H2) : ButX p l a H H2 := fun c o e x y z => s _ _ (b c o e x y z)
theorem ButX.but {p l a : Addr} {H H1 H2 : Hp} (b : ButX p l a H H1) (s : But2 p l H1 H2) : ButX p l a H H2 := fun c o e x y z => s _ _ (b c o e x y z) x y
theorem ButX.put {p l a : Addr} {H H1 : Hp} {o : HO} (b : ButX p l a H H1) : ButX p l a H (upd H1 a o) := fun c u e x y z => by
  rw [upd_ne z]
  exact b c u e x y z
theorem ButX.nls {p l a : Addr} {H H' : Hp} {xs : List V} (d : Deal H p l) (e : H a = some (.lst xs)) (b : ButX p l a H H') : NLs H H' := fun c o q n => b c o q (d.nlst q n).1 (d.nlst q n).2 (fun z => by
  rw [z, e] at q
  exact n _ (Option.some.inj q).symm)
theorem ButX.in2 {p l a : Addr} {H0 H H' : Hp} (n : H0 a = none) (b0 : But2 p l H0 H) (b : ButX p l a H H') : But2 p l H0 H' := fun c o e x y => b c o (b0 c o e x y) x y (fun z => by
  rw [z, n] at e
  cases e)
theorem rise_pw {ns : List Nat} (h : ns.Pairwise (· < ·)) (i x y : Nat) (hx : ns[i]? = some x) (hy : ns[i + 1]? = some y) : x < y := by
  obtain ⟨h1, rfl⟩ := List.getElem?_eq_some_iff.mp hx
  obtain ⟨h2, rfl⟩ := List.getElem?_eq_some_iff.mp hy
  exact List.pairwise_iff_getElem.mp h i (i + 1) h1 h2 (by omega)
theorem at_of {H : Hp} {v : V} {ds : List D} (h : IM H v (.tuple ds)) : ∃ a vs, v = .ref a ∧ H a = some (.tup vs) ∧ IMs H vs ds := by
  cases h with
  | tup e r => exact ⟨_, _, rfl, e, r⟩
theorem IMs.at {H : Hp} : ∀ {vs : List V} {ds : List D} {i : Nat} {d : D}, IMs H vs ds → ds[i]? = some d → ∃ v, vs[i]? = some v ∧ IM H v d
  | _, _, _, _, .nil, e => by simp at e
  | _, _, 0, _, .cons h _, e => ⟨_, rfl, by
    have := Option.some.inj e
    rw [← this]
    exact h⟩
  | _, _, i + 1, _, .cons _ r, e => by
    obtain ⟨v, h1, h2⟩ := IMs.at (i := i) r (by simpa using e)
    exact ⟨v, by simpa using h1, h2⟩
theorem okRd0 {s i n y : Nat} (h : y < i) : OkRd s i n (0, y) := ⟨Nat.zero_le _, by rw [if_pos rfl]; exact h⟩
theorem okRd1 {s i n y : Nat} (h : y < n) : OkRd s i n (1, y) := ⟨Nat.le_succ 1, by rw [if_neg (show ¬ (1 : Nat) = 0 by decide), if_pos rfl]; exact h⟩
theorem okRd2 {s i n y : Nat} (h : y < s) : OkRd s i n (2, y) := ⟨Nat.le_refl 2, by rw [if_neg (show ¬ (2 : Nat) = 0 by decide), if_neg (show ¬ (2 : Nat) = 1 by decide)]; exact h⟩
theorem shaped_nn (ns : List Nat) : SeqAt.shaped (.list (ns.map nD)) = true := by
  have := shaped_i (ns.map fun x : Nat => (x : Int))
  rw [List.map_map] at this
  exact this
theorem eqv_nn (ns : List Nat) : PyData.eqv (.list (ns.map nD)) (.list []) = ns.isEmpty := by
  cases ns <;> rfl
theorem okLs_range {s : Nat} (h : 2 ≤ s) (h4 : s ≤ 4) : OkLs s (List.range s) :=
  ⟨by rw [List.length_range]; omega, by rw [List.length_range]; omega, fun x hx => List.mem_range.mp hx, fun i x y => rise_pw List.pairwise_lt_range i x y⟩
theorem IMs.app {H : Hp} : ∀ {vs ws : List V} {ds es : List D}, IMs H vs ds → IMs H ws es → IMs H (vs ++ ws) (ds ++ es)
  | _, _, _, _, .nil, h => h
  | _, _, _, _, .cons a r, h => .cons a (IMs.app r h)
section
variable {P : Program} {w : World} {K : PySem.W.Frag} {mg : Str → Option Value} {base : Heap}
abbrev sCut : Stmt := top 39
def spCut : Sp := fun vs H Q _ => ∃ (p l : Addr) (vb : V) (s : Nat) (ops : List (Nat × List Nat)), vs = [.ref p, vb, nV 7, .bl false] ∧ Deal H p l ∧ IM H vb (bookD s ops) ∧ OkB s ops ∧ s ≤ 4 ∧ 0 < ops.length ∧
  ∀ (H' : Hp) (v : V) (c : Cut), But2 p l H H' → Deal H' p l → IM H' v (cutD c) → OkCut s ops c → 0 < c.lines.length → c.lines.length ≤ 7 → Q v H'
abbrev NCut : List Str := ["deal", "book", "most", "whole", "size", "lists", "lines", "number", "some", "at", "operation", "readings", "place", "kind", "ends", "value"]
theorem scCut : FnScope NCut ["deal", "book", "most", "whole"] (defScope sCut) := ⟨rfl, rfl, rfl, by decide +kernel, rfl, by decide +kernel, by decide +kernel⟩
theorem ok_cut {f fA fO : Addr} {fd fdA fdO : FuncData} (F : Fun K "_law_cut" "_law_cut" sCut f fd) (Z : Bi mg) (FA : At K mg "_law_any" sAny fA fdA ["deal", "bound"]) (FO : At K mg "_law_of" sOf fO fdO ["deal", "some"]) : FnOk P w K mg base CX0 3 f fd ["deal", "book", "most", "whole"] spCut := by
  have GA : FnOk P w K mg base CX0 1 fA fdA ["deal", "bound"] spAny := ok_any FA.F Z
  have GO : FnOk P w K mg base CX0 2 fO fdO ["deal", "some"] (spOf K) := ok_of FO.F Z FA
  refine F.ok scCut (fun vs H Q E h => ?_) (fun cdv A outer sh H vs Q E hr h => ?_)
  · obtain ⟨p, l, vb, s, ops, rfl, _⟩ := h
    rfl
  · obtain ⟨p, l, vb, s, ops, rfl, dl, hb, okb, s4, o0, k⟩ := h
    have hu := hr65 hr
    refine ⟨_, pss_cons (ps_par3 rfl scCut.nd (i := 4) (j := 5) (l := 6) rfl rfl rfl (by decide) (by decide) (by decide) rfl rfl rfl (by exact (pa_cons (pe_ix ix_tup (pv 1) pe_int (fun _ _ => rfl)) (pa_cons (pe_lst pa_nil) (pa_cons (pe_lst pa_nil) pa_nil)))) rfl)
      (pss_cons (ps_for PassesOwn.never rfl (pi_range1 (by rfl) Z.range (pa_cons (pe_op op_add pe_int (pe_call GA (hr.mono (by decide)) rfl FA.g FA.F.kp FA.b .nil pass0 (by exact (pa_cons (pv 0) (pa_cons pe_int pa_nil))))) pa_nil)) (pg_name (i := 7) scCut.nd rfl (Or.inl rfl))
        (pss_cons (ps_setLc (i := 8) (own := [("value", 15)]) (g := gName 15) (tt := tTest (tOp (rI0 fun i j => .bl (decide (i > j))) (tCall spAny [] E0 (tCons (tVar 0) (tCons (tC (.int 3)) tNil))) (tC (.int 0)))) (te := tVar 15) rfl scCut.nd rfl rfl (sw_true rfl rfl rfl (by decide +kernel)) (pi_range1 (by rfl) Z.range (pa_cons (pv 4) pa_nil))
            (blkOk_by (N := NCut) (sc := defScope sCut) (by decide +kernel)) (fun _ _ _ _ _ => pg_name (i := 15) scCut.nd rfl (Or.inl rfl)) (fun _ _ _ _ _ => pts_one (pt_cmpR op_gt (pe_call GA (hr.mono (by decide)) (by rfl) FA.g FA.F.kp FA.b .nil pass0 (by exact (pa_cons (pv 0) (pa_cons pe_int pa_nil)))) pe_int (nomark _))) (fun _ _ _ _ _ => pv 15))
        (pss_one (ps_expr (pe_bm PySem.F.plainAttrs_list PySem.F.slot_list_append PySem.F.type_list_append mt_append (pv 5) (pa_cons (pe_ifExp (PW.pt (pw_or (pt_val (pv 3)) (pw_or1 (pt_cmpR (op_eqD (Nat.lt_of_le_of_lt (Nat.add_le_add_left (by decide : 64 ≤ 65) _) hu)) (pv 8) (pe_lst pa_nil) (nomark _))))) (pe_tupRg rfl (by rfl) Z.tuple (prg_1 (by rfl) Z.range (pv 4))) (pe_tupleOf (by rfl) Z.tuple (pv 8))) pa_nil))))))
      (pss_cons (ps_for PassesOwn.never rfl (pi_range1 (by rfl) Z.range (pa_cons (pe_op op_add pe_int (pe_call GA (hr.mono (by decide)) rfl FA.g FA.F.kp FA.b .nil pass0 (by exact (pa_cons (pv 0) (pa_cons (pv 2) pa_nil))))) pa_nil)) (pg_name (i := 9) scCut.nd rfl (Or.inl rfl))
        (pss_cons (ps_par rfl scCut.nd (i := 10) (j := 11) rfl rfl (by decide) rfl rfl (by exact (pa_cons (pe_call GA (hr.mono (by decide)) rfl FA.g FA.F.kp FA.b .nil pass0 (by exact (pa_cons (pv 0) (pa_cons (pe_callB call_len_seq (by rfl) Z.len PySem.boot_len (pa_cons (pe_ix ix_tup (pv 1) pe_int (fun _ _ => rfl)) pa_nil)) pa_nil)))) (pa_cons (pe_lst pa_nil) pa_nil))) rfl)
        (pss_cons (ps_for PassesOwn.never rfl (pi_range1 (by rfl) Z.range (pa_cons (pe_ix ix_tup (pe_ix ix_tup (pe_ix ix_tup (pv 1) pe_int (fun _ _ => rfl)) (pv 10) (fun _ _ => rfl)) pe_int (fun _ _ => rfl)) pa_nil)) (pg_name (i := 12) scCut.nd rfl (Or.inl rfl))
          (pss_cons (ps_set (i := 13) scCut.nd rfl (Or.inl rfl) (pe_call GA (hr.mono (by decide)) rfl FA.g FA.F.kp FA.b .nil pass0 (by exact (pa_cons (pv 0) (pa_cons pe_int pa_nil)))))
          (pss_one (ps_if (pt_cmpR op_eq (pv 13) pe_int (nomark _))
            (pss_one (ps_expr (pe_bm PySem.F.plainAttrs_list PySem.F.slot_list_append PySem.F.type_list_append mt_append (pv 11) (pa_cons (pe_tup (by exact (pa_cons pe_str (pa_cons (pe_call GA (hr.mono (by decide)) rfl FA.g FA.F.kp FA.b .nil pass0 (by exact (pa_cons (pv 0) (pa_cons (pv 4) pa_nil)))) pa_nil)))) pa_nil))))
            (pss_one (ps_if (PW.pt (pw_or (pt_cmpR op_lt (pv 13) pe_int (nomark _)) (pw_or1 (pt_cmpR op_eq (pv 9) pe_int (nomark _)))))
              (pss_one (ps_expr (pe_bm PySem.F.plainAttrs_list PySem.F.slot_list_append PySem.F.type_list_append mt_append (pv 11) (pa_cons (pe_tup (by exact (pa_cons pe_str (pa_cons (pe_call GA (hr.mono (by decide)) rfl FA.g FA.F.kp FA.b .nil pass0 (by exact (pa_cons (pv 0) (pa_cons (pe_callB call_len_seq (by rfl) Z.len PySem.boot_len (pa_cons (pv 5) pa_nil)) pa_nil)))) pa_nil)))) pa_nil))))
              (pss_one (ps_expr (pe_bm PySem.F.plainAttrs_list PySem.F.slot_list_append PySem.F.type_list_append mt_append (pv 11) (pa_cons (pe_tup (by exact (pa_cons pe_str (pa_cons (pe_call GA (hr.mono (by decide)) rfl FA.g FA.F.kp FA.b .nil pass0 (by exact (pa_cons (pv 0) (pa_cons (pv 9) pa_nil)))) pa_nil)))) pa_nil))))))))))
        (pss_one (ps_expr (pe_bm PySem.F.plainAttrs_list PySem.F.slot_list_append PySem.F.type_list_append mt_append (pv 6) (pa_cons (pe_tup (by exact (pa_cons (pv 10) (pa_cons (pe_tupleOf (by rfl) Z.tuple (pv 11)) pa_nil)))) pa_nil)))))))
      (pss_cons (ps_set (i := 14) scCut.nd rfl (Or.inl rfl) (pe_op op_catA (pe_tup (by exact (pa_cons (pe_tup (by exact (pa_cons pe_str (pa_cons (pe_op op_sub (pe_callB call_len_seq (by rfl) Z.len PySem.boot_len (pa_cons (pv 6) pa_nil)) pe_int) pa_nil)))) pa_nil)))
          (pe_call GO (hr.mono (by decide)) rfl FO.g FO.F.kp FO.b .nil pass0 (by exact (pa_cons (pv 0) (pa_cons (pe_lst (by exact (pa_cons (pe_tup pa_nil) (pa_cons (pe_tup (by exact (pa_cons (pe_tup (by exact (pa_cons pe_str (pa_cons (pe_call GA (hr.mono (by decide)) rfl FA.g FA.F.kp FA.b .nil pass0 (by exact (pa_cons (pv 0) (pa_cons (pe_callB call_len_seq (by rfl) Z.len PySem.boot_len (pa_cons (pv 6) pa_nil)) pa_nil)))) pa_nil)))) pa_nil))) (pa_cons (pe_tup (by exact (pa_cons (pe_tup (by exact (pa_cons pe_str (pa_cons pe_int pa_nil)))) pa_nil))) pa_nil))))) pa_nil))))))
      (pss_one (ps_ret (pe_tup (by exact (pa_cons (pe_tupleOf (by rfl) Z.tuple (pv 5)) (pa_cons (pe_tupleOf (by rfl) Z.tuple (pv 6)) (pa_cons (pv 14) pa_nil)))))))))), ?_⟩
    have s2' := okb.s2
    obtain ⟨ab, vs, rfl, eb, ib⟩ := at_of hb
    obtain ⟨x, y, rfl, ix, iy⟩ : ∃ x y, vs = [x, y] ∧ IM H x (nD s) ∧ IM H y (opsD ops) := by
      cases ib with
      | cons h r => cases r with
        | cons h2 r2 => cases r2 with
          | nil => exact ⟨_, _, rfl, h, h2⟩
    obtain rfl : x = nV s := by
      cases ix
      rfl
    obtain ⟨ao, os, rfl, eo, io⟩ := at_of iy
    have lo : os.length = ops.length := by rw [io.len, List.length_map]
    have o8 := okb.o8
    refine ⟨_, rfl, ab, _, _, _, rfl, rfl, SqT.of eb, atI_nat (j := 0) rfl, (by show 0 ≤ sizeLine; decide), fun A1 h1 => ⟨(by show 0 ≤ sizeLine; decide), fun A2 h2 => ⟨_, _, _, rfl, ?_⟩⟩⟩
    have s1 := same_new (o := .lst []) h1
    have s2 := same_new (o := .lst []) h2
    have d2 := (dl.same s1).same s2
    have e1 : upd (upd H A1 (.lst [])) A2 (.lst []) A1 = some (.lst []) := s2 _ _ upd_same
    have e2 : upd (upd H A1 (.lst [])) A2 (.lst []) A2 = some (.lst []) := upd_same
    have A12 : A1 ≠ A2 := fun z => by
      rw [← z, upd_same] at h2
      cases h2
    have n1 := dl.new h1
    have n2 := (dl.same s1).new h2
    have b2 : But2 p l H (upd (upd H A1 (.lst [])) A2 (.lst [])) := But2.of (s1.trans s2)
    have hA2 : H A2 = none := by rw [upd_ne (Ne.symm A12)] at h2; exact h2
    generalize upd (upd H A1 (.lst [])) A2 (.lst []) = H2 at d2 e1 e2 b2
    refine ⟨_, rfl, p, l, 2, rfl, by decide, by decide, d2, fun H3 j1 b3 d3 hj1 => ⟨_, _, rfl, rfl, ((1 + j1 : Nat) : Int), congrArg (fun z => [V.int z]) (show (1 : Int) + (j1 : Int) = ((1 + j1 : Nat) : Int) by omega), by omega, by omega, ?_⟩⟩
    rw [Int.toNat_natCast]
    have b03 := b2.trans b3
    have e13 := b3 _ _ e1 n1.1 n1.2
    have e23 := b3 _ _ e2 n2.1 n2.2
    have nb := dl.nlst eb (fun _ z => nomatch z)
    have no' := dl.nlst eo (fun _ z => nomatch z)
    have keep : ∀ (H' : Hp), But2 p l H H' → H' ab = some (.tup [nV s, .ref ao]) ∧ H' ao = some (.tup os) := fun H' b => ⟨b _ _ eb nb.1 nb.2, b _ _ eo no'.1 no'.2⟩
    refine for_range (n := 1 + j1) (fun i σ H' => ∃ (u7 u8 : Option V), σ = [some (.ref p), some (.ref ab), some (nV 7), some (.bl false), some (nV s), some (.ref A1), some (.ref A2), u7, u8, none, none, none, none, none, none, none] ∧ ButX p l A1 H3 H' ∧ Deal H' p l ∧ ∃ vs ls, H' A1 = some (.lst vs) ∧ IMs H' vs (ls.map rN) ∧ ls.length = i ∧ ∀ ns ∈ ls, OkLs s ns)
      ⟨none, none, rfl, ButX.refl p l A1 H3, d3, [], [], e13, .nil, rfl, fun ns hn => (by cases hn)⟩ ?_ ?_
    · rintro i σ H4 hi ⟨u7, u8, rfl, f4, d4, vs, ls, eA, im, ll, oo⟩
      have lv := im.len
      rw [List.length_map] at lv
      refine ⟨_, rfl, ((s : Nat) : Int), rfl, by omega, by omega, ?_⟩
      rw [Int.toNat_natCast]
      refine fun D hD => ?_
      have sD := same_new (o := .lst []) hD
      have nD' := d4.new hD
      have A1D : A1 ≠ D := fun z => by
        rw [z, hD] at eA
        cases eA
      refine walk_it walk_range (fun j H' => ButX p l D H4 H' ∧ Deal H' p l ∧ ∃ cs : List Nat, H' D = some (.lst (cs.map nV)) ∧ cs.Pairwise (· < ·) ∧ (∀ x ∈ cs, x < j) ∧ cs.length ≤ j) ⟨fun c o e _ _ _ => sD _ _ e, d4.same sD, [], upd_same, List.Pairwise.nil, fun x hx => (by cases hx), Nat.le_refl _⟩ (fun _ _ _ _ => trivial) ?_ ?_
      · rintro j x _ H5 hj ⟨f5, d5, cs, eD, pw, lt, lc⟩ ⟨rfl, hx⟩
        obtain rfl : x = nV j := hx.trans (congrArg V.int (Int.zero_add _))
        refine ⟨rfl, _, rfl, p, l, 3, rfl, by decide, by decide, d5, fun H6 y b6 d6 hy => ⟨_, _, rfl, rfl, _, rfl, ite_any ?_ ?_⟩⟩
        · refine ⟨_, rfl, _, b6 _ _ eD nD'.1 nD'.2, by rw [List.length_map, sizeLine_eq]; omega, (f5.but b6).put, d6.upd nD', cs ++ [j], by rw [upd_same, List.map_append]; rfl, ?_, fun x hx => ?_, by rw [List.length_append]; show _ + 1 ≤ _; omega⟩
          · rw [List.pairwise_append]
            exact ⟨pw, List.pairwise_singleton _ _, fun a ha b hb => by rw [List.mem_singleton.mp hb]; exact lt a ha⟩
          · rcases List.mem_append.mp hx with q | q
            · have := lt x q
              omega
            · rw [List.mem_singleton.mp q]
              omega
        · exact ⟨f5.but b6, d6, cs, b6 _ _ eD nD'.1 nD'.2, pw, fun x hx => by have := lt x hx; omega, by omega⟩
      · rintro H5 ⟨f5, d5, cs, eD, pw, lt, lc⟩
        have eA5 := f5 _ _ eA n1.1 n1.2 A1D
        have im5 : IMs H5 vs (ls.map rN) := IMs.nl (NLs.trans (NLs.of sD) (ButX.nls (d4.same sD) upd_same (fun c o e x y z => f5 c o (by rw [upd_ne z] at e; exact e) x y z))) im
        have f45 : ButX p l A1 H3 H5 := fun c o e x y z => f5 _ _ (f4 c o e x y z) x y (fun w => by
          have := f4 c o e x y z
          rw [w, hD] at this
          cases this)
        have put : ∀ (w7 : Option V) (Hx : Hp) (q : Addr) (ns : List Nat), Same H5 Hx → Hx q = none → OkLs s ns → ∃ l' xs z, V.ref A1 = .ref l' ∧ [V.ref q] = [z] ∧ upd Hx q (.tup (ns.map nV)) l' = some (.lst xs) ∧ xs.length < sizeLine ∧
            (∃ (u7 u8 : Option V), [some (V.ref p), some (.ref ab), some (nV 7), some (.bl false), some (nV s), some (.ref A1), some (.ref A2), w7, some (.ref D), none, none, none, none, none, none, none] = [some (.ref p), some (.ref ab), some (nV 7), some (.bl false), some (nV s), some (.ref A1), some (.ref A2), u7, u8, none, none, none, none, none, none, none] ∧
              ButX p l A1 H3 (upd (upd Hx q (.tup (ns.map nV))) l' (.lst (xs ++ [z]))) ∧ Deal (upd (upd Hx q (.tup (ns.map nV))) l' (.lst (xs ++ [z]))) p l ∧ ∃ (vs : List V) (ls : List (List Nat)), upd (upd Hx q (.tup (ns.map nV))) l' (.lst (xs ++ [z])) A1 = some (.lst vs) ∧ IMs (upd (upd Hx q (.tup (ns.map nV))) l' (.lst (xs ++ [z]))) vs (ls.map rN) ∧ ls.length = i + 1 ∧ ∀ ns ∈ ls, OkLs s ns) := fun w7 Hx q ns sx hq ok => by
          have sq := same_new (o := .tup (ns.map nV)) hq
          have eAx := sq _ _ (sx _ _ eA5)
          refine ⟨A1, _, _, rfl, rfl, eAx, by rw [lv, ll, sizeLine_eq]; omega, _, _, rfl, ((f45.same sx).same sq).put, ((d5.same sx).same sq).upd n1, _, ls ++ [ns], upd_same, ?_, by rw [List.length_append, ll]; rfl, fun m hm => ?_⟩
          · rw [List.map_append]
            exact IMs.upd eAx (IMs.snoc (.tup upd_same (IMs.nats ns)) (IMs.same sq (IMs.same sx im5)))
          · rcases List.mem_append.mp hm with z | z
            · exact oo m z
            · rw [List.mem_singleton.mp z]
              exact ok
        refine ⟨_, rfl, .inl ⟨rfl, _, SqL.of eA5⟩, _, rfl, _, rfl, go_f rfl ⟨_, rfl, (by show 0 ≤ sizeLine; decide), fun z hz => ?_⟩⟩
        have sz := same_new (o := .lst []) hz
        refine ⟨.list (cs.map nD), .list [], .lst (SqL.of (sz _ _ eD)) (dp_n _), .lst (SqL.of upd_same) .nil, shaped_nn _, rfl, _, rfl, ?_⟩
        rw [eqv_nn]
        cases cs with
        | nil =>
          refine go_t rfl ⟨_, rfl, _, rfl, RgOk.of_le (by omega) (by omega) (by omega) (by omega), fun q hq => ?_⟩
          rw [rg0]
          exact put _ _ q _ sz hq (okLs_range s2' s4)
        | cons c0 cr =>
          refine go_f rfl ⟨_, rfl, .inl ⟨D, _, rfl, SqL.of (sz _ _ eD), fun q hq => ?_⟩⟩
          exact put _ _ q (c0 :: cr) sz hq ⟨Nat.succ_pos _, by omega, lt, fun i x y => rise_pw pw i x y⟩
    · rintro σ H4 ⟨u7, u8, rfl, f4, d4, vs, ls, eA, im, ll, oo⟩
      have lv := im.len
      rw [List.length_map] at lv
      refine ⟨_, rfl, _, rfl, p, l, 7, rfl, by decide, by decide, d4, fun H5 j2 b5 d5 hj2 => ⟨_, _, rfl, rfl, ((1 + j2 : Nat) : Int), congrArg (fun z => [V.int z]) (show (1 : Int) + (j2 : Int) = ((1 + j2 : Nat) : Int) by omega), by omega, by omega, ?_⟩⟩
      rw [Int.toNat_natCast]
      have b05 : But2 p l H H5 := (ButX.in2 h1 b03 f4).trans b5
      have eA5 := b5 _ _ eA n1.1 n1.2
      have im5 := IMs.but d4 b5 im
      have e25 := b5 _ _ (f4 _ _ e23 n2.1 n2.2 (Ne.symm A12)) n2.1 n2.2
      refine for_range (n := 1 + j2) (fun i σ H' => ∃ (u9 u10 u11 u12 u13 : Option V), σ = [some (.ref p), some (.ref ab), some (nV 7), some (.bl false), some (nV s), some (.ref A1), some (.ref A2), u7, u8, u9, u10, u11, u12, u13, none, none] ∧ ButX p l A2 H5 H' ∧ Deal H' p l ∧ ∃ (ws : List V) (lns : List Ln), H' A2 = some (.lst ws) ∧ IMs H' ws (lns.map lnD) ∧ lns.length = i ∧ ∀ (k : Nat) ln, lns[k]? = some ln → OkLn s ops ls.length k ln)
        ⟨none, none, none, none, none, rfl, ButX.refl p l A2 H5, d5, [], [], e25, .nil, rfl, fun k ln h => (by cases h)⟩ ?_ ?_
      · rintro i σ H6 hi ⟨u9, u10, u11, u12, u13, rfl, f6, d6, ws, lns, e26, imw, lw, okw⟩
        have b06 : But2 p l H H6 := f6.in2 hA2 b05
        obtain ⟨eb6, eo6⟩ := keep _ b06
        refine ⟨_, rfl, _, rfl, ab, _, _, _, rfl, rfl, SqT.of eb6, atI_nat (j := 1) rfl, ao, os, rfl, .inr (SqT.of eo6), p, l, os.length, rfl, by omega, by omega, d6, fun H7 o b7 d7 ho => ⟨(by show 0 ≤ sizeLine; decide), fun A3 h3 => ⟨_, _, rfl, ?_⟩⟩⟩
        have b07 := b06.trans b7
        have s8 := same_new (o := .lst []) h3
        have n3 := d7.new h3
        have b08 := b07.trans (But2.of s8)
        have d8 := d7.same s8
        have e38 : upd H7 A3 (.lst []) A3 = some (.lst []) := upd_same
        have A23 : A2 ≠ A3 := fun z => by
          have := b7 _ _ e26 n2.1 n2.2
          rw [z, h3] at this
          cases this
        have hA3 : H6 A3 = none := by
          cases e : H6 A3 with
          | none => rfl
          | some w =>
            have := b7 _ _ e n3.1 n3.2
            rw [h3] at this
            cases this
        have h03 : H A3 = none := by
          cases e : H A3 with
          | none => rfl
          | some w =>
            have := b07 _ _ e n3.1 n3.2
            rw [h3] at this
            cases this
        have b68 : But2 p l H6 (upd H7 A3 (.lst [])) := b7.trans (But2.of s8)
        generalize upd H7 A3 (.lst []) = H8 at b08 d8 e38 b68
        obtain ⟨eb8, eo8⟩ := keep _ b08
        rw [lo] at ho
        obtain ⟨⟨pl, as⟩, hop⟩ : ∃ op, ops[o]? = some op := ⟨ops[o], List.getElem?_eq_getElem ho⟩
        obtain ⟨p1, p3, _, _⟩ := okb.ops _ (List.mem_of_getElem? hop)
        obtain ⟨ou, hou, iou⟩ := IMs.at (i := o) (d := opN (pl, as)) io (by rw [List.getElem?_map, hop]; rfl)
        obtain ⟨au, avs, rfl, eau, iav⟩ := at_of iou
        obtain ⟨xa, ya, rfl, ixa⟩ : ∃ xa ya, avs = [xa, ya] ∧ IM H xa (nD pl) := by
          cases iav with
          | cons h r => cases r with
            | cons h2 r2 => cases r2 with
              | nil => exact ⟨_, _, rfl, h⟩
        obtain rfl : xa = nV pl := by
          cases ixa
          rfl
        have nau := dl.nlst eau (fun _ z => nomatch z)
        refine ⟨_, rfl, ab, _, _, _, rfl, rfl, SqT.of eb8, atI_nat (j := 1) rfl, _, rfl, ao, _, _, _, rfl, rfl, SqT.of eo8, atI_nat hou, au, _, _, _, rfl, rfl, SqT.of (b08 _ _ eau nau.1 nau.2), atI_nat (j := 0) rfl, ((pl : Nat) : Int), rfl, by omega, by have : pl ≤ 3 := p3; omega, ?_⟩
        rw [Int.toNat_natCast]
        refine for_range (n := pl) (fun j σ H' => ∃ (u12 u13 : Option V), σ = [some (.ref p), some (.ref ab), some (nV 7), some (.bl false), some (nV s), some (.ref A1), some (.ref A2), u7, u8, some (.int (0 + (i : Nat))), some (nV o), some (.ref A3), u12, u13, none, none] ∧ ButX p l A3 H8 H' ∧ Deal H' p l ∧ ∃ (rvs : List V) (rs : List Rd), H' A3 = some (.lst rvs) ∧ IMs H' rvs (rs.map rdD) ∧ rs.length = j ∧ ∀ r ∈ rs, OkRd s ls.length i r)
          ⟨u12, u13, rfl, ButX.refl p l A3 H8, d8, [], [], e38, .nil, rfl, fun r hr => (by cases hr)⟩ ?_ ?_
        · rintro j σ H9 hj ⟨v12, v13, rfl, f9, d9, rvs, rs, e39, imr, lr, okr⟩
          have lrv := imr.len
          rw [List.length_map] at lrv
          have p3' : pl ≤ 3 := p3
          have b69 : But2 p l H6 H9 := f9.in2 hA3 b68
          have eA6 := f6 _ _ eA5 n1.1 n1.2 A12
          have eA9 := b69 _ _ eA6 n1.1 n1.2
          refine ⟨_, rfl, p, l, 7, rfl, by decide, by decide, d9, fun H10 kd b10 d10 hk => ?_⟩
          have e3x := b10 _ _ e39 n3.1 n3.2
          have eAx := b10 _ _ eA9 n1.1 n1.2
          have put : ∀ (w12 : Option V) (Hx : Hp) (t : Addr) (r : Rd), But2 p l H10 Hx → Deal Hx p l → Hx t = none → OkRd s ls.length i r → ∃ l' xs z, V.ref A3 = .ref l' ∧ [V.ref t] = [z] ∧ upd Hx t (.tup [.str (wordS r.1), nV r.2]) l' = some (.lst xs) ∧ xs.length < sizeLine ∧
              (∃ (u12 u13 : Option V), [some (V.ref p), some (.ref ab), some (nV 7), some (.bl false), some (nV s), some (.ref A1), some (.ref A2), u7, u8, some (.int (0 + (i : Nat))), some (nV o), some (.ref A3), w12, some (nV kd), none, none] = [some (.ref p), some (.ref ab), some (nV 7), some (.bl false), some (nV s), some (.ref A1), some (.ref A2), u7, u8, some (.int (0 + (i : Nat))), some (nV o), some (.ref A3), u12, u13, none, none] ∧
                ButX p l A3 H8 (upd (upd Hx t (.tup [.str (wordS r.1), nV r.2])) l' (.lst (xs ++ [z]))) ∧ Deal (upd (upd Hx t (.tup [.str (wordS r.1), nV r.2])) l' (.lst (xs ++ [z]))) p l ∧ ∃ (rvs : List V) (rs : List Rd), upd (upd Hx t (.tup [.str (wordS r.1), nV r.2])) l' (.lst (xs ++ [z])) A3 = some (.lst rvs) ∧
                  IMs (upd (upd Hx t (.tup [.str (wordS r.1), nV r.2])) l' (.lst (xs ++ [z]))) rvs (rs.map rdD) ∧ rs.length = j + 1 ∧ ∀ r ∈ rs, OkRd s ls.length i r) := fun w12 Hx t r bx dx ht ok => by
            have sq := same_new (o := .tup [.str (wordS r.1), nV r.2]) ht
            have eq := sq _ _ (bx _ _ e3x n3.1 n3.2)
            refine ⟨A3, _, _, rfl, rfl, eq, by rw [lrv, lr, sizeLine_eq]; omega, _, _, rfl, (((f9.but b10).but bx).same sq).put, (dx.same sq).upd n3, _, rs ++ [r], upd_same, ?_, by rw [List.length_append, lr]; rfl, fun m hm => ?_⟩
            · rw [List.map_append]
              exact IMs.upd eq (IMs.snoc (.tup upd_same (.cons (.str _) (.cons (.int _) .nil))) (IMs.same sq (IMs.but d10 bx (IMs.but d9 b10 imr))))
            · rcases List.mem_append.mp hm with z | z
              · exact okr m z
              · rw [List.mem_singleton.mp z]
                exact ok
          have inp : ∀ (w12 : Option V) (Hx : Hp) (t : Addr) (y : Nat), But2 p l H10 Hx → Deal Hx p l → Hx t = none → y < ls.length → _ := fun w12 Hx t y bx dx ht hy => put w12 Hx t (0, y) bx dx ht (okRd0 hy)
          refine ⟨_, rfl, rfl, _, rfl, ite_any ?_ ?_⟩
          · refine ⟨_, rfl, .inl ⟨rfl, _, SqL.of e3x⟩, _, rfl, _, rfl, p, l, s, rfl, by omega, by omega, d10, fun Hx y bx dx hy => ⟨(by show 2 ≤ sizeLine; decide), fun t ht => ?_⟩⟩
            exact put _ Hx t (2, y) bx dx ht (okRd2 hy)
          refine ⟨_, rfl, _, _, rfl, rfl, _, rfl, ite_any (go_t rfl ?_) ⟨_, rfl, rfl, _, rfl, ?_⟩⟩
          · refine ⟨_, rfl, .inl ⟨rfl, _, SqL.of e3x⟩, _, rfl, _, rfl, A1, vs, rfl, .inl (SqL.of eAx), p, l, vs.length, rfl, by omega, by omega, d10, fun Hx y bx dx hy => ⟨(by show 2 ≤ sizeLine; decide), fun t ht => ?_⟩⟩
            exact inp _ Hx t y bx dx ht (by omega)
          by_cases i0 : i = 0
          · refine go_t (decide_eq_true (congrArg V.int (show (0 : Int) + (i : Int) = 0 by omega))) ?_
            refine ⟨_, rfl, .inl ⟨rfl, _, SqL.of e3x⟩, _, rfl, _, rfl, A1, vs, rfl, .inl (SqL.of eAx), p, l, vs.length, rfl, by omega, by omega, d10, fun Hx y bx dx hy => ⟨(by show 2 ≤ sizeLine; decide), fun t ht => ?_⟩⟩
            exact inp _ Hx t y bx dx ht (by omega)
          · refine go_f (decide_eq_false fun z => i0 (by have z2 : (0 : Int) + (i : Int) = 0 := V.int.inj z; omega)) ?_
            refine ⟨_, rfl, .inl ⟨rfl, _, SqL.of e3x⟩, _, rfl, _, rfl, p, l, i, congrArg (fun z => [V.ref p, V.int z]) (Int.zero_add _), by omega, by omega, d10, fun Hx y bx dx hy => ⟨(by show 2 ≤ sizeLine; decide), fun t ht => ?_⟩⟩
            exact put _ Hx t (1, y) bx dx ht (okRd1 hy)
        · rintro σ H9 ⟨v12, v13, rfl, f9, d9, rvs, rs, e39, imr, lr, okr⟩
          have b69 : But2 p l H6 H9 := f9.in2 hA3 b68
          have e29 := b69 _ _ e26 n2.1 n2.2
          have lww := imw.len
          rw [List.length_map] at lww
          refine ⟨_, rfl, .inl ⟨rfl, _, SqL.of e29⟩, _, rfl, _, rfl, .inl ⟨A3, _, rfl, SqL.of e39, fun q hq => ⟨(by show 2 ≤ sizeLine; decide), fun t ht => ?_⟩⟩⟩
          have sq := same_new (o := .tup rvs) hq
          have st := same_new (o := .tup [V.int (o : Nat), .ref q]) ht
          have e2t := st _ _ (sq _ _ e29)
          refine ⟨A2, _, _, rfl, rfl, e2t, by rw [lww, lw, sizeLine_eq]; omega, _, _, _, _, _, rfl, (((f6.but b69).same sq).same st).put, ((d9.same sq).same st).upd n2, _, lns ++ [(o, rs)], upd_same, ?_, by rw [List.length_append, lw]; rfl, fun kk ln hk => ?_⟩
          · rw [List.map_append]
            exact IMs.upd e2t (IMs.snoc (.tup upd_same (.cons (.int _) (.cons (.tup (st _ _ upd_same) (IMs.same st (IMs.same sq imr))) .nil))) (IMs.same st (IMs.same sq (IMs.but d6 b69 imw))))
          · by_cases hkl : kk < lns.length
            · rw [List.getElem?_append_left hkl] at hk
              exact okw kk ln hk
            · rw [List.getElem?_append_right (by omega)] at hk
              cases e : kk - lns.length with
              | zero =>
                rw [e] at hk
                obtain rfl := Option.some.inj hk
                have : kk = i := by omega
                rw [this]
                exact ⟨⟨(pl, as), hop, lr, p3⟩, okr⟩
              | succ n =>
                rw [e] at hk
                cases hk
      · rintro σ H6 ⟨u9, u10, u11, u12, u13, rfl, f6, d6, ws, lns, e26, imw, lw, okw⟩
        have lww := imw.len
        rw [List.length_map] at lww
        have b06 : But2 p l H H6 := f6.in2 hA2 b05
        have eA6 := f6 _ _ eA5 n1.1 n1.2 A12
        have im6 : IMs H6 vs (ls.map rN) := IMs.nl (ButX.nls d5 e25 f6) im5
        refine ⟨_, rfl, A2, ws, rfl, .inl (SqL.of e26), _, _, rfl, rfl, (by show 2 ≤ sizeLine; decide), fun t1 ht1 => ⟨(by show 1 ≤ sizeLine; decide), fun t2 ht2 => ⟨_, rfl, (by show 0 ≤ sizeLine; decide), fun t3 ht3 => ?_⟩⟩⟩
        have q1 := same_new (o := .tup [V.str "line", .int ((ws.length : Nat) - 1)]) ht1
        have q2 := same_new (o := .tup [V.ref t1]) ht2
        have q3 := same_new (o := .tup []) ht3
        have ei : ((ws.length : Int) - 1) = ((lns.length - 1 : Nat) : Int) := by omega
        have iv : ∀ H', IM H' (V.int ((ws.length : Int) - 1)) (nD (lns.length - 1)) := fun H' => by
          rw [ei]
          exact .int _
        have m2 : IM (upd (upd H6 t1 (.tup [V.str "line", .int ((ws.length : Nat) - 1)])) t2 (.tup [V.ref t1])) (.ref t2) (.tuple [rdD (1, lns.length - 1)]) := .tup upd_same (.cons (.tup (q2 _ _ upd_same) (.cons (.str _) (.cons (iv _) .nil))) .nil)
        have q123 := (q1.trans q2).trans q3
        have d63 := d6.same q123
        have e3t := upd_same (H := upd (upd H6 t1 (.tup [V.str "line", .int ((ws.length : Nat) - 1)])) t2 (.tup [V.ref t1])) (a := t3) (o := HO.tup [])
        have m2' := IM.same q3 m2
        have ea3 := q123 _ _ e26
        generalize upd (upd (upd H6 t1 (.tup [V.str "line", .int ((ws.length : Nat) - 1)])) t2 (.tup [V.ref t1])) t3 (.tup []) = Hc at q123 d63 e3t m2' ea3
        refine ⟨_, rfl, _, rfl, A2, ws, rfl, .inl (SqL.of ea3), p, l, ws.length, rfl, by omega, by omega, d63, fun H7 y b7 d7 hy => ⟨(by show 2 ≤ sizeLine; decide), fun t4 ht4 => ⟨(by show 1 ≤ sizeLine; decide), fun t5 ht5 => ⟨(by show 2 ≤ sizeLine; decide), fun t6 ht6 => ⟨(by show 1 ≤ sizeLine; decide), fun t7 ht7 => ⟨(by show 3 ≤ sizeLine; decide), fun t8 ht8 => ?_⟩⟩⟩⟩⟩⟩
        have g4 := same_new (o := .tup [V.str "line", nV y]) ht4
        have g5 := same_new (o := .tup [V.ref t4]) ht5
        have g6 := same_new (o := .tup [V.str "in", .int 0]) ht6
        have g7 := same_new (o := .tup [V.ref t6]) ht7
        have g8 := same_new (o := .lst [V.ref t3, .ref t5, .ref t7]) ht8
        have g48 := g4.trans (g5.trans (g6.trans (g7.trans g8)))
        have n8 := (((((d7.same g4).same g5).same g6).same g7)).new ht8
        have b6c : But2 p l H6 _ := (But2.of q123).trans (b7.trans (But2.of g48))
        have r5 := g8 _ _ (g7 _ _ (g6 _ _ (upd_same (H := upd H7 t4 (.tup [V.str "line", nV y])) (a := t5) (o := HO.tup [V.ref t4]))))
        have r4 := g8 _ _ (g7 _ _ (g6 _ _ (g5 _ _ (upd_same (H := H7) (a := t4) (o := HO.tup [V.str "line", nV y])))))
        have r7 := g8 _ _ (upd_same (H := upd (upd (upd H7 t4 (.tup [V.str "line", nV y])) t5 (.tup [V.ref t4])) t6 (.tup [V.str "in", .int 0])) (a := t7) (o := HO.tup [V.ref t6]))
        have r6 := g8 _ _ (g7 _ _ (upd_same (H := upd (upd H7 t4 (.tup [V.str "line", nV y])) t5 (.tup [V.ref t4])) (a := t6) (o := HO.tup [V.str "in", .int 0])))
        have n3' := d63.nlst e3t (fun _ z => nomatch z)
        have r3 := g48 _ _ (b7 _ _ e3t n3'.1 n3'.2)
        have mm2 := IM.same g48 (IM.but d63 b7 m2')
        have dd := d7.same g48
        refine ⟨p, l, t8, .L, _, rfl, n8.1, n8.2, dd, SqL.of upd_same, by show 0 < 3; decide, by show 3 < 1000; decide, fun H8 v b8 d8 hv => ?_⟩
        have mm := IM.but dd b8 mm2
        have b6 := b6c.trans b8
        have b08 := b06.trans b6
        have im8 := IMs.but d6 b6 im6
        have imw8 := IMs.but d6 b6 imw
        have eA8 := b6 _ _ eA6 n1.1 n1.2
        have e28 := b6 _ _ e26 n2.1 n2.2
        obtain ⟨es, ve, oe, le⟩ : ∃ es : List Rd, IM H8 v (.tuple (es.map rdD)) ∧ (∀ r ∈ es, OkRd s ls.length lns.length r) ∧ es.length ≤ 1 := by
          rcases List.mem_cons.mp hv with rfl | hv
          · exact ⟨[], IM.but dd b8 (.tup r3 .nil), fun r hr => (by cases hr), Nat.zero_le _⟩
          rcases List.mem_cons.mp hv with rfl | hv
          · exact ⟨[(1, y)], IM.but dd b8 (.tup r5 (.cons (.tup r4 (.cons (.str _) (.cons (.int _) .nil))) .nil)), fun r hr => by
              rw [List.mem_singleton.mp hr]
              exact okRd1 (by omega), Nat.le_refl _⟩
          · obtain rfl := List.mem_singleton.mp hv
            exact ⟨[(0, 0)], IM.but dd b8 (.tup r7 (.cons (.tup r6 (.cons (.str _) (.cons (.int _) .nil))) .nil)), fun r hr => by
              rw [List.mem_singleton.mp hr]
              exact okRd0 (by omega), Nat.le_refl _⟩
        obtain ⟨a2, w2, e2w, ea2, iw2⟩ := at_of mm
        cases e2w
        obtain ⟨b, ys, rfl, eby, iy⟩ := at_of ve
        have lw2 := iw2.len
        have ly := iy.len
        rw [List.length_map] at ly
        have okc : OkCut s ops ⟨ls, lns, (1, lns.length - 1) :: es⟩ := ⟨by show s ≤ 8; omega, o8, by show ls.length ≤ 8; omega, by show lns.length ≤ 8; omega, by show es.length + 1 ≤ 8; omega, oo, okw, fun r hr => by
          rcases List.mem_cons.mp hr with z | z
          · rw [z]
            exact okRd1 (by show lns.length - 1 < lns.length; omega)
          · exact oe r z⟩
        have lw2' : w2.length = 1 := lw2
        refine ⟨t2, b, w2, ys, rfl, rfl, SqT.of ea2, SqT.of eby, by rw [lw2', ly, sizeLine_eq]; omega, fun e => ?_, fun _ e => ?_, fun _ ne z hz => ?_⟩
        · rw [e] at lw2'
          cases lw2'
        · have e0 : es = [] := by
            rw [e] at ly
            exact List.eq_nil_of_length_eq_zero ly.symm
          subst e0
          have g : Same H8 H8 := Same.refl H8
          refine ⟨_, rfl, .inl ⟨A1, _, rfl, SqL.of (g _ _ eA8), fun q1 hq1 => ⟨_, rfl, .inl ⟨A2, _, rfl, SqL.of (same_new hq1 _ _ (g _ _ e28)), fun q2 hq2 => ⟨_, rfl, (by show 3 ≤ sizeLine; decide), fun zz hzz => ?_⟩⟩⟩⟩⟩
          have g1 := same_new (o := .tup vs) hq1
          have g2 := same_new (o := .tup ws) hq2
          have g3 := same_new (o := .tup [V.ref q1, .ref q2, .ref t2]) hzz
          have gg := (g.trans g1).trans (g2.trans g3)
          refine k _ _ ⟨ls, lns, [(1, lns.length - 1)]⟩ (fun c o e x y => gg _ _ (b08 c o e x y)) (d8.same gg) (.tup upd_same (.cons (.tup (g3 _ _ (g2 _ _ upd_same)) (IMs.same gg im8)) (.cons (.tup (g3 _ _ upd_same) (IMs.same gg imw8)) (.cons (IM.same (g1.trans (g2.trans g3)) mm) .nil)))) okc (by show 0 < lns.length; omega) (by show lns.length ≤ 7; omega)
        · have g : Same H8 (upd H8 z (.tup (w2 ++ ys))) := same_new hz
          have mz : IM (upd H8 z (.tup (w2 ++ ys))) (.ref z) (.tuple (((1, lns.length - 1) :: es).map rdD)) := .tup upd_same (IMs.app (IMs.same g iw2) (IMs.same g iy))
          refine ⟨_, rfl, .inl ⟨A1, _, rfl, SqL.of (g _ _ eA8), fun q1 hq1 => ⟨_, rfl, .inl ⟨A2, _, rfl, SqL.of (same_new hq1 _ _ (g _ _ e28)), fun q2 hq2 => ⟨_, rfl, (by show 3 ≤ sizeLine; decide), fun zz hzz => ?_⟩⟩⟩⟩⟩
          have g1 := same_new (o := .tup vs) hq1
          have g2 := same_new (o := .tup ws) hq2
          have g3 := same_new (o := .tup [V.ref q1, .ref q2, .ref z]) hzz
          have gg := (g.trans g1).trans (g2.trans g3)
          refine k _ _ ⟨ls, lns, (1, lns.length - 1) :: es⟩ (fun c o e x y => gg _ _ (b08 c o e x y)) (d8.same gg) (.tup upd_same (.cons (.tup (g3 _ _ (g2 _ _ upd_same)) (IMs.same gg im8)) (.cons (.tup (g3 _ _ upd_same) (IMs.same gg imw8)) (.cons (IM.same (g1.trans (g2.trans g3)) mz) .nil)))) okc (by show 0 < lns.length; omega) (by show lns.length ≤ 7; omega)
end
end K74
/-! in a tuple, data of any depth. -/
namespace SQ
open PySem PySem.Spec PyProof.Rows L2
def rInTD (K : PySem.W.Frag) : R2 := fun x y H Q => ∃ d ds, Dp K H x d ∧ Dp K H y (.tuple ds) ∧ SeqAt.shaped d = true ∧ PyData.canLayAll0 ds = true ∧ Q (.bl (ds.any fun z => PyData.eqv z d)) H
theorem op_inTD {X : Cx} (hu : X.A.units + 65 < cLine) : OpR X (compareOp .In) (rInTD X.K) := by
  intro pins s σ H x y v u Q I rx ry h
  obtain ⟨d, ds, hx, hl, sd, sl, q⟩ := h
  obtain ⟨bs, r1⟩ := Dp.reads I d x v hx rx
  have hroom : X.A.units + 1 + min (PyData.depthAll ds) d.depth < cLine := shaped_room sd hu
  cases hl with
  | tup hs ha =>
    rename_i a xs
    obtain rfl : u = .ref a := ry
    obtain ⟨its, rv, pt, hlen⟩ := I.tuple hs
    obtain ⟨as, h4⟩ := Dp.readsAll I ds _ its ha rv
    have hmap : its.map (SeqAt.readOf s.heap) = ds := SeqAt.readsAll_map ds its as sl h4
    refine SeqAt.in_tupleAt (items := its.toArray) (fun u => PyData.eqv (SeqAt.readOf s.heap u) d) pt (SeqAt.items_eqAt (vs := its.toArray) (show ReadsAll s.heap its.toArray.toList ds as from h4) r1 sl (SeqAt.canLay_of_shaped sd) hroom) ?_
    have ec : its.toArray.any (fun u => PyData.eqv (SeqAt.readOf s.heap u) d) = ds.any fun z => PyData.eqv z d := by
      rw [← hmap, List.any_map, List.any_toArray]
      rfl
    rw [ec]
    exact ⟨.bl _, H, I, rfl, q⟩
end SQ
/-! what stands, by the law. -/
namespace K74
open PySem L2 FX SQ
theorem ok_word : ∀ k, PyData.strOk (wordS k) = true
  | 0 => by decide +kernel
  | 1 => by decide +kernel
  | n + 2 => show PyData.strOk "value" = true by decide +kernel
theorem lay_rd1 (r : Rd) : PyData.canLay0 (rdD r) = true := by
  simp [rdD, nD, PyData.canLay0, PyData.canLayAll0, ok_word]
theorem lay_rd : ∀ rs : List Rd, PyData.canLayAll0 (rs.map rdD) = true
  | [] => rfl
  | r :: rs => by
    simp only [List.map_cons, PyData.canLayAll0, Bool.and_eq_true]
    exact ⟨lay_rd1 r, lay_rd rs⟩
theorem shaped_rd (r : Rd) : SeqAt.shaped (rdD r) = true := by
  unfold SeqAt.shaped
  rw [Bool.and_eq_true]
  refine ⟨lay_rd1 r, decide_eq_true ?_⟩
  simp [rdD, nD, PyData.depth, PyData.depthAll]
theorem depth_rd : ∀ rs : List Rd, PyData.depthAll (rs.map rdD) ≤ 3
  | [] => by decide
  | r :: rs => by
    have := depth_rd rs
    simp only [List.map_cons, PyData.depthAll]
    refine Nat.max_le.mpr ⟨?_, this⟩
    simp [rdD, nD, PyData.depth, PyData.depthAll]
theorem word_iff (k : Nat) : (wordS k == "line") = decide (k = 1) := by
  match k with
  | 0 => decide +kernel
  | 1 => decide +kernel
  | n + 2 =>
    rw [show wordS (n + 2) = "value" from rfl, decide_eq_false (by omega)]
    decide +kernel
theorem eqv_rd (r : Rd) (j : Nat) : PyData.eqv (rdD r) (rdD (1, j)) = decide (r.1 = 1 ∧ r.2 = j) := by
  obtain ⟨k, n⟩ := r
  show (wordS k == "line" && ((n : Int) == (j : Int) && true)) = decide (k = 1 ∧ n = j)
  rw [word_iff, Bool.and_true]
  by_cases h1 : k = 1
  · by_cases h2 : n = j
    · subst h1 h2
      simp
    · rw [decide_eq_false (show ¬ (k = 1 ∧ n = j) from fun z => h2 z.2)]
      simp
      intro _
      omega
  · rw [decide_eq_false h1, decide_eq_false (show ¬ (k = 1 ∧ n = j) from fun z => h1 z.1)]
    rfl
/-- a list of rows of readings -/
theorem lay_rds : ∀ L : List (List Rd), PyData.canLayAll0 (L.map fun rs => PyData.tuple (rs.map rdD)) = true
  | [] => rfl
  | rs :: L => by
    simp only [List.map_cons, PyData.canLayAll0, PyData.canLay0, Bool.and_eq_true]
    exact ⟨lay_rd rs, lay_rds L⟩
theorem depth_rds : ∀ L : List (List Rd), PyData.depthAll (L.map fun rs => PyData.tuple (rs.map rdD)) ≤ 4
  | [] => by decide
  | rs :: L => by
    have := depth_rds L
    have h := depth_rd rs
    simp only [List.map_cons, PyData.depthAll, PyData.depth]
    refine Nat.max_le.mpr ⟨by omega, this⟩
theorem shaped_rds (L : List (List Rd)) : SeqAt.shaped (.list (L.map fun rs => PyData.tuple (rs.map rdD))) = true := by
  unfold SeqAt.shaped
  rw [Bool.and_eq_true]
  refine ⟨?_, decide_eq_true ?_⟩
  · simp only [PyData.canLay0]
    exact lay_rds L
  · have := depth_rds L
    simp only [PyData.depth]
    omega
def hasR (rs : List Rd) (j : Nat) : Bool := rs.any fun r => decide (r.1 = 1 ∧ r.2 = j)
/-- whether line j stands at i -/
def standB (c : Cut) (i j : Nat) : Bool := (c.lines.drop (i + 1)).any (fun ln => hasR ln.2 j) || hasR c.ends j
def lawAhead (c : Cut) (i n : Nat) : List Nat := (List.range n).filter fun j => standB c i j
def lawStand (c : Cut) (i : Nat) : List Nat := i :: lawAhead c i i
theorem sl_any {K : PySem.W.Frag} {H : Hp} {Q : VK} {a : Addr} {xs : List V} {lo hi : Option Int} (ha : SqT K H a xs) (k : ∀ H' c, Same H H' → SqT K H' c (cutV xs lo hi) → Q (.ref c) H') : rSlA K (.ref a) lo hi H Q :=
  ⟨a, xs, rfl, ha, fun h => k H a (Same.refl H) (by
    unfold cutV
    rw [h.1, h.2, List.drop_zero, Nat.sub_zero, List.take_length]
    exact ha), fun _ p hp => k _ p (same_new hp) (SqT.of upd_same)⟩
theorem cutV_from (xs : List V) (i : Nat) : cutV xs (some ((i : Int) + 1)) none = xs.drop (i + 1) := by
  unfold cutV
  rw [show ((i : Int) + 1) = ((i + 1 : Nat) : Int) from rfl, HT.sIx_nat, HT.sIx_none]
  by_cases h : i + 1 ≤ xs.length
  · rw [Nat.min_eq_left h, List.take_of_length_le]
    rw [List.length_drop]
    omega
  · rw [Nat.min_eq_right (by omega), List.drop_length, List.drop_of_length_le (by omega)]
    exact List.take_nil
theorem ahead_law (c : Cut) (i n : Nat) : lawAhead c i (n + 1) = lawAhead c i n ++ (if standB c i n = true then [n] else []) := by
  unfold lawAhead
  rw [List.range_succ, List.filter_append, List.filter_cons]
  by_cases h : standB c i n = true
  · rw [if_pos h, if_pos h]
    rfl
  · rw [if_neg h, if_neg h]
    rfl
section
variable {P : Program} {w : World} {K : PySem.W.Frag} {mg : Str → Option Value} {base : Heap}
abbrev sLS : Stmt := top 40
theorem has_any (rs : List Rd) (j : Nat) : ((rs.map rdD).any fun z => PyData.eqv z (rdD (1, j))) = hasR rs j := by
  unfold hasR
  rw [List.any_map]
  congr 1
  funext r
  exact eqv_rd r j
def spLS (K : PySem.W.Frag) : Sp := fun vs H Q _ => ∃ (s : Nat) (ops : List (Nat × List Nat)) (v : V) (c : Cut) (i : Nat), vs = [v, nV i] ∧ Dp K H v (cutD c) ∧ OkCut s ops c ∧ i < c.lines.length ∧ ∀ H' q, Same H H' → H q = none → H' q = some (.lst ((lawStand c i).map nV)) → Q (.ref q) H'
abbrev NLS : List Str := ["cut", "at", "found", "one", "later", "operation", "readings"]
theorem scLS : FnScope NLS ["cut", "at"] (defScope sLS) := ⟨rfl, rfl, rfl, by decide +kernel, rfl, by decide +kernel, by decide +kernel⟩
theorem ok_ls {f : Addr} {fd : FuncData} (F : Fun K "_law_stands" "_law_stands" sLS f fd) (Z : Bi mg) : FnOk P w K mg base CX0 1 f fd ["cut", "at"] (spLS K) := by
  refine F.ok scLS (fun vs H Q E h => ?_) (fun cdv A outer sh H vs Q E hr h => ?_)
  · obtain ⟨s, ops, v, c, i, rfl, _⟩ := h
    rfl
  · obtain ⟨s, ops, v, c, i, rfl, hd, ok, il, k⟩ := h
    have hu := hr65 hr
    refine ⟨_, pss_cons (ps_set (i := 2) scLS.nd rfl (Or.inl rfl) (pe_lst (by exact (pa_cons (pv 1) pa_nil))))
      (pss_cons (ps_for PassesOwn.never rfl (pi_range1 (by rfl) Z.range (pa_cons (pv 1) pa_nil)) (pg_name (i := 3) scLS.nd rfl (Or.inr rfl))
        (pss_cons (ps_setLc (i := 4) (own := [("operation", 5), ("readings", 6)]) (g := gTup K 2 (gCons (gName 5) (gCons (gName 6) gNil))) (tt := tTest (tOp (rInTD K) (tTup (tCons (tC (.str "line")) (tCons (tVar 3) tNil))) (tVar 6))) (te := tVar 6) rfl scLS.nd rfl rfl (sw_true rfl rfl rfl (by decide +kernel)) (pi_tup (pe_slice sl_tupA (pe_ix ix_tup (pv 0) pe_int (fun _ _ => rfl)) (po_some (pe_op op_add (pv 1) pe_int)) po_none))
            (blkOk_by (N := NLS) (sc := defScope sLS) (by decide +kernel)) (fun _ _ _ _ _ => pg_tup rfl (pgs_cons (pg_name (i := 5) scLS.nd rfl (Or.inl rfl)) (pgs_cons (pg_name (i := 6) scLS.nd rfl (Or.inl rfl)) pgs_nil)))
            (fun _ _ _ _ _ => pts_one (pt_cmpR (op_inTD hu) (pe_tup (by exact (pa_cons pe_str (pa_cons (pv 3) pa_nil)))) (pv 6) (by with_unfolding_all rfl))) (fun _ _ _ _ _ => pv 6))
        (pss_one (ps_if (PW.pt (pw_or (pt_cmpR (op_neD (Nat.lt_of_le_of_lt (Nat.add_le_add_left (by decide : 64 ≤ 65) _) hu)) (pv 4) (pe_lst pa_nil) (nomark _))
            (pw_or1 (pt_cmpR (op_inTD hu) (pe_tup (by exact (pa_cons pe_str (pa_cons (pv 3) pa_nil)))) (pe_ix ix_tup (pv 0) pe_int (fun _ _ => rfl)) (by with_unfolding_all rfl)))))
          (pss_one (ps_expr (pe_bm PySem.F.plainAttrs_list PySem.F.slot_list_append PySem.F.type_list_append mt_append (pv 2) (pa_cons (pv 3) pa_nil)))) pss_nil))))
      (pss_one (ps_ret (pv 2)))), ?_⟩
    obtain ⟨av, v1, v2, v3, rfl, qv, h1, h2, h3⟩ := dp3 hd
    obtain ⟨a2, x2, rfl, q2, r2⟩ := dp_tup h2
    have l2 : x2.length = c.lines.length := by rw [dpAll_len r2, List.length_map]
    have n8 := ok.n8
    refine ⟨_, rfl, (by show 1 ≤ sizeLine; decide), fun q hq => ?_⟩
    have sq := same_new (o := .lst [nV i]) hq
    refine ⟨_, rfl, i, rfl, by omega, by omega, ?_⟩
    rw [Int.toNat_natCast]
    refine for_range (n := i) (fun j σ H' => ∃ (u3 u4 : Option V), σ = [some (.ref av), some (nV i), some (.ref q), u3, u4, none, none] ∧ Same H H' ∧ H' q = some (.lst ((i :: lawAhead c i j).map nV))) ⟨none, none, rfl, sq, upd_same⟩ ?_ ?_
    · rintro j σ H1 hj ⟨u3, u4, rfl, s1, eq⟩
      have dj : ∀ (H' : Hp) (t : Addr), H' t = some (.tup [V.str "line", V.int (0 + (j : Nat))]) → Dp K H' (.ref t) (rdD (1, j)) := fun H' t e => .tup (SqT.of e) (.cons (.str _) (.cons (by rw [Int.zero_add]; exact .int _) .nil))
      refine ⟨_, rfl, av, _, _, _, rfl, rfl, seqT s1 qv, atI_nat (j := 1) rfl, _, rfl, _, _, rfl, rfl, _, rfl, ?_⟩
      dsimp only [tNoPart]
      refine sl_any (K := K) (seqT s1 q2) fun H2 cc s2 qc => ?_
      have qc : SqT K H2 cc (x2.drop (i + 1)) := by
        have := qc
        rw [cutV_from] at this
        exact this
      have s02 := s1.trans s2
      refine ⟨cc, rfl, ⟨_, qc⟩, fun D hD => walk_it (walk_tup (K := K) (a := cc) (xs := x2.drop (i + 1))) (fun n H' => Same H2 H' ∧ ∃ (vs : List V) (L : List (List Rd)), H' D = some (.lst vs) ∧ DpAll K H2 vs (L.map fun rs => PyData.tuple (rs.map rdD)) ∧ L.length ≤ n ∧ L.isEmpty = !(((c.lines.drop (i + 1)).take n).any fun ln => hasR ln.2 j)) ⟨same_new hD, [], [], upd_same, .nil, Nat.le_refl _, rfl⟩ (fun n H' _ p => seqT p.1 qc) ?_ ?_⟩
      · rintro n x _ H3 hn ⟨s3, vs, L, eD, dL, ln', em⟩ ⟨rfl, hx⟩
        have hn' := hn
        rw [List.length_drop] at hn'
        rw [List.getElem?_drop] at hx
        obtain ⟨dx, hdx, hxd⟩ := dpAll_get r2 hx
        rw [List.getElem?_map] at hdx
        obtain ⟨⟨o, rs⟩, hl, rfl⟩ := Option.map_eq_some_iff.mp hdx
        have hl2 : (c.lines.drop (i + 1))[n]? = some (o, rs) := by
          rw [List.getElem?_drop]
          exact hl
        obtain ⟨al, z1, z2, rfl, ql, hz1, hz2⟩ := dp2 hxd
        have s03 := s02.trans s3
        refine ⟨al, _, rfl, seqT s03 ql, rfl, _, _, rfl, _, _, rfl, rfl, rfl, _, rfl, (by show 2 ≤ sizeLine; decide), fun t ht => ?_⟩
        have s4 := same_new (o := .tup [V.str "line", .int (0 + (j : Nat))]) ht
        refine ⟨_, rfl, rdD (1, j), rs.map rdD, dj _ t upd_same, dp_same (s03.trans s4) hz2, shaped_rd _, lay_rd _, _, rfl, ?_⟩
        rw [has_any]
        have lv : vs.length = L.length := by rw [dpAll_len dL, List.length_map]
        by_cases hh : hasR rs j = true
        · refine go_t hh ⟨_, rfl, _, s4 _ _ eD, by rw [lv, sizeLine_eq]; omega, same_of (s3.trans s4) hD, _, L ++ [rs], upd_same, ?_, by rw [List.length_append]; show _ + 1 ≤ _; omega, ?_⟩
          · rw [List.map_append]
            exact dpAll_snoc dL (dp_same s02 hz2)
          · rw [take_more hl2, List.any_append]
            have e1 : (L ++ [rs]).isEmpty = false := by cases L <;> rfl
            rw [e1]
            show false = !(_ || (hasR rs j || false))
            rw [hh, Bool.true_or, Bool.or_true]
            rfl
        · have hf : hasR rs j = false := by simpa using hh
          refine go_f hf ⟨s3.trans s4, vs, L, s4 _ _ eD, dL, by omega, ?_⟩
          rw [em, take_more hl2, List.any_append]
          show _ = !(_ || (hasR rs j || false))
          rw [hf, Bool.or_false, Bool.or_false]
      · rintro H3 ⟨s3, vs, L, eD, dL, ln', em⟩
        have em : L.isEmpty = !((c.lines.drop (i + 1)).any fun ln => hasR ln.2 j) := by
          rw [em, List.take_of_length_le (by rw [List.length_drop, List.length_drop]; omega)]
        have s03 := s02.trans s3
        refine ⟨_, rfl, (by show 0 ≤ sizeLine; decide), fun z hz => ?_⟩
        have s4 := same_new (o := .lst []) hz
        have s04 := s03.trans s4
        have dLL : DpAll K (upd H3 z (.lst [])) vs (L.map fun rs => PyData.tuple (rs.map rdD)) := dpAll_same (s3.trans s4) dL
        refine ⟨.list (L.map fun (rs : List Rd) => PyData.tuple (List.map rdD rs)), .list [], .lst (SqL.of (s4 _ _ eD)) dLL, .lst (SqL.of upd_same) .nil, shaped_rds _, rfl, _, rfl, ?_⟩
        have ev : PyData.eqv (.list (L.map fun rs => PyData.tuple (rs.map rdD))) (.list []) = L.isEmpty := by cases L <;> rfl
        rw [ev, em, Bool.not_not]
        have put : ∀ (w : Option V) (Hx : Hp), Same H1 Hx → standB c i j = true → ∃ l' xs zz, V.ref q = .ref l' ∧ [V.int (0 + (j : Nat))] = [zz] ∧ Hx l' = some (.lst xs) ∧ xs.length < sizeLine ∧ (∃ (u3 u4 : Option V), [some (V.ref av), some (nV i), some (.ref q), some (.int (0 + (j : Nat))), w, none, none] = [some (.ref av), some (nV i), some (.ref q), u3, u4, none, none] ∧ Same H (upd Hx l' (.lst (xs ++ [zz]))) ∧ upd Hx l' (.lst (xs ++ [zz])) q = some (.lst ((i :: lawAhead c i (j + 1)).map nV))) := fun w Hx sx st => by
          refine ⟨q, _, _, rfl, rfl, sx _ _ eq, ?_, _, _, rfl, same_of (s1.trans sx) hq, ?_⟩
          · have := List.length_filter_le (fun j => standB c i j) (List.range j)
            rw [List.length_range] at this
            rw [List.length_map, List.length_cons, sizeLine_eq]
            unfold lawAhead
            omega
          · rw [upd_same, ahead_law, if_pos st, ← List.cons_append, List.map_append]
            show some (HO.lst (_ ++ [V.int (0 + (j : Nat))])) = _
            rw [Int.zero_add]
            rfl
        have s14 : Same H1 (upd H3 z (.lst [])) := s2.trans (s3.trans s4)
        by_cases ha : ((c.lines.drop (i + 1)).any fun ln => hasR ln.2 j) = true
        · refine go_t ha (go_t rfl ?_)
          exact ⟨_, rfl, .inl ⟨rfl, _, SqL.of (s14 _ _ eq)⟩, _, rfl, put _ _ s14 (by unfold standB; rw [ha]; rfl)⟩
        · have hf : ((c.lines.drop (i + 1)).any fun ln => hasR ln.2 j) = false := by simpa using ha
          refine go_f hf ⟨_, rfl, (by show 2 ≤ sizeLine; decide), fun t ht => ?_⟩
          have s5 := same_new (o := .tup [V.str "line", .int (0 + (j : Nat))]) ht
          have s15 := s14.trans s5
          refine ⟨_, rfl, av, _, _, _, rfl, rfl, seqT (s04.trans s5) qv, atI_nat (j := 2) rfl, rdD (1, j), c.ends.map rdD, dj _ t upd_same, dp_same (s04.trans s5) h3, shaped_rd _, lay_rd _, _, rfl, ?_⟩
          rw [has_any]
          by_cases he : hasR c.ends j = true
          · refine go_t he ?_
            exact ⟨_, rfl, .inl ⟨rfl, _, SqL.of (s15 _ _ eq)⟩, _, rfl, put _ _ s15 (by unfold standB; rw [hf, he]; rfl)⟩
          · have hf2 : hasR c.ends j = false := by simpa using he
            refine go_f hf2 ⟨_, _, rfl, s1.trans s15, ?_⟩
            rw [ahead_law, if_neg (by unfold standB; rw [hf, hf2]; decide), List.append_nil]
            exact s15 _ _ eq
    · rintro σ H1 ⟨u3, u4, rfl, s1, eq⟩
      exact ⟨_, rfl, k H1 q s1 hq eq⟩
end
end K74
/-! len(set(xs)) of a list of ints: whether it is as long as the list. -/
namespace SQ
open PySem PySem.Spec PyProof.Rows L2
theorem met_nodup (ns : List Int) : ∀ i, i ≤ ns.length → (firstMet (fun i => ns.getD i 0) i).length = i → (ns.take i).Nodup
  | 0, _, _ => by rw [List.take_zero]; exact List.nodup_nil
  | i + 1, hi, h => by
    rw [firstMet_succ] at h
    have le := firstMet_length_le (fun i => ns.getD i 0) i
    have hg : ns[i]? = some (ns.getD i 0) := by
      rw [List.getD_eq_getElem?_getD, List.getElem?_eq_getElem (by omega)]
      rfl
    by_cases a : (firstMet (fun i => ns.getD i 0) i).any (· == ns.getD i 0) = true
    · exfalso
      have : step_dedup (firstMet (fun i => ns.getD i 0) i) (ns.getD i 0) = firstMet (fun i => ns.getD i 0) i := by
        unfold step_dedup
        rw [if_pos a]
      rw [this] at h
      omega
    · have e : step_dedup (firstMet (fun i => ns.getD i 0) i) (ns.getD i 0) = firstMet (fun i => ns.getD i 0) i ++ [ns.getD i 0] := by
        unfold step_dedup
        rw [if_neg a]
      rw [e, List.length_append] at h
      have ih := met_nodup ns i (by omega) (by
        have : ([ns.getD i 0] : List Int).length = 1 := rfl
        omega)
      rw [firstMet_any] at a
      have et : (List.range i).map (fun i => ns.getD i 0) = ns.take i := by
        refine List.ext_getElem (by rw [List.length_map, List.length_range, List.length_take]; omega) fun k h1 h2 => ?_
        rw [List.getElem_map, List.getElem_range, List.getElem_take, List.getD_eq_getElem?_getD, List.getElem?_eq_getElem]
        rfl
      rw [et] at a
      rw [show ns.take (i + 1) = ns.take i ++ [ns.getD i 0] from by rw [List.take_add_one, hg]; rfl, List.nodup_append]
      refine ⟨ih, List.pairwise_singleton _ _, fun x hx y hy z => ?_⟩
      rw [List.mem_singleton] at hy
      subst hy
      exact a (List.any_eq_true.mpr ⟨x, hx, by rw [z]; exact beq_self_eq_true _⟩)
def tLenSetL (K : PySem.W.Frag) (ta : TE) : TE := fun σ H Q => ta σ H fun x H1 => ∃ (l : Addr) (ns : List Int), x = .ref l ∧ SqL K H1 l (ns.map V.int) ∧ ns.length ≤ 4000 ∧ ∀ m : Nat, m ≤ ns.length → (m = ns.length ↔ ns.Nodup) → Q (.int (m : Nat)) H1
theorem pe_lenSetL {X : Cx} {a : Expr} {ta : TE} {p p2 q pos : Pos} (hg : Gl X "len") (hm : X.mg "len" = none) (hg2 : Gl X "set") (hm2 : X.mg "set" = none) (ha : PE X a ta) (hc : X.calm = true := by rfl)
    (na : starEach [a] X.env = (false, eval a X.env) :: starEach [] X.env := by rfl) : PE X (.Call (.Name "len" p) [.Call (.Name "set" p2) [a] [] q] [] pos) (tLenSetL X.K ta) := by
  refine ⟨fun pins s σ H Q I h => Call_ (ld_blt I hg hm boot_len (PyProof.Rows.callWith_builtin1 (PyProof.Rows.args_cons ?_ rfl) rfl rfl))⟩
  refine Call_ (ld_blt I hg2 hm2 boot_set (PyProof.Rows.callWith_type1 (PyProof.Rows.args_cons (thn (ha.run pins s σ H _ I h) ?_) na) na rfl))
  rintro v s1 ⟨x, H1, I1, r1, l, ns, rfl, hq, few, k⟩
  refine PyProof.Rows.args_nil ?_
  obtain rfl : v = Value.ref l := r1
  obtain ⟨its, r, pl, hz⟩ := I1.list hq
  have el : its.toArray.size = ns.length := by rw [List.size_toArray, ← r.length, List.length_map]
  refine call_set_list (I1.ok.hd hc) pl.isList (by simpa using ints_of_vals r) (by rw [el]; unfold scanBound; omega) fun h' tk hS hk => PyProof.Rows.args_nil ?_
  rw [el] at hS
  obtain ⟨o, es, ep, t, ho, hex, hd, _, _, _, hf, hn⟩ := hS
  have I2 : Inv X pins σ H1 { s1 with heap := h', toks := tk } := I1.kept fun b o e => hk b o (Heap.lt_size e) e
  have le := firstMet_length_le (fun i => ns.getD i 0) ns.length
  refine call_len_set ho hex hd hf (by omega) ⟨.int (firstMet (fun i => ns.getD i 0) ns.length).length, H1, I2.tok _, ⟨_, by rw [hn]⟩, k _ le ⟨fun e => ?_, fun nd => ?_⟩⟩
  · have := met_nodup ns ns.length (Nat.le_refl _) e
    rw [List.take_length] at this
    exact this
  · rw [RZ.firstMet_nodup nd ns.length (Nat.le_refl _), List.take_length]
end SQ
/-! whether cells fit, by the law. -/
namespace K74
open PySem L2 FX SQ
def rowF (c : Cut) (cs : List Nat) (i : Nat) : List Nat := (lawStand c i).map fun j => cs.getD j 0
def fitN (c : Cut) (cs : List Nat) (n : Nat) : Bool := (List.range n).all fun i => decide (rowF c cs i).Nodup
theorem fit_succ (c : Cut) (cs : List Nat) (n : Nat) : fitN c cs (n + 1) = (fitN c cs n && decide (rowF c cs n).Nodup) := by
  unfold fitN
  rw [List.range_succ, List.all_append]
  simp
theorem fit_no {c : Cut} {cs : List Nat} {i : Nat} (h : ¬ (rowF c cs i).Nodup) (n : Nat) (hn : i < n) : fitN c cs n = false := by
  unfold fitN
  rw [List.all_eq_false]
  exact ⟨i, List.mem_range.mpr hn, by rw [decide_eq_false h]; decide⟩
theorem stand_mem {c : Cut} {i j : Nat} (h : j ∈ lawStand c i) : j ≤ i := by
  rcases List.mem_cons.mp h with e | e
  · omega
  · unfold lawAhead at e
    rw [List.mem_filter, List.mem_range] at e
    omega
theorem lawStand_len (c : Cut) (i : Nat) : (lawStand c i).length ≤ i + 1 := by
  have := List.length_filter_le (fun j => standB c i j) (List.range i)
  rw [List.length_range] at this
  show (lawAhead c i i).length + 1 ≤ _
  unfold lawAhead
  omega
theorem nodup_i (l : List Nat) : (l.map fun x : Nat => (x : Int)).Nodup ↔ l.Nodup := by
  induction l with
  | nil => simp
  | cons a r ih =>
    rw [List.map_cons, List.nodup_cons, List.nodup_cons, ih]
    refine ⟨fun ⟨h1, h2⟩ => ⟨fun hm => h1 (List.mem_map.mpr ⟨a, hm, rfl⟩), h2⟩, fun ⟨h1, h2⟩ => ⟨fun hm => ?_, h2⟩⟩
    obtain ⟨b, hb, e⟩ := List.mem_map.mp hm
    have e2 : b = a := by
      have : (b : Int) = (a : Int) := e
      omega
    exact h1 (e2 ▸ hb)
section
variable {P : Program} {w : World} {K : PySem.W.Frag} {mg : Str → Option Value} {base : Heap}
abbrev sFit : Stmt := top 41
def spFit (K : PySem.W.Frag) : Sp := fun vs H Q _ => ∃ (s : Nat) (ops : List (Nat × List Nat)) (v : V) (c : Cut) (ac : Addr) (cs : List Nat), vs = [v, .ref ac] ∧ Dp K H v (cutD c) ∧ OkCut s ops c ∧ SqT K H ac (cs.map nV) ∧ cs.length = c.lines.length ∧ ∀ H', Same H H' → Q (.bl (fitN c cs c.lines.length)) H'
abbrev NFit : List Str := ["cut", "cells", "at", "row", "one"]
theorem scFit : FnScope NFit ["cut", "cells"] (defScope sFit) := ⟨rfl, rfl, rfl, by decide +kernel, rfl, by decide +kernel, by decide +kernel⟩
theorem ok_fit {f fS : Addr} {fd fdS : FuncData} (F : Fun K "_law_fit" "_law_fit" sFit f fd) (Z : Bi mg) (FS : At K mg "_law_stands" sLS fS fdS ["cut", "at"]) : FnOk P w K mg base CX0 2 f fd ["cut", "cells"] (spFit K) := by
  have GS : FnOk P w K mg base CX0 1 fS fdS ["cut", "at"] (spLS K) := ok_ls FS.F Z
  refine F.ok scFit (fun vs H Q E h => ?_) (fun cdv A outer sh H vs Q E hr h => ?_)
  · obtain ⟨s, ops, v, c, ac, cs, rfl, _⟩ := h
    rfl
  · obtain ⟨s, ops, v, c, ac, cs, rfl, hd, ok, qc, lc, k⟩ := h
    refine ⟨_, pss_cons (ps_for PassesOwn.never rfl (pi_range1 (by rfl) Z.range (pa_cons (pe_callB call_len_seq (by rfl) Z.len PySem.boot_len (pa_cons (pe_ix ix_tup (pv 0) pe_int (fun _ _ => rfl)) pa_nil)) pa_nil)) (pg_name (i := 2) scFit.nd rfl (Or.inl rfl))
        (pss_cons (ps_setLc (i := 3) (own := [("one", 4)]) (g := gName 4) (tt := tYes) (te := tOp (rIxT K) (tVar 1) (tVar 4)) rfl scFit.nd rfl rfl (sw_true rfl rfl rfl (by decide +kernel)) (pi_list (pe_call GS (hr.mono (by decide)) rfl FS.g FS.F.kp FS.b .nil pass0 (by exact (pa_cons (pv 0) (pa_cons (pv 2) pa_nil)))))
            (blkOk_by (N := NFit) (sc := defScope sFit) (by decide +kernel)) (fun _ _ _ _ _ => pg_name (i := 4) scFit.nd rfl (Or.inl rfl)) (fun _ _ _ _ _ => pts_nil) (fun _ _ _ _ _ => pe_ix ix_tup (pv 1) (pv 4) (fun _ _ => rfl)))
        (pss_one (ps_if (pt_cmpR op_lt (pe_lenSetL (by rfl) Z.len (by rfl) Z.set (pv 3)) (pe_callB call_len_seq (by rfl) Z.len PySem.boot_len (pa_cons (pv 3) pa_nil)) (nomark _)) (pss_one (ps_ret pe_bl)) pss_nil))))
      (pss_one (ps_ret pe_bl)), ?_⟩
    obtain ⟨av, v1, v2, v3, rfl, qv, h1, h2, h3⟩ := dp3 hd
    obtain ⟨a2, x2, rfl, q2, r2⟩ := dp_tup h2
    have l2 : x2.length = c.lines.length := by rw [dpAll_len r2, List.length_map]
    have n8 := ok.n8
    refine ⟨_, rfl, av, _, _, _, rfl, rfl, qv, atI_nat (j := 1) rfl, a2, x2, rfl, .inr q2, ((c.lines.length : Nat) : Int), (by rw [l2]), by omega, by omega, ?_⟩
    rw [Int.toNat_natCast]
    refine for_range (n := c.lines.length) (fun i σ H' => ∃ (u2 u3 : Option V), σ = [some (.ref av), some (.ref ac), u2, u3, none] ∧ Same H H' ∧ fitN c cs i = true) ⟨none, none, rfl, Same.refl H, rfl⟩ ?_ ?_
    · rintro i σ H1 hi ⟨u2, u3, rfl, s1, fi⟩
      refine ⟨_, rfl, _, rfl, s, ops, _, c, i, congrArg (fun z => [V.ref av, V.int z]) (Int.zero_add _), dp_same s1 hd, ok, hi, fun H2 q s2 hq eq => ?_⟩
      have s02 := s1.trans s2
      have lS := lawStand_len c i
      refine ⟨q, rfl, ⟨_, SqL.of eq⟩, fun D hD => walk_it (walk_list (K := K) (a := q) (xs := (lawStand c i).map nV)) (fun n H' => Same H2 H' ∧ H' D = some (.lst (((lawStand c i).take n).map fun j => nV (cs.getD j 0)))) ⟨same_new hD, upd_same⟩ (fun n H' _ p => p.1.seq (SqL.of eq)) ?_ ?_⟩
      · rintro n x _ H3 hn ⟨s3, eD⟩ ⟨rfl, hx⟩
        rw [List.getElem?_map] at hx
        obtain ⟨y, hy, rfl⟩ := Option.map_eq_some_iff.mp hx
        have yi := stand_mem (List.mem_of_getElem? hy)
        refine ⟨rfl, _, rfl, _, rfl, ac, _, _, _, rfl, rfl, seqT (s02.trans s3) qc, atI_nat (get_n (by omega)), _, eD, ?_, same_of s3 hD, ?_⟩
        · rw [List.length_map, List.length_take, sizeLine_eq]
          omega
        · rw [upd_same, take_more hy, List.map_append]
          rfl
      · rintro H3 ⟨s3, eD⟩
        rw [List.length_map, List.take_length] at eD
        have er : H3 D = some (.lst (((rowF c cs i).map fun x : Nat => (x : Int)).map V.int)) := by
          rw [eD, ← map_nV]
          unfold rowF
          rw [List.map_map]
          rfl
        have s03 := s02.trans s3
        have lr : (rowF c cs i).length ≤ i + 1 := by
          unfold rowF
          rw [List.length_map]
          exact lS
        refine ⟨_, rfl, D, (rowF c cs i).map (fun x : Nat => (x : Int)), rfl, SqL.of er, by rw [List.length_map]; omega, fun m hm hmn => ?_⟩
        rw [List.length_map] at hm hmn
        rw [nodup_i] at hmn
        refine ⟨_, rfl, D, _, rfl, .inl (SqL.of er), _, _, rfl, rfl, _, rfl, ?_⟩
        rw [List.length_map, List.length_map]
        by_cases nd : (rowF c cs i).Nodup
        · refine go_f (decide_eq_false (by have := hmn.mpr nd; omega)) ⟨_, _, rfl, s03, ?_⟩
          rw [fit_succ, fi, decide_eq_true nd]
          rfl
        · refine go_t (decide_eq_true (by
            have : m ≠ (rowF c cs i).length := fun z => nd (hmn.mp z)
            omega)) ?_
          have := k H3 s03
          rw [fit_no nd _ hi] at this
          exact this
    · rintro σ H1 ⟨u2, u3, rfl, s1, fi⟩
      have := k H1 s1
      rw [fi] at this
      exact this
end
end K74
/-! what is due, by the law. -/
namespace K74
open PySem L2 FX SQ
def VOk' (d : D) : Prop := isTup 3 d = true → isT (it d 1) = true → ∃ cs, it d 1 = rN cs
def dueF (c : Cut) (d : D) : Bool := isTup 3 d && (isT (it d 1) && ((isN (it d 0) && ((items (it d 1)).all isN && isN (it d 2))) && ((decide ((items (it d 1)).length = c.lines.length) && ((items (it d 1)).all fun x => decide (intV x < intV (it d 0)))) && (fitN c (natsD (it d 1)) c.lines.length &&
  (decide (intV (it d 2) < (c.lines.length : Nat)) && decide (((lawStand c (intV (it d 2)).toNat).length : Int) = intV (it d 0)))))))
section
variable {P : Program} {w : World} {K : PySem.W.Frag} {mg : Str → Option Value} {base : Heap}
abbrev sDue : Stmt := top 42
def spDue (K : PySem.W.Frag) : Sp := fun vs H Q _ => ∃ (s : Nat) (ops : List (Nat × List Nat)) (vc v : V) (c : Cut) (d : D), vs = [vc, v] ∧ Dp K H vc (cutD c) ∧ OkCut s ops c ∧ 0 < c.lines.length ∧ Dp K H v d ∧ VOk' d ∧ (items (it d 1)).length ≤ 20 ∧ ∀ H', Same H H' → Q (.bl (dueF c d)) H'
abbrev NDue : List Str := ["cut", "value", "many", "cells", "moment", "one", "cell"]
theorem scDue : FnScope NDue ["cut", "value"] (defScope sDue) := ⟨rfl, rfl, rfl, by decide +kernel, rfl, by decide +kernel, by decide +kernel⟩
theorem isN_bool {d : D} : (match d with | .bool _ => true | _ => false) = true → isN d = false := by
  cases d <;> simp [isN, isI]
theorem ok_due {f fF fS : Addr} {fd fdF fdS : FuncData} (F : Fun K "_law_due" "_law_due" sDue f fd) (Z : Bi mg) (FF : At K mg "_law_fit" sFit fF fdF ["cut", "cells"]) (FS : At K mg "_law_stands" sLS fS fdS ["cut", "at"]) : FnOk P w K mg base CX0 3 f fd ["cut", "value"] (spDue K) := by
  have GS : FnOk P w K mg base CX0 1 fS fdS ["cut", "at"] (spLS K) := ok_ls FS.F Z
  have GF : FnOk P w K mg base CX0 2 fF fdF ["cut", "cells"] (spFit K) := ok_fit FF.F Z FS
  refine F.ok scDue (fun vs H Q E h => ?_) (fun cdv A outer sh H vs Q E hr h => ?_)
  · obtain ⟨s, ops, vc, v, c, d, rfl, _⟩ := h
    rfl
  · obtain ⟨s, ops, vc, v, c, d, rfl, hc, ok, c0, hd, vok, l20, k⟩ := h
    have hu := hr65 hr
    refine ⟨_, pss_cons (ps_if (PW.pt (pw_or (pt_not (pt_val (pe_callB call_isi (by rfl) Z.isinstance (by decide +kernel) (pa_cons (pv 1) (pa_cons (pe_bltn (v := .ty "tuple") (by rfl) Z.tuple (by decide +kernel) rfl) pa_nil)))))
          (pw_or (pt_cmpR op_ne (pe_callB call_len_seq (by rfl) Z.len PySem.boot_len (pa_cons (pv 1) pa_nil)) pe_int (nomark _))
          (pw_or1 (pt_not (pt_val (pe_callB call_isi (by rfl) Z.isinstance (by decide +kernel) (pa_cons (pe_ix ix_tup (pv 1) pe_int (fun _ _ => rfl)) (pa_cons (pe_bltn (v := .ty "tuple") (by rfl) Z.tuple (by decide +kernel) rfl) pa_nil))))))))) (pss_one (ps_ret pe_bl)) pss_nil)
      (pss_cons (ps_asg (pv 1) (pg_tup rfl (pgs_cons (pg_name (i := 2) scDue.nd rfl (Or.inr rfl)) (pgs_cons (pg_name (i := 3) scDue.nd rfl (Or.inl rfl)) (pgs_cons (pg_name (i := 4) scDue.nd rfl (Or.inl rfl)) pgs_nil)))))
      (pss_cons (ps_for PassesOwn.never rfl (pi_list (pe_op op_cat (pe_op op_cat (pe_lst (by exact (pa_cons (pv 2) pa_nil))) (pe_callTy call_list_of (by rfl) Z.list (by decide +kernel) (pa_cons (pv 3) pa_nil)))
            (pe_ifExp (pt_cmpR op_gt (pe_callB call_len_seq (by rfl) Z.len PySem.boot_len (pa_cons (pe_ix ix_tup (pv 0) pe_int (fun _ _ => rfl)) pa_nil)) pe_int (nomark _)) (pe_lst (by exact (pa_cons (pv 4) pa_nil))) pe_dead))) (pg_name (i := 5) scDue.nd rfl (Or.inl rfl))
          (pss_one (ps_if (PW.pt (pw_or (pt_not (pt_val (pe_callB call_isi (by rfl) Z.isinstance (by decide +kernel) (pa_cons (pv 5) (pa_cons (pe_bltn (v := .ty "int") (by rfl) Z.int (by decide +kernel) rfl) pa_nil)))))
            (pw_or (pt_val (pe_callB call_isi (by rfl) Z.isinstance (by decide +kernel) (pa_cons (pv 5) (pa_cons (pe_bltn (v := .ty "bool") (by rfl) Z.bool (by decide +kernel) rfl) pa_nil))))
            (pw_or1 (pt_cmpR op_lt (pv 5) pe_int (nomark _)))))) (pss_one (ps_ret pe_bl)) pss_nil)))
      (pss_cons (ps_if (PW.pt (pw_or (pt_cmpR op_ne (pe_callB call_len_seq (by rfl) Z.len PySem.boot_len (pa_cons (pv 3) pa_nil)) (pe_callB call_len_seq (by rfl) Z.len PySem.boot_len (pa_cons (pe_ix ix_tup (pv 0) pe_int (fun _ _ => rfl)) pa_nil)) (nomark _))
          (pw_or (pt_cmpR (op_neD (Nat.lt_of_le_of_lt (Nat.add_le_add_left (by decide : 64 ≤ 65) _) hu)) (pe_lc (own := [("cell", 6)]) (g := gName 6) (tt := tTest (tOp (rI0 fun i j => .bl (decide (i ≥ j))) (tVar 6) (tVar 2))) (te := tVar 6) rfl scDue.nd (pi_tup (pv 3))
              (blkOk_by (N := NDue) (sc := defScope sDue) (by decide +kernel)) (fun _ _ _ _ _ => pg_name (i := 6) scDue.nd rfl (Or.inl rfl)) (fun _ _ _ _ _ => pts_one (pt_cmpR op_ge (pv 6) (pv 2) (nomark _))) (fun _ _ _ _ _ => pv 6)) (pe_lst pa_nil) (nomark _))
          (pw_or1 (pt_not (pt_val (pe_call GF (hr.mono (by decide)) rfl FF.g FF.F.kp FF.b .nil pass0 (by exact (pa_cons (pv 0) (pa_cons (pv 3) pa_nil)))))))))) (pss_one (ps_ret pe_bl)) pss_nil)
      (pss_cons (ps_if (pt_cmpR op_eq (pe_callB call_len_seq (by rfl) Z.len PySem.boot_len (pa_cons (pe_ix ix_tup (pv 0) pe_int (fun _ _ => rfl)) pa_nil)) pe_int (nomark _)) pss_dead pss_nil)
      (pss_one (ps_ret (pe_and (pe_cmpR op_lt (pv 4) (pe_callB call_len_seq (by rfl) Z.len PySem.boot_len (pa_cons (pe_ix ix_tup (pv 0) pe_int (fun _ _ => rfl)) pa_nil)) (nomark _))
        (pe_one (pe_cmpR op_eq (pe_callB call_len_seq (by rfl) Z.len PySem.boot_len (pa_cons (pe_call GS (hr.mono (by decide)) rfl FS.g FS.F.kp FS.b .nil pass0 (by exact (pa_cons (pv 0) (pa_cons (pv 4) pa_nil)))) pa_nil)) (pv 2) (nomark _)))))))))), ?_⟩
    have no : dueF c d = false → ∀ H', Same H H' → Q (.bl false) H' := fun e H' s' => by
      have := k H' s'
      rw [e] at this
      exact this
    obtain ⟨ac, vc1, vc2, vc3, rfl, qc, g1, g2, g3⟩ := dp3 hc
    obtain ⟨al, xl, rfl, ql, rl⟩ := dp_tup g2
    have ll : xl.length = c.lines.length := by rw [dpAll_len rl, List.length_map]
    have n8 := ok.n8
    refine ⟨_, rfl, _, _, _, _, _, rfl, .ty "tuple", ty_data hd, kT _, _, rfl, ?_⟩
    by_cases t0 : isT d = true
    case neg =>
      have hf : isT d = false := by simpa using t0
      exact go_t (by rw [hf]; rfl) (go_t rfl (no (by unfold dueF isTup; rw [hf]; rfl) H (Same.refl H)))
    refine go_f (by rw [t0]; rfl) ?_
    obtain ⟨ds, rfl⟩ : ∃ ds, d = .tuple ds := by
      cases d with
      | tuple ds => exact ⟨ds, rfl⟩
      | none | bool _ | int _ | str _ | list _ | dict _ => cases t0
    obtain ⟨a, xs, rfl, q, r⟩ := dp_tup hd
    have lx : xs.length = ds.length := dpAll_len r
    refine ⟨_, rfl, a, xs, rfl, .inr q, rfl, _, rfl, ?_⟩
    by_cases l3 : ds.length = 3
    case neg =>
      refine go_t ?_ (go_t rfl (no ?_ H (Same.refl H)))
      · show (!decide (V.int (xs.length : Nat) = V.int 3)) = true
        rw [decide_eq_false fun z => l3 (by have := V.int.inj z; omega)]
        rfl
      · unfold dueF
        refine and_f ?_
        show (true && decide ((ds.length : Int) = 3)) = false
        rw [decide_eq_false (by omega)]
        rfl
    refine go_f (by
      show (!decide (V.int (xs.length : Nat) = V.int 3)) = false
      rw [decide_eq_true (congrArg V.int (by omega))]
      rfl) ?_
    obtain ⟨d0, d1, d2, rfl⟩ : ∃ d0 d1 d2, ds = [d0, d1, d2] := by
      match ds, l3 with
      | [x, y, z], _ => exact ⟨x, y, z, rfl⟩
    obtain ⟨_, x0, x1, x2, ea, qv, h0, h1, h2⟩ := dp3 (Dp.tup (K := K) q r)
    cases ea
    refine ⟨_, rfl, a, _, _, _, rfl, rfl, qv, atI_nat (j := 1) rfl, _, _, _, _, _, rfl, .ty "tuple", ty_data h1, kT _, _, rfl, ?_⟩
    have t3 : isTup 3 (.tuple [d0, d1, d2]) = true := rfl
    have eH : dueF c (.tuple [d0, d1, d2]) = (isT d1 && ((isN d0 && ((items d1).all isN && isN d2)) && ((decide ((items d1).length = c.lines.length) && ((items d1).all fun x => decide (intV x < intV d0))) && (fitN c (natsD d1) c.lines.length &&
      (decide (intV d2 < (c.lines.length : Nat)) && decide (((lawStand c (intV d2).toNat).length : Int) = intV d0)))))) := and_t t3
    replace vok : isT d1 = true → ∃ cs, d1 = rN cs := vok t3
    by_cases t1 : isT d1 = true
    case neg =>
      have hf : isT d1 = false := by simpa using t1
      exact go_t (by rw [hf]; rfl) (no (by rw [eH]; exact and_f hf) H (Same.refl H))
    refine go_f (by rw [t1]; rfl) ?_
    obtain ⟨cs, rfl⟩ := vok t1
    rw [and_t t1] at eH
    obtain ⟨a1, y1, rfl, q1, r1⟩ := dp_tup h1
    obtain rfl := dpAll_nat r1
    replace l20 : cs.length ≤ 20 := by
      have : (cs.map nD).length ≤ 20 := l20
      rw [List.length_map] at this
      exact this
    refine ⟨_, rfl, a, _, rfl, qv, rfl, _, _, rfl, _, _, rfl, _, _, rfl, rfl, ?_⟩
    refine ⟨_, rfl, (by show 1 ≤ sizeLine; decide), fun z1 hz1 => ?_⟩
    have s1 := same_new (o := .lst [x0]) hz1
    refine ⟨_, rfl, a1, _, rfl, .inr (seqT s1 q1), fun z2 hz2 => ?_⟩
    have s2 := same_new (o := .lst (cs.map nV)) hz2
    refine ⟨z1, z2, _, _, rfl, rfl, s2 _ _ upd_same, upd_same, by rw [List.length_map, sizeLine_eq]; show 1 + _ ≤ _; omega, fun z3 hz3 => ?_⟩
    have s3 := same_new (o := .lst ([x0] ++ cs.map nV)) hz3
    have s13 := s1.trans (s2.trans s3)
    refine ⟨_, rfl, ac, _, _, _, rfl, rfl, seqT s13 qc, atI_nat (j := 1) rfl, al, xl, rfl, .inr (seqT s13 ql), _, _, rfl, rfl, _, rfl, go_t (decide_eq_true (by omega)) ⟨_, rfl, (by show 1 ≤ sizeLine; decide), fun z4 hz4 => ?_⟩⟩
    have s4 := same_new (o := .lst [x2]) hz4
    refine ⟨z3, z4, _, _, rfl, rfl, s4 _ _ upd_same, upd_same, by rw [List.length_append, List.length_map, sizeLine_eq]; show 1 + _ + 1 ≤ _; omega, fun z5 hz5 => ?_⟩
    have s5 := same_new (o := .lst ([x0] ++ cs.map nV ++ [x2])) hz5
    have s15 := s13.trans (s4.trans s5)
    have e6 := upd_same (H := upd (upd (upd (upd H z1 (.lst [x0])) z2 (.lst (cs.map nV))) z3 (.lst ([x0] ++ cs.map nV))) z4 (.lst [x2])) (a := z5) (o := HO.lst ([x0] ++ cs.map nV ++ [x2]))
    generalize upd (upd (upd (upd (upd H z1 (.lst [x0])) z2 (.lst (cs.map nV))) z3 (.lst ([x0] ++ cs.map nV))) z4 (.lst [x2])) z5 (.lst ([x0] ++ cs.map nV ++ [x2])) = H6 at s15 e6
    have dall : DpAll K H6 ([x0] ++ cs.map nV ++ [x2]) ([d0] ++ cs.map nD ++ [d2]) := dpAll_app (dpAll_app (.cons (dp_same s15 h0) .nil) (dp_n cs)) (.cons (dp_same s15 h2) .nil)
    have eall : ([d0] ++ cs.map nD ++ [d2]).all isN = (isN d0 && ((cs.map nD).all isN && isN d2)) := by
      rw [List.all_append, List.all_append]
      simp [Bool.and_assoc]
    replace eH : dueF c (.tuple [d0, rN cs, d2]) = (([d0] ++ cs.map nD ++ [d2]).all isN && ((decide ((cs.map nD).length = c.lines.length) && ((cs.map nD).all fun x => decide (intV x < intV d0))) && (fitN c (natsD (rN cs)) c.lines.length &&
      (decide (intV d2 < (c.lines.length : Nat)) && decide (((lawStand c (intV d2).toNat).length : Int) = intV d0))))) := by
      rw [eH, eall]
      rfl
    generalize hL : ([d0] ++ cs.map nD ++ [d2]) = L at dall eH eall
    refine ⟨z5, rfl, ⟨_, SqL.of e6⟩, for_list (K := K) (a := z5) (xs := [x0] ++ cs.map nV ++ [x2]) (fun i σ H' => ∃ u5 : Option V, σ = [some (.ref ac), some (.ref a), some x0, some (.ref a1), some x2, u5, none] ∧ H' = H6 ∧ (L.take i).all isN = true) ⟨none, rfl, rfl, rfl⟩ (fun i σ H' _ ⟨_, _, e, _⟩ => by rw [e]; exact SqL.of e6) ?_ ?_⟩
    · rintro i x σ H7 hi ⟨u5, rfl, e7, fi⟩
      obtain rfl := e7.symm
      obtain ⟨dx, hdx, hx⟩ := dpAll_get dall hi
      have bad : isN dx = false → Q (.bl false) H6 := fun e => no (by
        rw [eH]
        refine and_f (List.all_eq_false.mpr ⟨dx, List.mem_of_getElem? hdx, ?_⟩)
        rw [e]
        decide) H6 s15
      have step : isN dx = true → (L.take (i + 1)).all isN = true := fun e => by
        rw [take_more hdx, List.all_append, fi]
        show (true && (isN dx && true)) = true
        rw [e]
        rfl
      refine ⟨_, rfl, _, _, _, _, _, rfl, .ty "int", ty_data hx, kInt dx, _, rfl, ?_⟩
      cases dx with
      | int n =>
        cases hx
        refine go_f rfl ⟨_, rfl, .int n, _, _, _, _, rfl, .ty "bool", .base (.int n), kBool (.int n), _, rfl, go_f rfl ⟨_, rfl, _, _, rfl, rfl, _, rfl, ?_⟩⟩
        by_cases n0 : n < 0
        · refine go_t (decide_eq_true n0) (bad ?_)
          show (true && decide (0 ≤ n)) = false
          rw [decide_eq_false (by omega)]
          rfl
        · refine go_f (decide_eq_false n0) ⟨_, rfl, rfl, step ?_⟩
          show (true && decide (0 ≤ n)) = true
          rw [decide_eq_true (by omega)]
          rfl
      | bool b =>
        cases hx
        exact go_f rfl ⟨_, rfl, .bl b, _, _, _, _, rfl, .ty "bool", .base (.bl b), kBool (.bool b), _, rfl, go_t rfl (go_t rfl (bad rfl))⟩
      | none | str _ | list _ | tuple _ | dict _ => exact go_t rfl (go_t rfl (bad rfl))
    · rintro σ H7 ⟨u5, rfl, e7, fi⟩
      obtain rfl := e7.symm
      rw [dpAll_len dall, List.take_length] at fi
      have fi2 := fi
      rw [eall, Bool.and_eq_true, Bool.and_eq_true] at fi2
      obtain ⟨i0, _, i2⟩ := fi2
      obtain ⟨m, rfl⟩ := isN_int i0
      obtain ⟨tt, rfl⟩ := isN_int i2
      obtain rfl := dp_nat h0
      obtain rfl := dp_nat h2
      rw [and_t fi, natsD_r, List.length_map] at eH
      have ettn : (intV (nD tt)).toNat = tt := by
        show ((tt : Int)).toNat = tt
        omega
      rw [ettn] at eH
      have hc6 := dp_same s15 hc
      refine ⟨_, rfl, a1, _, rfl, .inr (seqT s15 q1), _, rfl, ac, _, _, _, rfl, rfl, seqT s15 qc, atI_nat (j := 1) rfl, al, xl, rfl, .inr (seqT s15 ql), rfl, _, rfl, ?_⟩
      rw [List.length_map]
      by_cases lc : cs.length = c.lines.length
      case neg =>
        refine go_t ?_ (go_t rfl (no ?_ H6 s15))
        · show (!decide (V.int (cs.length : Nat) = V.int (xl.length : Nat))) = true
          rw [decide_eq_false fun z => lc (by have := V.int.inj z; omega)]
          rfl
        · rw [eH]
          exact and_f (and_f (decide_eq_false lc))
      refine go_f (by
        show (!decide (V.int (cs.length : Nat) = V.int (xl.length : Nat))) = false
        rw [decide_eq_true (congrArg V.int (by omega))]
        rfl) ?_
      rw [decide_eq_true lc, Bool.true_and] at eH
      refine ⟨_, rfl, a1, rfl, ⟨_, seqT s15 q1⟩, fun D hD => walk_it (walk_tup (K := K) (a := a1) (xs := cs.map nV)) (fun n H' => Same H6 H' ∧ H' D = some (.lst (((cs.take n).filter fun x => decide (m ≤ x)).map nV))) ⟨same_new hD, upd_same⟩ (fun n H' _ p => seqT (s15.trans p.1) q1) ?_ ?_⟩
      · rintro n x _ H7 hn ⟨s7, eD⟩ ⟨rfl, hx⟩
        rw [List.getElem?_map] at hx
        obtain ⟨y, hy, rfl⟩ := Option.map_eq_some_iff.mp hx
        refine ⟨rfl, _, rfl, _, rfl, _, _, rfl, rfl, _, rfl, ?_⟩
        have ef : (cs.take (n + 1)).filter (fun x => decide (m ≤ x)) = (cs.take n).filter (fun x => decide (m ≤ x)) ++ (if m ≤ y then [y] else []) := by
          rw [take_more hy, List.filter_append, List.filter_cons]
          by_cases h : m ≤ y
          · rw [if_pos h, if_pos (decide_eq_true h)]
            rfl
          · rw [if_neg h, if_neg (by rw [decide_eq_true_eq]; exact h)]
            rfl
        rw [ef]
        by_cases h : m ≤ y
        · refine go_t (decide_eq_true (by omega)) ⟨_, rfl, _, eD, ?_, same_of s7 hD, ?_⟩
          · have h1 := List.length_filter_le (fun x => decide (m ≤ x)) (cs.take n)
            rw [List.length_take] at h1
            rw [List.length_map, sizeLine_eq]
            omega
          · rw [upd_same, if_pos h, List.map_append]
            rfl
        · refine go_f (decide_eq_false (by omega)) ⟨s7, ?_⟩
          rw [if_neg h, List.append_nil]
          exact eD
      rintro H7 ⟨s7, eD⟩
      rw [List.length_map, List.take_length] at eD
      refine ⟨(by show 0 ≤ sizeLine; decide), fun z hz => ?_⟩
      have s8 := same_new (o := .lst []) hz
      have s18 := s15.trans (s7.trans s8)
      refine ⟨.list ((cs.filter fun x => decide (m ≤ x)).map nD), .list [], .lst (SqL.of (s8 _ _ eD)) (dp_n _), .lst (SqL.of upd_same) .nil, shaped_nn _, rfl, _, rfl, ?_⟩
      rw [eqv_nn]
      have efil : (cs.filter fun x => decide (m ≤ x)).isEmpty = ((cs.map nD).all fun x => decide (intV x < intV (nD m))) := by
        rw [List.all_map, Bool.eq_iff_iff, List.isEmpty_iff, List.filter_eq_nil_iff, List.all_eq_true]
        refine ⟨fun h x hx => ?_, fun h x hx => ?_⟩
        · have := h x hx
          show decide ((x : Int) < (m : Int)) = true
          rw [decide_eq_true_eq] at this ⊢
          omega
        · have := h x hx
          have : decide ((x : Int) < (m : Int)) = true := this
          rw [decide_eq_true_eq] at this ⊢
          omega
      rw [efil]
      by_cases fa : ((cs.map nD).all fun x => decide (intV x < intV (nD m))) = true
      case neg =>
        have hf : ((cs.map nD).all fun x => decide (intV x < intV (nD m))) = false := by simpa using fa
        exact go_t (by rw [hf]; rfl) (go_t rfl (no (by rw [eH]; exact and_f hf) _ s18))
      refine go_f (by rw [fa]; rfl) ?_
      rw [and_t fa] at eH
      refine ⟨_, rfl, _, rfl, s, ops, _, c, a1, cs, rfl, dp_same s18 hc, ok, seqT s18 q1, lc, fun H9 s9 => ⟨_, rfl, ?_⟩⟩
      have s19 := s18.trans s9
      by_cases ft : fitN c cs c.lines.length = true
      case neg =>
        have hf : fitN c cs c.lines.length = false := by simpa using ft
        exact go_t (by rw [hf]; rfl) (no (by rw [eH]; exact and_f hf) _ s19)
      refine go_f (by rw [ft]; rfl) ?_
      rw [and_t ft] at eH
      refine ⟨_, rfl, ac, _, _, _, rfl, rfl, seqT s19 qc, atI_nat (j := 1) rfl, al, xl, rfl, .inr (seqT s19 ql), rfl, _, rfl, go_f (decide_eq_false fun z => by have := V.int.inj z; omega) ?_⟩
      refine ⟨_, rfl, _, rfl, ac, _, _, _, rfl, rfl, seqT s19 qc, atI_nat (j := 1) rfl, al, xl, rfl, .inr (seqT s19 ql), _, _, rfl, rfl, _, rfl, ?_⟩
      by_cases tl : tt < c.lines.length
      case neg =>
        exact go_f (decide_eq_false (by omega)) (no (by
          rw [eH]
          refine and_f (decide_eq_false fun z => tl ?_)
          have z : (tt : Int) < (c.lines.length : Nat) := z
          omega) _ s19)
      refine go_t (decide_eq_true (by omega)) ?_
      refine ⟨_, rfl, _, rfl, s, ops, _, c, tt, rfl, dp_same s19 hc, ok, tl, fun Ha qa sa hqa ea => ⟨qa, _, rfl, .inl (SqL.of ea), _, rfl, rfl, ?_⟩⟩
      have := k Ha (s19.trans sa)
      rw [eH, and_t (decide_eq_true (show intV (nD tt) < (c.lines.length : Nat) by show (tt : Int) < _; omega))] at this
      rw [List.length_map]
      have e9 : decide (V.int ((lawStand c tt).length : Nat) = V.int (m : Nat)) = decide (((lawStand c tt).length : Int) = intV (nD m)) := by
        show _ = decide (((lawStand c tt).length : Int) = (m : Int))
        by_cases z : (((lawStand c tt).length : Nat) : Int) = (m : Nat)
        · rw [decide_eq_true z, decide_eq_true (congrArg V.int z)]
        · rw [decide_eq_false z, decide_eq_false fun w => z (V.int.inj w)]
      rw [e9]
      exact this
end
end K74
/-! the law's own standing, fit and due are those of the program. -/
namespace K74
theorem set_getD (l : List Nat) (k i j : Nat) (h : j < l.length) : (l.set k i).getD j 0 = if k = j then i else l.getD j 0 := by
  rw [List.getD_eq_getElem?_getD, List.getD_eq_getElem?_getD, List.getElem?_set]
  by_cases e : k = j
  · subst e
    rw [if_pos rfl, if_pos rfl, if_pos h]
    rfl
  · rw [if_neg e, if_neg e]
theorem putR_get (i j : Nat) : ∀ (rs : List Rd) (l : List Nat), j < l.length → (putR i rs l).getD j 0 = if hasR rs j = true then i else l.getD j 0
  | [], l, h => rfl
  | r :: rs, l, h => by
    show (putR i rs (if r.1 = 1 then l.set r.2 i else l)).getD j 0 = _
    have hl : j < (if r.1 = 1 then l.set r.2 i else l).length := by
      by_cases e : r.1 = 1
      · rw [if_pos e, List.length_set]
        exact h
      · rw [if_neg e]
        exact h
    rw [putR_get i j rs _ hl]
    have eh : hasR (r :: rs) j = (decide (r.1 = 1 ∧ r.2 = j) || hasR rs j) := rfl
    rw [eh]
    by_cases hr : hasR rs j = true
    · rw [hr, Bool.or_true, if_pos rfl, if_pos rfl]
    · have hf : hasR rs j = false := by simpa using hr
      rw [hf, Bool.or_false, if_neg Bool.false_ne_true]
      by_cases e : r.1 = 1
      · rw [if_pos e, set_getD _ _ _ _ h]
        by_cases e2 : r.2 = j
        · rw [if_pos e2, if_pos (decide_eq_true ⟨e, e2⟩)]
        · rw [if_neg e2, if_neg (by rw [decide_eq_true_eq]; exact fun z => e2 z.2)]
      · rw [if_neg e, if_neg (by rw [decide_eq_true_eq]; exact fun z => e z.1)]
theorem lastA_get (c : Cut) (i j : Nat) (ji : j ≤ i) (hj : j < c.lines.length) : ∀ n, n ≤ c.lines.length → (i < (lastA c n).getD j 0 ↔ ∃ k ln, i < k ∧ k < n ∧ c.lines[k]? = some ln ∧ hasR ln.2 j = true)
  | 0, _ => by
    refine ⟨fun h => ?_, fun ⟨k, ln, _, h, _⟩ => absurd h (Nat.not_lt_zero _)⟩
    have : (lastA c 0).getD j 0 = j := by
      show (List.range c.lines.length).getD j 0 = j
      rw [List.getD_eq_getElem?_getD, List.getElem?_range hj]
      rfl
    omega
  | n + 1, hn => by
    have ih := lastA_get c i j ji hj n (by omega)
    have hl : c.lines[n]? = some c.lines[n] := List.getElem?_eq_getElem (by omega)
    have e : lastA c (n + 1) = putR n (c.lines[n]).2 (lastA c n) := by
      show (match c.lines[n]? with | some ln => putR n ln.2 (lastA c n) | none => lastA c n) = _
      rw [hl]
    rw [e, putR_get _ _ _ _ (by rw [lastA_len]; exact hj)]
    by_cases hh : hasR (c.lines[n]).2 j = true
    · rw [if_pos hh]
      exact ⟨fun h => ⟨n, _, h, Nat.lt_succ_self n, hl, hh⟩, fun ⟨k, ln, h1, h2, _⟩ => by omega⟩
    · rw [if_neg hh, ih]
      refine ⟨fun ⟨k, ln, h1, h2, h3⟩ => ⟨k, ln, h1, by omega, h3⟩, fun ⟨k, ln, h1, h2, h3, h4⟩ => ⟨k, ln, h1, ?_, h3, h4⟩⟩
      by_cases e2 : k = n
      · subst e2
        rw [hl] at h3
        cases h3
        exact absurd h4 hh
      · omega
theorem last_stand (c : Cut) (i j : Nat) (ji : j ≤ i) (il : i < c.lines.length) : decide (i < (lastF c).getD j 0) = standB c i j := by
  unfold lastF standB
  rw [putR_get _ _ _ _ (by rw [lastA_len]; omega)]
  by_cases he : hasR c.ends j = true
  · rw [if_pos he, he, Bool.or_true]
    exact decide_eq_true il
  · have hf : hasR c.ends j = false := by simpa using he
    rw [if_neg he, hf, Bool.or_false, Bool.eq_iff_iff, decide_eq_true_eq, lastA_get c i j ji (by omega) _ (Nat.le_refl _), List.any_eq_true]
    refine ⟨fun ⟨k, ln, h1, h2, h3, h4⟩ => ⟨ln, List.mem_of_getElem? (i := k - (i + 1)) (by rw [List.getElem?_drop, show i + 1 + (k - (i + 1)) = k from by omega]; exact h3), h4⟩, fun ⟨ln, hm, h4⟩ => ?_⟩
    obtain ⟨k, hk⟩ := List.getElem?_of_mem hm
    rw [List.getElem?_drop] at hk
    exact ⟨i + 1 + k, ln, by omega, (List.getElem?_eq_some_iff.mp hk).1, hk, h4⟩
theorem ahead_eq (c : Cut) (i : Nat) (il : i < c.lines.length) : aheadF (lastF c) i i = lawAhead c i i := by
  unfold aheadF lawAhead
  refine List.filter_congr fun j hj => ?_
  exact last_stand c i j (Nat.le_of_lt (List.mem_range.mp hj)) il
theorem stand_same (c : Cut) (i : Nat) (il : i < c.lines.length) : (standF (lastF c) i).length = (lawStand c i).length := by
  unfold standF lawStand
  rw [List.length_append, ahead_eq c i il, List.length_cons]
  rfl
theorem row_eq (c : Cut) (cs : List Nat) (i : Nat) (il : i < c.lines.length) : rowF c cs i = cs.getD i 0 :: takenF (lastF c) cs i := by
  unfold rowF lawStand takenF
  rw [ahead_eq c i il]
  rfl
theorem fit_apart (c : Cut) (cs : List Nat) : fitN c cs c.lines.length = apartN (lastF c) cs c.lines.length := by
  rw [Bool.eq_iff_iff]
  unfold fitN apartN
  rw [List.all_eq_true, List.all_eq_true]
  refine ⟨fun h i hi => ?_, fun h i hi => ?_⟩
  · have := h i hi
    rw [decide_eq_true_eq, row_eq c cs i (List.mem_range.mp hi), List.nodup_cons] at this
    simpa using this.1
  · have hi' := List.mem_range.mp hi
    rw [decide_eq_true_eq, row_eq c cs i hi', List.nodup_cons]
    refine ⟨by simpa using h i hi, ?_⟩
    unfold takenF
    refine List.pairwise_map.mpr ?_
    have pw : (aheadF (lastF c) i i).Pairwise (· < ·) := List.Pairwise.filter _ List.pairwise_lt_range
    refine List.Pairwise.imp_of_mem (fun {j k} hj hk jk => ?_) pw
    unfold aheadF at hj hk
    rw [List.mem_filter, List.mem_range, decide_eq_true_eq] at hj hk
    have hk2 := h k (List.mem_range.mpr (by omega))
    intro z
    have : (takenF (lastF c) cs k).contains (cs.getD k 0) = true := by
      rw [List.contains_iff_mem]
      refine List.mem_map.mpr ⟨j, ?_, z⟩
      unfold aheadF
      rw [List.mem_filter, List.mem_range, decide_eq_true_eq]
      exact ⟨jk, by omega⟩
    rw [this] at hk2
    cases hk2
theorem stand_rows (c : Cut) (cs : List Nat) (i : Nat) (il : i < c.lines.length) : (rowF c cs i).length = (standF (lastF c) i).length := by
  rw [stand_same c i il]
  unfold rowF
  rw [List.length_map]
/-- cells that fit, all below m: no more than m stand at once -/
theorem fit_le {c : Cut} {cs : List Nat} {m : Nat} (lc : cs.length = c.lines.length) (h : fitN c cs c.lines.length = true) (hb : ∀ x ∈ cs, x < m) (i : Nat) (il : i < c.lines.length) : (standF (lastF c) i).length ≤ m := by
  rw [← stand_rows c cs i il]
  unfold fitN at h
  have := List.all_eq_true.mp h i (List.mem_range.mpr il)
  rw [decide_eq_true_eq] at this
  refine nodup_le m _ this fun x hx => ?_
  obtain ⟨j, hj, rfl⟩ := List.mem_map.mp hx
  have ji := stand_mem hj
  rw [List.getD_eq_getElem?_getD, List.getElem?_eq_getElem (by omega)]
  exact hb _ (List.getElem_mem _)
theorem most_is {c : Cut} {m t : Nat} (tl : t < c.lines.length) (ht : (standF (lastF c) t).length = m) (h : ∀ i, i < c.lines.length → (standF (lastF c) i).length ≤ m) : mostF (lastF c) = m := by
  have h1 := stand_le (last := lastF c) (i := t) (by rw [lastF_len]; exact tl)
  have h2 : mostF (lastF c) ≤ m := by
    unfold mostF
    have ne : manyF (lastF c) (lastF c).length ≠ [] := fun z => by
      have := congrArg List.length z
      unfold manyF at this
      rw [List.length_map, List.length_range, lastF_len] at this
      have e : c.lines.length = 0 := this
      omega
    have hm := maxN_mem ne
    obtain ⟨i, hi, e⟩ := List.mem_map.mp hm
    rw [← e]
    rw [List.mem_range, lastF_len] at hi
    exact h i hi
  omega
theorem hold_due {c : Cut} {d : D} (vok : VOk' d) (c0 : 0 < c.lines.length) : holdF (lastF c) d = dueF c d := by
  by_cases t3 : isTup 3 d = true
  case neg =>
    have hf : isTup 3 d = false := by simpa using t3
    unfold holdF dueF
    rw [hf]
    rfl
  have vok := vok t3
  unfold holdF dueF
  rw [t3, Bool.true_and, Bool.true_and]
  generalize it d 0 = d0 at *
  generalize it d 1 = d1 at *
  generalize it d 2 = d2 at *
  by_cases t1 : isT d1 = true
  case neg =>
    have hf : isT d1 = false := by simpa using t1
    have e : isTup (lastF c).length d1 = false := by unfold isTup; rw [hf]; rfl
    rw [e, hf, Bool.false_and, Bool.false_and, Bool.and_false]
  obtain ⟨cs, rfl⟩ := vok t1
  rw [t1, Bool.true_and, natsD_r, lastF_len]
  have eT : isTup (c.lines.length : Nat) (rN cs) = decide (cs.length = c.lines.length) := by
    show (true && decide (((cs.map nD).length : Int) = (c.lines.length : Nat))) = _
    rw [Bool.true_and, List.length_map]
    by_cases h : cs.length = c.lines.length
    · rw [decide_eq_true h, decide_eq_true (by omega)]
    · rw [decide_eq_false h, decide_eq_false (by omega)]
  have eI : (items (rN cs)).all isN = true := by
    show (cs.map nD).all isN = true
    rw [List.all_map, List.all_eq_true]
    intro x _
    show (true && decide ((0 : Int) ≤ (x : Int))) = true
    rw [decide_eq_true (by omega)]
    rfl
  have eL : (items (rN cs)).length = cs.length := List.length_map ..
  rw [eT, eI, eL, Bool.true_and]
  by_cases n0 : isN d0 = true
  case neg =>
    have hf : isN d0 = false := by simpa using n0
    rw [hf, Bool.false_and, Bool.false_and, Bool.false_and]
  obtain ⟨m, rfl⟩ := isN_int n0
  rw [n0, Bool.true_and, Bool.true_and]
  by_cases n2 : isN d2 = true
  case neg =>
    have hf : isN d2 = false := by simpa using n2
    have e : isB (c.lines.length : Nat) d2 = false := by unfold isB; rw [hf]; rfl
    rw [e, hf, Bool.false_and, Bool.false_and, Bool.and_false, Bool.and_false]
  obtain ⟨t, rfl⟩ := isN_int n2
  rw [n2, Bool.true_and, isB_n]
  have ett : (intV (nD t)).toNat = t := by
    show ((t : Int)).toNat = t
    omega
  rw [ett]
  have eB : (items (rN cs)).all (isB (intV (nD m))) = (items (rN cs)).all fun x => decide (intV x < intV (nD m)) := by
    show (cs.map nD).all _ = (cs.map nD).all _
    rw [List.all_map, List.all_map]
    congr 1
  rw [eB]
  have et : decide (intV (nD t) < ((c.lines.length : Nat) : Int)) = decide (t < c.lines.length) := by
    show decide ((t : Int) < _) = _
    by_cases h : t < c.lines.length
    · rw [decide_eq_true h, decide_eq_true (by omega)]
    · rw [decide_eq_false h, decide_eq_false (by omega)]
  rw [et, fit_apart c cs]
  by_cases lc : cs.length = c.lines.length
  case neg => rw [decide_eq_false lc, Bool.false_and, Bool.false_and, Bool.false_and]
  rw [decide_eq_true lc, Bool.true_and, Bool.true_and]
  by_cases fa : ((items (rN cs)).all fun x => decide (intV x < intV (nD m))) = true
  case neg =>
    have hf : ((items (rN cs)).all fun x => decide (intV x < intV (nD m))) = false := by simpa using fa
    rw [hf, Bool.and_false, Bool.false_and, Bool.false_and]
  rw [fa, Bool.and_true, Bool.true_and]
  by_cases tl : t < c.lines.length
  case neg => rw [decide_eq_false tl, Bool.false_and, Bool.false_and, Bool.and_false, Bool.and_false]
  rw [decide_eq_true tl, Bool.true_and, Bool.true_and, stand_same c t tl]
  by_cases fp : apartN (lastF c) cs c.lines.length = true
  case neg =>
    have hf : apartN (lastF c) cs c.lines.length = false := by simpa using fp
    rw [hf, Bool.and_false, Bool.and_false, Bool.false_and]
  rw [fp, Bool.and_true, Bool.true_and]
  by_cases st : (lawStand c t).length = m
  case neg =>
    have e : decide (((lawStand c t).length : Int) = intV (nD m)) = false := decide_eq_false fun z => st (by
      have z : (((lawStand c t).length : Nat) : Int) = (m : Int) := z
      omega)
    rw [e, Bool.and_false]
  have hb : ∀ x ∈ cs, x < m := fun x hx => by
    have := List.all_eq_true.mp fa (nD x) (List.mem_map.mpr ⟨x, hx, rfl⟩)
    have : decide ((x : Int) < (m : Int)) = true := this
    rw [decide_eq_true_eq] at this
    omega
  have hm := most_is (c := c) (m := m) tl ((stand_same c t tl).trans st) (fun i il => fit_le lc ((fit_apart c cs).trans fp) hb i il)
  have e : decide (intV (nD m) = ((mostF (lastF c) : Nat) : Int)) = true := decide_eq_true (by rw [hm]; rfl)
  rw [e, Bool.true_and]
end K74
/-! the cells told fit, are as few as can be. -/
namespace K74
theorem cellsF_get (last : List Nat) (m : Nat) (j : Nat) : ∀ n, j < n → (cellsF last m n).getD j 0 = (freeF m (takenF last (cellsF last m j) j)).headD 0
  | 0, h => absurd h (Nat.not_lt_zero _)
  | n + 1, h => by
    show (cellsF last m n ++ [(freeF m (takenF last (cellsF last m n) n)).headD 0]).getD j 0 = _
    have ln := cellsF_len last m n
    by_cases e : j = n
    · subst e
      rw [List.getD_eq_getElem?_getD, List.getElem?_append_right (by omega), ln, Nat.sub_self]
      rfl
    · rw [List.getD_eq_getElem?_getD, List.getElem?_append_left (by omega), ← List.getD_eq_getElem?_getD]
      exact cellsF_get last m j n (by omega)
theorem taken_same (last : List Nat) (m i n : Nat) (h : i ≤ n) : takenF last (cellsF last m n) i = takenF last (cellsF last m i) i := by
  unfold takenF
  refine List.map_congr_left fun j hj => ?_
  unfold aheadF at hj
  rw [List.mem_filter, List.mem_range] at hj
  rw [cellsF_get last m j n (by omega), cellsF_get last m j i hj.1]
theorem few_is {c : Cut} {i : Nat} (il : i < c.lines.length) : (fewCs c).getD i 0 < mostF (lastF c) ∧ (fewCs c).getD i 0 ∉ takenF (lastF c) (fewCs c) i := by
  unfold fewCs
  rw [taken_same _ _ _ _ (Nat.le_of_lt il), cellsF_get _ _ i _ il]
  obtain ⟨x, r, e, h1, h2⟩ := free_ne (taken_lt (last := lastF c) (cs := cellsF (lastF c) (mostF (lastF c)) i) (i := i) (by rw [lastF_len]; exact il))
  rw [e]
  exact ⟨h1, h2⟩
theorem few_len (c : Cut) : (fewCs c).length = c.lines.length := cellsF_len _ _ _
theorem few_lt (c : Cut) : ∀ x ∈ fewCs c, x < mostF (lastF c) := fun x hx => by
  obtain ⟨i, hi⟩ := List.getElem?_of_mem hx
  have il := (List.getElem?_eq_some_iff.mp hi).1
  rw [few_len] at il
  have := (few_is il).1
  rw [List.getD_eq_getElem?_getD, hi] at this
  exact this
theorem few_fit (c : Cut) : fitN c (fewCs c) c.lines.length = true := by
  rw [fit_apart]
  unfold apartN
  rw [List.all_eq_true]
  intro i hi
  have := (few_is (List.mem_range.mp hi)).2
  simpa using this
theorem some_most (c : Cut) (c0 : 0 < c.lines.length) : ∃ i, i < c.lines.length ∧ (standF (lastF c) i).length = mostF (lastF c) := by
  have ne : manyF (lastF c) (lastF c).length ≠ [] := fun z => by
    have := congrArg List.length z
    unfold manyF at this
    rw [List.length_map, List.length_range, lastF_len] at this
    have e : c.lines.length = 0 := this
    omega
  obtain ⟨i, hi, e⟩ := List.mem_map.mp (maxN_mem ne)
  rw [List.mem_range, lastF_len] at hi
  exact ⟨i, hi, e⟩
/-- no cells below one less fit -/
theorem none_less {c : Cut} (c0 : 0 < c.lines.length) {r : List Nat} (h : r ∈ rowsN (mostF (lastF c) - 1) c.lines.length) : fitN c r c.lines.length = false := by
  obtain ⟨lr, lt⟩ := rowsN_mem h
  by_cases f : fitN c r c.lines.length = true
  · obtain ⟨i, il, e⟩ := some_most c c0
    have := fit_le lr f lt i il
    have pos : 0 < (standF (lastF c) i).length := by
      unfold standF
      rw [List.length_append]
      exact Nat.lt_of_lt_of_le Nat.zero_lt_one (Nat.le_add_left ..)
    omega
  · simpa using f
/-- the moment told: the first with most standing -/
theorem mom_first (c : Cut) (c0 : 0 < c.lines.length) : ∃ t, t < c.lines.length ∧ momV (fewMs c) = nV t ∧ (standF (lastF c) t).length = mostF (lastF c) ∧ ∀ i, i < t → (standF (lastF c) i).length ≠ mostF (lastF c) := by
  obtain ⟨i, il, e⟩ := some_most c c0
  have key : ∀ n, (∀ i, i < n → (standF (lastF c) i).length ≠ mostF (lastF c)) ∧ momF (lastF c) (mostF (lastF c)) n = [] ∨ ∃ t r, t < n ∧ momF (lastF c) (mostF (lastF c)) n = t :: r ∧ (standF (lastF c) t).length = mostF (lastF c) ∧ ∀ i, i < t → (standF (lastF c) i).length ≠ mostF (lastF c) := by
    intro n
    induction n with
    | zero => exact .inl ⟨fun i h => absurd h (Nat.not_lt_zero _), rfl⟩
    | succ n ih =>
      rw [mom_succ]
      rcases ih with ⟨h1, h2⟩ | ⟨t, r, h1, h2, h3, h4⟩
      · by_cases cn : (standF (lastF c) n).length = mostF (lastF c)
        · exact .inr ⟨n, [], Nat.lt_succ_self n, by rw [h2, if_pos cn]; rfl, cn, h1⟩
        · refine .inl ⟨fun i hi => ?_, by rw [h2, if_neg cn]; rfl⟩
          by_cases e : i = n
          · rw [e]
            exact cn
          · exact h1 i (by omega)
      · exact .inr ⟨t, r ++ _, by omega, by rw [h2]; rfl, h3, h4⟩
  rcases key c.lines.length with ⟨h1, _⟩ | ⟨t, r, h1, h2, h3, h4⟩
  · exact absurd e (h1 i il)
  · refine ⟨t, h1, ?_, h3, h4⟩
    unfold fewMs
    rw [h2]
    rfl
end K74
/-! what is refused. -/
namespace K74
open PySem L2 FX SQ
section
variable {P : Program} {w : World} {K : PySem.W.Frag} {mg : Str → Option Value} {base : Heap} {B cB iB cC iC : Addr}
abbrev sTried : Stmt := top 44
/-- a pair of a word and a number -/
def Pair (Q : VK) (H : Hp) (wd : Str) (u : V) : Prop := ∀ H' t, Same H H' → H' t = some (.tup [.str wd, u]) → Q (.ref t) H'
def suErr (C : Addr) (fl wd : Str) : Su := fun a cls d => tRet (tTup (tCons (tC (.str wd)) (tCons (tFld C fl a cls d (tVar 2)) tNil)))
theorem suErr_ok {C : Addr} {fl wd : Str} {Q : VK} {H H' : Hp} {dd a : Addr} {D : Ends} {σ : L2.St} {v : V} (h : Pair Q H wd v) (s : Same H H') (hd : H' dd = none) (hrt : D.rt = Q) (hs : σ[2]? = some (some (.ref a))) : suErr C fl wd a (.ref C) (some dd) D σ (upd H' dd (.xd [(fl, v)])) := by
  refine ⟨_, hs, rfl, rfl, dd, v, rfl, upd_same, (by show 2 ≤ sizeLine; decide), fun t ht => ?_⟩
  rw [hrt]
  exact h _ t ((s.trans (same_new hd)).trans (same_new ht)) upd_same
def spTried (K : PySem.W.Frag) : Sp := fun vs H Q _ => ∃ (wd : Str) (a : Addr) (vb vc : V) (db dc : D), vs = [.str wd, .ref a] ∧ SqT K H a [vb, vc] ∧ Dp K H vb db ∧ Dp K H vc dc ∧
  ((okBook db = false ∧ Pair Q H "book" (.int (-1))) ∨ ∃ s ops, db = bookD s ops ∧ OkB s ops ∧ ScC s ops dc (fun u => u ≠ .non ∧ Pair Q H "cut" u))
abbrev NTried : List Str := ["word", "values", "e"]
theorem scTried : FnScope NTried ["word", "values"] (defScope sTried) := ⟨rfl, rfl, rfl, by decide +kernel, rfl, by decide +kernel, by decide +kernel⟩
theorem ok_tried {f fF fH : Addr} {fd fdF fdH : FuncData} (F : Fun K "_law_tried" "_law_tried" sTried f fd) (T : Ers K mg B cB iB cC iC) (FF : At K mg "fewest_cells" sFew fF fdF ["book", "cut"]) (GF : FnOk P w K mg base (L2.CX P w) 8 fF fdF ["book", "cut"] (spFew K cB cC))
    (FH : At K mg "fewest_hold" sHold fH fdH ["book", "cut", "value"]) (GH : FnOk P w K mg base (L2.CX P w) 8 fH fdH ["book", "cut", "value"] (spHold K cB cC)) : FnOk P w K mg base CX0 9 f fd ["word", "values"] (spTried K) := by
  refine F.ok scTried (fun vs H Q E h => ?_) (fun cdv A outer sh H vs Q E hr h => ?_)
  · obtain ⟨wd, a, vb, vc, db, dc, rfl, _⟩ := h
    rfl
  · obtain ⟨wd, a, vb, vc, db, dc, rfl, q, hb, hc, sc⟩ := h
    refine ⟨_, pss_cons (ps_tryCl (tb := fun W => tIfS (tTest (tOp rEq (tVar 0) (tC (.str "fewest")))) (tDrop (tCallS (spFew K cB cC) (WE W) (tCons (tOp (rIxT K) (tVar 1) (tC (.int 0))) (tCons (tOp (rIxT K) (tVar 1) (tC (.int 1))) tNil))))
          (tDrop (tCallS (spHold K cB cC) (WE W) (tCons (tOp (rIxT K) (tVar 1) (tC (.int 0))) (tCons (tOp (rIxT K) (tVar 1) (tC (.int 1))) (tCons (tC .non) tNil)))))) (l := [(.ref cB, some 2, suErr cB "at" "book"), (.ref cC, some 2, suErr cC "at" "cut")]) (Wout := fun _ _ _ _ => False) rfl rfl scTried.nd takes0
        (fun W pn xe tk _ => pss_one (ps_if (pt_cmpR op_eq (pv 0) pe_str (nomark _))
          (pss_one (ps_expr (by exact (pe_callS GF hr rfl FF.g FF.F.kp FF.b (fun σ => passAt tk σ) (by exact (pa_cons (pe_ix ix_tup (pv 1) pe_int (fun _ _ => rfl)) (pa_cons (pe_ix ix_tup (pv 1) pe_int (fun _ _ => rfl)) pa_nil)))))))
          (pss_one (ps_expr (by exact (pe_callS GH hr rfl FH.g FH.F.kp FH.b (fun σ => passAt tk σ) (by exact (pa_cons (pe_ix ix_tup (pv 1) pe_int (fun _ _ => rfl)) (pa_cons (pe_ix ix_tup (pv 1) pe_int (fun _ _ => rfl)) (pa_cons pe_non pa_nil))))))))))
        (by exact (Cl.named (i := 2) rfl rfl ⟨rfl, by decide, Or.inl T.b.T.gC⟩ (fun a oe cls d pn hz hf => pss_one (ps_ret (pe_tup (by exact (pa_cons pe_str (pa_cons (pe_errfield T.b.T T.b.U hz hf (pv 2)) pa_nil))))))
          (Cl.named (i := 2) rfl rfl ⟨rfl, by decide, Or.inl T.c.T.gC⟩ (fun a oe cls d pn hz hf => pss_one (ps_ret (pe_tup (by exact (pa_cons pe_str (pa_cons (pe_errfield T.c.T T.c.U hz hf (pv 2)) pa_nil))))))
          Cl.nil))))
      pss_dead, ?_⟩
    have wrong : ∀ (E' : XK) (R : Cut → Prop), (∀ H' d', Same H H' → H' d' = none → okBook db = false → Pair Q H "book" (.int (-1)) → E' (.ref cB) (some d') (upd H' d' (.xd [("at", .int (-1))]))) → (∀ H' d' u, Same H H' → H' d' = none → Pair Q H "cut" u → E' (.ref cC) (some d') (upd H' d' (.xd [("at", u)]))) → GSc cB cC H E' db dc R := fun E' R e1 e2 => by
      rcases sc with ⟨x, y⟩ | ⟨s, ops, x, okb, y⟩
      · exact .inl ⟨x, fun H' d' s' hd' => e1 H' d' s' hd' x y⟩
      · exact .inr ⟨s, ops, x, okb, .inl (y.imp fun u ⟨n, pr⟩ => ⟨n, fun H' d' s' hd' => e2 H' d' u s' hd' pr⟩)⟩
    refine ⟨_, rfl, rfl, _, rfl, ite_any ?_ ?_⟩
    · refine ⟨_, rfl, a, _, _, _, rfl, rfl, q, atI_nat (j := 0) rfl, _, rfl, a, _, _, _, rfl, rfl, q, atI_nat (j := 1) rfl, vb, vc, db, dc, rfl, hb, hc, wrong _ _ (fun H' d' s' hd' _ pr => ?_) (fun H' d' u s' hd' pr => ?_)⟩
      · exact ⟨true, T.b.T.own, fun _ a _ => suErr_ok pr s' hd' rfl rfl, fun z => nomatch z⟩
      · exact ⟨false, T.c.T.other T.S T.b.T (by decide) (by decide), fun z => (nomatch z), fun _ => ⟨true, T.c.T.own, fun _ a _ => suErr_ok pr s' hd' rfl rfl, fun z => nomatch z⟩⟩
    · refine ⟨_, rfl, a, _, _, _, rfl, rfl, q, atI_nat (j := 0) rfl, _, rfl, a, _, _, _, rfl, rfl, q, atI_nat (j := 1) rfl, vb, vc, .non, db, dc, rfl, hb, hc, wrong _ _ (fun H' d' s' hd' _ pr => ?_) (fun H' d' u s' hd' pr => ?_)⟩
      · exact ⟨true, T.b.T.own, fun _ a _ => suErr_ok pr s' hd' rfl rfl, fun z => nomatch z⟩
      · exact ⟨false, T.c.T.other T.S T.b.T (by decide) (by decide), fun z => (nomatch z), fun _ => ⟨true, T.c.T.own, fun _ a _ => suErr_ok pr s' hd' rfl rfl, fun z => nomatch z⟩⟩
end
end K74
/-! displays of data; the anchor. -/
namespace K74
open PySem L2 FX SQ
/-! a display of data, whole -/
def tDat (L : List (Nat × D)) (d : D) : TE := fun σ H Q => (∀ p ∈ L, ∃ v, σ[p.1]? = some (some v) ∧ IM H v p.2) ∧ ∀ H' v, Same H H' → IM H' v d → Q v H'
def tDats (L : List (Nat × D)) (ds : List D) : TA := fun σ H Q => (∀ p ∈ L, ∃ v, σ[p.1]? = some (some v) ∧ IM H v p.2) ∧ ∀ H' vs, Same H H' → IMs H' vs ds → Q vs H'
section
variable {X : Cx} {L : List (Nat × D)}
theorem pd_imp {e : Expr} {t t' : TE} (p : PE X e t) (h : ∀ σ H Q, t' σ H Q → t σ H Q) : PE X e t' := ⟨fun pins s σ H Q I k => p.run pins s σ H Q I (h _ _ _ k)⟩
theorem pds_imp {es : List Expr} {t t' : TA} (p : PA X es t) (h : ∀ σ H Q, t' σ H Q → t σ H Q) : PA X es t' := ⟨fun pos pins s σ H Q I k => p.run pos pins s σ H Q I (h _ _ _ k)⟩
theorem pd_int {i j pos} : PE X (.Constant (.int i) j pos) (tDat L (.int i)) := pd_imp pe_int fun _ H _ ⟨_, k⟩ => k H _ (Same.refl H) (.int i)
theorem pd_str {i j pos} : PE X (.Constant (.str i) j pos) (tDat L (.str i)) := pd_imp pe_str fun _ H _ ⟨_, k⟩ => k H _ (Same.refl H) (.str i)
theorem pd_bl {i j pos} : PE X (.Constant (.bool i) j pos) (tDat L (.bool i)) := pd_imp pe_bl fun _ H _ ⟨_, k⟩ => k H _ (Same.refl H) (.bl i)
theorem pd_non {j pos} : PE X (.Constant .none j pos) (tDat L .none) := pd_imp pe_non fun _ H _ ⟨_, k⟩ => k H _ (Same.refl H) .non
theorem pd_var (k : Nat) {i : Nat} {d : D} {e : Expr} (h : PE X e (tVar i)) (hL : L[k]? = some (i, d) := by rfl) : PE X e (tDat L d) := pd_imp h fun σ H Q ⟨p, k⟩ => by
  obtain ⟨v, e, m⟩ := p _ (List.mem_of_getElem? hL)
  exact ⟨v, e, k H v (Same.refl H) m⟩
theorem pds_nil : PA X [] (tDats L []) := pds_imp pa_nil fun _ H _ ⟨_, k⟩ => k H _ (Same.refl H) .nil
theorem pds_cons {e : Expr} {es : List Expr} {d : D} {ds : List D} (ha : PE X e (tDat L d)) (hr : PA X es (tDats L ds)) (hs : starEach (e :: es) X.env = (false, eval e X.env) :: starEach es X.env := by rfl) : PA X (e :: es) (tDats L (d :: ds)) :=
  pds_imp (pa_cons ha hr hs) fun _ H _ ⟨p, k⟩ => ⟨p, fun H1 v s1 m => ⟨fun q hq => (p q hq).imp fun u ⟨e, i⟩ => ⟨e, IM.same s1 i⟩, fun H2 vs s2 ms => k H2 _ (s1.trans s2) (.cons (IM.same s2 m) ms)⟩⟩
theorem pd_tup {es : List Expr} {ds : List D} {x1 pos} (h : PA X es (tDats L ds)) (hl : Nat.ble ds.length 1000 = true := by rfl) : PE X (.Tuple es x1 pos) (tDat L (.tuple ds)) :=
  pd_imp (pe_tup h) fun _ H _ ⟨p, k⟩ => ⟨p, fun H1 vs s1 ms => ⟨by
    have := Nat.le_of_ble_eq_true hl
    rw [ms.len, sizeLine_eq]
    omega, fun q hq => k _ _ (s1.trans (same_new hq)) (.tup upd_same (IMs.same (same_new hq) ms))⟩⟩
end
theorem im2 {H : Hp} {v : V} {d0 d1 : D} (h : IM H v (.tuple [d0, d1])) : ∃ a x y, v = .ref a ∧ H a = some (.tup [x, y]) ∧ IM H x d0 ∧ IM H y d1 := by
  obtain ⟨a, vs, rfl, e, i⟩ := at_of h
  cases i with
  | cons h0 r => cases r with
    | cons h1 r => cases r with
      | nil => exact ⟨a, _, _, rfl, e, h0, h1⟩
theorem im3 {H : Hp} {v : V} {d0 d1 d2 : D} (h : IM H v (.tuple [d0, d1, d2])) : ∃ a x y z, v = .ref a ∧ H a = some (.tup [x, y, z]) ∧ IM H x d0 ∧ IM H y d1 ∧ IM H z d2 := by
  obtain ⟨a, vs, rfl, e, i⟩ := at_of h
  cases i with
  | cons h0 r => cases r with
    | cons h1 r => cases r with
      | cons h2 r => cases r with
        | nil => exact ⟨a, _, _, _, rfl, e, h0, h1, h2⟩
theorem no_mem {α : Type} {R : α → Prop} : ∀ p ∈ ([] : List α), R p := fun p h => absurd h (List.not_mem_nil)
theorem mem1 {α : Type} {R : α → Prop} {a : α} (h : R a) : ∀ p ∈ [a], R p := fun p hp => by rw [List.mem_singleton.mp hp]; exact h
theorem mem2 {α : Type} {R : α → Prop} {a b : α} (h : R a) (h2 : R b) : ∀ p ∈ [a, b], R p := fun p hp => by
  rcases List.mem_cons.mp hp with e | e
  · rw [e]; exact h
  · rw [List.mem_singleton.mp e]; exact h2
def perm2 {α : Type} : List α → List α → List α := fun us ws => match us, ws with
  | [], [a, b] => [a, b]
  | _, _ => []
def perm3 {α : Type} : List α → List α → List α := fun us ws => match us, ws with
  | [], [a, b, c] => [a, b, c]
  | _, _ => []
instance {s i n : Nat} {r : Rd} : Decidable (OkRd s i n r) := inferInstanceAs (Decidable (_ ∧ _))
abbrev ops0 : List (Nat × List Nat) := [(2, [0, 0, 0, 1])]
abbrev cut0 : Cut := ⟨[[0, 1], [0, 1]], [(0, [(0, 0), (0, 1)]), (0, [(0, 0), (0, 0)]), (0, [(1, 0), (1, 1)])], [(1, 2)]⟩
abbrev cut1 : Cut := ⟨[[0, 1], [0, 1]], [], [(0, 0)]⟩
theorem okb0 : OkB 2 ops0 := ⟨by decide, by decide, by decide, by decide⟩
theorem okl2 : ∀ ns ∈ ([[0, 1], [0, 1]] : List (List Nat)), OkLs 2 ns := mem2 (okLs_range (s := 2) (by decide) (by decide)) (okLs_range (s := 2) (by decide) (by decide))
theorem okn0 : ∀ (i : Nat) (l : Ln), cut0.lines[i]? = some l → OkLn 2 ops0 cut0.lists.length i l
  | 0, l, h => by
    cases h
    exact ⟨⟨_, rfl, rfl, by decide⟩, by decide⟩
  | 1, l, h => by
    cases h
    exact ⟨⟨_, rfl, rfl, by decide⟩, by decide⟩
  | 2, l, h => by
    cases h
    exact ⟨⟨_, rfl, rfl, by decide⟩, by decide⟩
  | n + 3, l, h => by cases h
theorem okc0 : OkCut 2 ops0 cut0 := ⟨by decide, by decide, by decide, by decide, by decide, okl2, okn0, by decide⟩
theorem okc1 : OkCut 2 ops0 cut1 := ⟨by decide, by decide, by decide, by decide, by decide, okl2, (fun i l h => by cases h), by decide⟩
abbrev d0 : D := .tuple [.int 2, .tuple [.int 0, .int 1, .int 1], .int 1]
theorem hold0 : holdF (lastF cut0) d0 = true := by decide +kernel
theorem most0 : mostF (lastF cut0) = 2 := by decide +kernel
theorem few0 : fewMs cut0 = [1] := by decide +kernel
theorem most1 : mostF (lastF cut1) = 0 := by decide +kernel
theorem few1 : fewMs cut1 = [] ∧ fewCs cut1 = [] := by decide +kernel
section
variable {P : Program} {w : World} {K : PySem.W.Frag} {mg : Str → Option Value} {base : Heap} {B cB iB cC iC : Addr}
theorem kb_few {f : Addr} {fd : FuncData} (F : Fun K "fewest_cells" "fewest_cells" sFew f fd) : KBinds K fd ["book", "cut"] ["book", "cut"] perm2 perm2 := by
  obtain ⟨oc, od, kV, doc, pm, an, cdv, ct, osl, rfl, _, _⟩ := F.ex
  refine ⟨fun s us ws _ hl => ?_, fun r rz => ?_⟩
  · match us, ws, hl with
    | [], [v, z], _ => exact BindsTo.of_eq (by rfl)
  · cases r with
    | cons a b => exact .nil
    | nil => cases rz with
      | nil => exact .nil
      | cons a rz => cases rz with
        | nil => exact .nil
        | cons b rz => cases rz with
          | nil => exact .cons a (.cons b .nil)
          | cons c rz => exact .nil
theorem kb_hold {f : Addr} {fd : FuncData} (F : Fun K "fewest_hold" "fewest_hold" sHold f fd) : KBinds K fd ["book", "cut", "value"] ["book", "cut", "value"] perm3 perm3 := by
  obtain ⟨oc, od, kV, doc, pm, an, cdv, ct, osl, rfl, _, _⟩ := F.ex
  refine ⟨fun s us ws _ hl => ?_, fun r rz => ?_⟩
  · match us, ws, hl with
    | [], [v, z, y], _ => exact BindsTo.of_eq (by rfl)
  · cases r with
    | cons a b => exact .nil
    | nil => cases rz with
      | nil => exact .nil
      | cons a rz => cases rz with
        | nil => exact .nil
        | cons b rz => cases rz with
          | nil => exact .nil
          | cons c rz => cases rz with
            | nil => exact .cons a (.cons b (.cons c .nil))
            | cons c rz => exact .nil
abbrev sAnc : Stmt := top 45
def spAnc : Sp := fun vs H Q _ => vs = [] ∧ ∀ H', Same H H' → Q (.bl true) H'
abbrev NAnc : List Str := ["book", "both", "line", "cut", "told"]
theorem scAnc : FnScope NAnc [] (defScope sAnc) := ⟨rfl, rfl, rfl, by decide +kernel, rfl, by decide +kernel, by decide +kernel⟩
theorem ok_anc {f fF fH : Addr} {fd fdF fdH : FuncData} (F : Fun K "_law_anchor" "_law_anchor" sAnc f fd) (FF : At K mg "fewest_cells" sFew fF fdF ["book", "cut"]) (GF : FnOk P w K mg base (L2.CX P w) 8 fF fdF ["book", "cut"] (spFew K cB cC))
    (FH : At K mg "fewest_hold" sHold fH fdH ["book", "cut", "value"]) (GH : FnOk P w K mg base (L2.CX P w) 8 fH fdH ["book", "cut", "value"] (spHold K cB cC)) : FnOk P w K mg base CX0 9 f fd [] spAnc := by
  refine F.ok scAnc (fun vs H Q E h => ?_) (fun cdv A outer sh H vs Q E hr h => ?_)
  · rw [h.1]
    rfl
  · obtain ⟨rfl, k⟩ := h
    have hr8 := hr.units
    refine ⟨_, pss_cons (ps_set (i := 0) scAnc.nd rfl (Or.inl rfl) (pd_tup (L := []) (pds_cons pd_int (pds_cons (pd_tup (pds_cons (pd_tup (pds_cons pd_int (pds_cons (pd_tup (pds_cons pd_int (pds_cons pd_int (pds_cons pd_int (pds_cons pd_int pds_nil))))) pds_nil))) pds_nil)) pds_nil))))
      (pss_cons (ps_asg (pd_tup (L := []) (pds_cons (pd_tup (pds_cons (pd_tup (pds_cons pd_int (pds_cons pd_int pds_nil))) (pds_cons (pd_tup (pds_cons pd_int (pds_cons pd_int pds_nil))) pds_nil)))
            (pds_cons (pd_tup (pds_cons pd_int (pds_cons (pd_tup (pds_cons (pd_tup (pds_cons pd_str (pds_cons pd_int pds_nil))) (pds_cons (pd_tup (pds_cons pd_str (pds_cons pd_int pds_nil))) pds_nil))) pds_nil))) pds_nil)))
          (pg_tup rfl (pgs_cons (pg_name (i := 1) scAnc.nd rfl (Or.inl rfl)) (pgs_cons (pg_name (i := 2) scAnc.nd rfl (Or.inl rfl)) pgs_nil))))
      (pss_cons (ps_set (i := 3) scAnc.nd rfl (Or.inl rfl) (pd_tup (L := [(1, .tuple [rN [0, 1], rN [0, 1]]), (2, lnD (0, [(0, 0), (0, 1)]))]) (pds_cons (pd_var 0 (pv 1)) (pds_cons (pd_tup (pds_cons (pd_var 1 (pv 2))
            (pds_cons (pd_tup (pds_cons pd_int (pds_cons (pd_tup (pds_cons (pd_tup (pds_cons pd_str (pds_cons pd_int pds_nil))) (pds_cons (pd_tup (pds_cons pd_str (pds_cons pd_int pds_nil))) pds_nil))) pds_nil)))
            (pds_cons (pd_tup (pds_cons pd_int (pds_cons (pd_tup (pds_cons (pd_tup (pds_cons pd_str (pds_cons pd_int pds_nil))) (pds_cons (pd_tup (pds_cons pd_str (pds_cons pd_int pds_nil))) pds_nil))) pds_nil))) pds_nil))))
          (pds_cons (pd_tup (pds_cons (pd_tup (pds_cons pd_str (pds_cons pd_int pds_nil))) pds_nil)) pds_nil)))))
      (pss_cons (ps_if (pt_cmpR op_notBl (pe_callK0 GH (hr.mono (by decide)) rfl FH.g FH.F.kp (kb_hold FH.F) (pass_never rfl rfl) (pk_cons (pv 0) (pk_cons (pv 3) (pk_cons (pd_tup (L := []) (pds_cons pd_int (pds_cons (pd_tup (pds_cons pd_int (pds_cons pd_int (pds_cons pd_int pds_nil)))) (pds_cons pd_int pds_nil)))) pk_nil)))) pe_bl (nomark _)) (pss_one (ps_ret pe_bl)) pss_nil)
      (pss_cons (ps_set (i := 4) scAnc.nd rfl (Or.inl rfl) (pe_callK0 GF (hr.mono (by decide)) rfl FF.g FF.F.kp (kb_few FF.F) (pass_never rfl rfl) (pk_cons (pv 0) (pk_cons (pv 3) pk_nil))))
      (pss_one (ps_ret (pe_and (pe_cmpR op_eq (pe_ix ix_tup (pv 4) pe_int (fun _ _ => rfl)) pe_int (nomark _)) (pe_and (pe_cmpR op_eq (pe_ix ix_tup (pv 4) pe_int (fun _ _ => rfl)) pe_int (nomark _))
        (pe_one (pe_cmpR (op_eqD hr8) (pe_call GF (hr.mono (by decide)) rfl FF.g FF.F.kp FF.b .nil (pass_never rfl rfl) (by exact (pa_cons (pv 0) (pa_cons (pd_tup (L := [(1, .tuple [rN [0, 1], rN [0, 1]])]) (pds_cons (pd_var 0 (pv 1)) (pds_cons (pd_tup pds_nil) (pds_cons (pd_tup (pds_cons (pd_tup (pds_cons pd_str (pds_cons pd_int pds_nil))) pds_nil)) pds_nil)))) pa_nil))))
          (pd_tup (L := []) (pds_cons pd_int (pds_cons (pd_tup pds_nil) (pds_cons pd_non pds_nil)))) (nomark _)))))))))))
      , ?_⟩
    refine ⟨no_mem, fun H1 v1 s1 hb => ⟨no_mem, fun H2 v2 s2 h2 => ?_⟩⟩
    replace hb : IM H1 v1 (bookD 2 ops0) := hb
    obtain ⟨a2, vb, vl, rfl, e2, i1, i2⟩ := im2 h2
    refine ⟨a2, _, rfl, SqT.of e2, rfl, _, _, rfl, _, _, rfl, rfl, mem2 ⟨_, rfl, i1⟩ ⟨_, rfl, i2⟩, fun H3 v3 s3 hc => ?_⟩
    replace hc : IM H3 v3 (cutD cut0) := hc
    refine ⟨_, rfl, _, rfl, no_mem, fun H4 v4 s4 hv => ?_⟩
    have b4 := IM.same (s2.trans (s3.trans s4)) hb
    have c4 := IM.same s4 hc
    have vk : VOk cut0.lines.length d0 := fun _ _ => ⟨[0, 1, 1], rfl⟩
    refine ⟨v1, v3, v4, _, _, rfl, b4.dp, c4.dp, .inr ⟨2, ops0, rfl, okb0, .inr ⟨cut0, rfl, okc0, d0, hv.dp, vk, by decide, fun H5 s5 => ?_⟩⟩⟩
    rw [hold0]
    refine ⟨_, _, rfl, rfl, _, rfl, go_f rfl ⟨_, rfl, _, rfl, v1, v3, _, _, rfl, (IM.same s5 b4).dp, (IM.same s5 c4).dp, .inr ⟨2, ops0, rfl, okb0, .inr ⟨cut0, rfl, okc0, fun H6 v6 s6 t6 => ?_⟩⟩⟩⟩
    rw [most0, few0] at t6
    obtain ⟨a6, q6, rfl, e6, e6'⟩ := t6
    refine ⟨_, rfl, a6, _, _, _, rfl, rfl, SqT.of e6, atI_nat (j := 0) rfl, rfl, _, rfl, go_t rfl ⟨_, rfl, a6, _, _, _, rfl, rfl, SqT.of e6, atI_nat (j := 2) rfl, rfl, _, rfl, go_t rfl ?_⟩⟩
    have s16 := s4.trans (s5.trans s6)
    refine ⟨_, rfl, mem1 ⟨_, rfl, IM.same (s3.trans s16) i1⟩, fun H7 v7 s7 h7 => ?_⟩
    replace h7 : IM H7 v7 (cutD cut1) := h7
    have b7 := IM.same (s5.trans (s6.trans s7)) b4
    refine ⟨v1, v7, _, _, rfl, b7.dp, h7.dp, .inr ⟨2, ops0, rfl, okb0, .inr ⟨cut1, rfl, okc1, fun H8 v8 s8 t8 => ?_⟩⟩⟩
    rw [most1, few1.1, few1.2] at t8
    obtain ⟨a8, q8, rfl, e8, e8'⟩ := t8
    refine ⟨no_mem, fun H9 v9 s9 h9 => ?_⟩
    refine ⟨.tuple [.int 0, .tuple [], .none], _, .tup (SqT.of (s9 _ _ e8)) (.cons (.int 0) (.cons (.tup (SqT.of (s9 _ _ e8')) .nil) (.cons .non .nil))), h9.dp, rfl, rfl, ?_⟩
    exact k H9 (s1.trans (s2.trans ((s3.trans s16).trans (s7.trans (s8.trans s9)))))
end
end K74
/-! what the law asks of a told value. -/
namespace K74
open PySem L2 FX SQ
theorem most_n (c : Cut) (c0 : 0 < c.lines.length) : mostF (lastF c) ≤ c.lines.length ∧ 0 < mostF (lastF c) := by
  obtain ⟨i, il, e⟩ := some_most c c0
  have := ahead_len (lastF c) i i
  unfold standF at e
  rw [List.length_append] at e
  have e1 : ([i] : List Nat).length = 1 := rfl
  omega
theorem due_told (c : Cut) (t : Nat) (tl : t < c.lines.length) (ht : (standF (lastF c) t).length = mostF (lastF c)) : dueF c (.tuple [nD (mostF (lastF c)), rN (fewCs c), nD t]) = true := by
  have f1 := few_fit c
  have f2 := few_lt c
  have f3 := few_len c
  have f4 : (lawStand c t).length = mostF (lastF c) := by rw [← stand_same c t tl]; exact ht
  generalize mostF (lastF c) = m at *
  generalize fewCs c = cs at *
  unfold dueF
  have e1 : isTup 3 (.tuple [nD m, rN cs, nD t]) = true := rfl
  have e2 : isN (nD m) = true := by
    show (true && decide ((0 : Int) ≤ (m : Int))) = true
    rw [decide_eq_true (by omega)]
    rfl
  have e3 : isN (nD t) = true := by
    show (true && decide ((0 : Int) ≤ (t : Int))) = true
    rw [decide_eq_true (by omega)]
    rfl
  have e4 : (cs.map nD).all isN = true := by
    rw [List.all_map, List.all_eq_true]
    intro x hx
    show (true && decide ((0 : Int) ≤ (x : Int))) = true
    rw [decide_eq_true (by omega)]
    rfl
  have e5 : ((cs.map nD).all fun x => decide (intV x < intV (nD m))) = true := by
    rw [List.all_map, List.all_eq_true]
    intro x hx
    have := f2 x hx
    show decide ((x : Int) < (m : Int)) = true
    exact decide_eq_true (by omega)
  have ett : (intV (nD t)).toNat = t := by
    show ((t : Int)).toNat = t
    omega
  rw [e1]
  show (true && (true && ((isN (nD m) && ((cs.map nD).all isN && isN (nD t))) && ((decide ((cs.map nD).length = c.lines.length) && ((cs.map nD).all fun x => decide (intV x < intV (nD m)))) && (fitN c (natsD (rN cs)) c.lines.length &&
    (decide ((t : Int) < (c.lines.length : Nat)) && decide (((lawStand c (intV (nD t)).toNat).length : Int) = (m : Int)))))))) = true
  rw [e2, e3, e4, e5, natsD_r, f1, ett, List.length_map, decide_eq_true f3, decide_eq_true (show (t : Int) < (c.lines.length : Nat) by omega), decide_eq_true (show ((lawStand c t).length : Int) = (m : Int) by omega)]
  rfl
theorem cat_any {K : PySem.W.Frag} {H : Hp} {Q : VK} {a b : Addr} {xs ys : List V} (ha : SqT K H a xs) (hb : SqT K H b ys) (hl : xs.length + ys.length ≤ 1000) (k : ∀ H' c, Same H H' → SqT K H' c (xs ++ ys) → Q (.ref c) H') : rCatA K (.ref a) (.ref b) H Q :=
  ⟨a, b, xs, ys, rfl, rfl, ha, hb, by rw [sizeLine_eq]; omega, fun e => k H b (Same.refl H) (by rw [e]; exact hb), fun _ e => k H a (Same.refl H) (by rw [e, List.append_nil]; exact ha), fun _ _ p hp => k _ p (same_new hp) (SqT.of upd_same)⟩
theorem cutV_to (xs : List V) (i : Nat) : cutV xs none (some (i : Int)) = xs.take i := by
  unfold cutV
  rw [HT.sIx_none, HT.sIx_nat, List.drop_zero, Nat.sub_zero]
  by_cases h : i ≤ xs.length
  · rw [Nat.min_eq_left h]
  · rw [Nat.min_eq_right (by omega), List.take_length, List.take_of_length_le (by omega)]
/-- what may be asked of any value -/
def OkD (d : D) : Prop := VOk' d ∧ (items (it d 1)).length ≤ 20
theorem okD_3 {a b : D} {cs : List Nat} (l : cs.length ≤ 20) : OkD (.tuple [a, rN cs, b]) := ⟨fun _ _ => ⟨cs, rfl⟩, by
  show (cs.map nD).length ≤ 20
  rw [List.length_map]
  exact l⟩
theorem okD_l {a b : D} {cs : List Nat} (l : cs.length ≤ 20) : OkD (.tuple [a, .list (cs.map nD), b]) := ⟨fun _ h => (by cases h), by
  show (cs.map nD).length ≤ 20
  rw [List.length_map]
  exact l⟩
theorem okD_n {d : D} (h : isTup 3 d = false) (l : (items (it d 1)).length ≤ 20) : OkD d := ⟨fun h2 => absurd (h.symm.trans h2) Bool.false_ne_true, l⟩
theorem okD_c {d a b : D} {cs : List Nat} (h : isTup 3 d = false) (e : items d = [a, rN cs] ∨ items d = [a, rN cs, b] ∨ items d = [a, rN cs, b, .int 0]) (l : cs.length ≤ 20) : OkD d := ⟨fun h2 => absurd (h.symm.trans h2) Bool.false_ne_true, by
  have : it d 1 = rN cs := by
    unfold it
    rcases e with e | e | e <;> rw [e] <;> rfl
  rw [this]
  show (cs.map nD).length ≤ 20
  rw [List.length_map]
  exact l⟩
theorem vok_of {n : Nat} {d : D} (h : VOk' d) : VOk n d := fun h3 ht => h h3 (by
  unfold isTup at ht
  rw [Bool.and_eq_true] at ht
  exact ht.1)
theorem max_is {ns : List Nat} {m : Nat} {z : Int} (hm : m ∈ ns) (hx : ∀ y ∈ ns, y ≤ m) (h1 : z ∈ ns.map fun x : Nat => (x : Int)) (h2 : ∀ y, y ∈ ns.map (fun x : Nat => (x : Int)) → y ≤ z) : z = (m : Int) := by
  obtain ⟨a, ha, rfl⟩ := List.mem_map.mp h1
  have h3 := hx a ha
  have h4 := h2 (m : Int) (List.mem_map.mpr ⟨m, hm, rfl⟩)
  show (a : Int) = (m : Int)
  have h4 : (m : Int) ≤ (a : Int) := h4
  omega
theorem dec_nV (a b : Nat) : decide (nV a = nV b) = decide (a = b) := by
  by_cases h : a = b
  · rw [decide_eq_true h, decide_eq_true (congrArg nV h)]
  · rw [decide_eq_false h, decide_eq_false fun z => h (by have := V.int.inj z; omega)]
end K74
/-! the law. -/
namespace K74
open PySem L2 FX SQ
abbrev sLaw : Stmt := top 46
abbrev NLaw : List Str := ["script", "deal", "book", "cut", "told", "stands", "cells", "at", "cell", "turned", "many", "moment", "some", "value", "held", "odd", "word", "one"]
theorem scLaw : FnScope NLaw ["script"] (defScope sLaw) := ⟨rfl, rfl, rfl, by decide +kernel, rfl, by decide +kernel, by decide +kernel⟩
section
variable {P : Program} {w : World} {K : PySem.W.Frag} {mg : Str → Option Value} {base : Heap} {B cB iB cC iC : Addr}
structure Gs (K : PySem.W.Frag) (mg : Str → Option Value) (P : Program) (w : World) (base : Heap) (cB cC : Addr) (fF fH fD fA fO fR fS fT fU fW fY fB fC : Addr) (dF dH dD dA dO dR dS dT dU dW dY dB dC : FuncData) : Prop where
  few : At K mg "fewest_cells" sFew fF dF ["book", "cut"]
  gFew : FnOk P w K mg base (L2.CX P w) 8 fF dF ["book", "cut"] (spFew K cB cC)
  hold : At K mg "fewest_hold" sHold fH dH ["book", "cut", "value"]
  gHold : FnOk P w K mg base (L2.CX P w) 8 fH dH ["book", "cut", "value"] (spHold K cB cC)
  draw : At K mg "_law_draw" sDraw fD dD ["script", "salt"]
  gDraw : FnOk P w K mg base CX0 1 fD dD ["script", "salt"] (spDraw K)
  any : At K mg "_law_any" sAny fA dA ["deal", "bound"]
  gAny : FnOk P w K mg base CX0 1 fA dA ["deal", "bound"] spAny
  of : At K mg "_law_of" sOf fO dO ["deal", "some"]
  gOf : FnOk P w K mg base CX0 2 fO dO ["deal", "some"] (spOf K)
  due : At K mg "_law_due" sDue fR dR ["cut", "value"]
  gDue : FnOk P w K mg base CX0 3 fR dR ["cut", "value"] (spDue K)
  ls : At K mg "_law_stands" sLS fS dS ["cut", "at"]
  gLs : FnOk P w K mg base CX0 1 fS dS ["cut", "at"] (spLS K)
  fit : At K mg "_law_fit" sFit fT dT ["cut", "cells"]
  gFit : FnOk P w K mg base CX0 2 fT dT ["cut", "cells"] (spFit K)
  ways : At K mg "_law_ways" sLW fU dU ["many", "cells"]
  gWays : FnOk P w K mg base CX0 1 fU dU ["many", "cells"] spLW
  tried : At K mg "_law_tried" sTried fW dW ["word", "values"]
  gTried : FnOk P w K mg base CX0 9 fW dW ["word", "values"] (spTried K)
  anc : At K mg "_law_anchor" sAnc fY dY []
  gAnc : FnOk P w K mg base CX0 9 fY dY [] spAnc
  bk : At K mg "_law_book" sBk fB dB ["deal", "most"]
  gBk : FnOk P w K mg base CX0 3 fB dB ["deal", "most"] spBk
  cut : At K mg "_law_cut" sCut fC dC ["deal", "book", "most", "whole"]
  gCut : FnOk P w K mg base CX0 3 fC dC ["deal", "book", "most", "whole"] spCut
def spLaw (K : PySem.W.Frag) : Sp := fun vs H Q _ => ∃ (a : Addr) (ns : List Int), vs = [.ref a] ∧ SqL K H a (ns.map V.int) ∧ ∀ H', Q (.bl true) H'
theorem ok_law {f : Addr} {fd : FuncData} {fF fH fD fA fO fR fS fT fU fW fY fB fC : Addr} {dF dH dD dA dO dR dS dT dU dW dY dB dC : FuncData} (F : Fun K "law" "law" sLaw f fd) (Z : Bi mg) (G : Gs K mg P w base cB cC fF fH fD fA fO fR fS fT fU fW fY fB fC dF dH dD dA dO dR dS dT dU dW dY dB dC) :
    FnOk P w K mg base CX0 10 f fd ["script"] (spLaw K) := by
  refine F.ok scLaw (fun vs H Q E h => ?_) (fun cdv A outer sh H vs Q E hr h => ?_)
  · obtain ⟨a, ns, rfl, _⟩ := h
    rfl
  · obtain ⟨a, ns, rfl, hS, k⟩ := h
    have hr8 := hr.units
    refine ⟨_, pss_cons (ps_set (i := 1) scLaw.nd rfl (Or.inl rfl) (pe_call G.gDraw (hr.mono (by decide)) rfl G.draw.g G.draw.F.kp G.draw.b .nil pass0 (by exact (pa_cons (pv 0) (pa_cons pe_int pa_nil)))))
      (pss_cons (ps_if (pt_not (pt_val (pe_call0 G.gAnc (hr.mono (by decide)) (by rfl) G.anc.g G.anc.F.kp G.anc.b .nil pass0))) (pss_one (ps_ret pe_bl)) pss_nil)
      (pss_cons (ps_set (i := 2) scLaw.nd rfl (Or.inl rfl) (pe_call G.gBk (hr.mono (by decide)) rfl G.bk.g G.bk.F.kp G.bk.b .nil pass0 (by exact (pa_cons (pv 1) (pa_cons pe_int pa_nil)))))
      (pss_cons (ps_set (i := 3) scLaw.nd rfl (Or.inr rfl) (pe_call G.gCut (hr.mono (by decide)) rfl G.cut.g G.cut.F.kp G.cut.b .nil pass0 (by exact (pa_cons (pv 1) (pa_cons (pv 2) (pa_cons pe_int (pa_cons pe_bl pa_nil)))))))
      (pss_cons (ps_asg (pe_tup (by exact (pa_cons (pe_call G.gFew (hr.mono (by decide)) rfl G.few.g G.few.F.kp G.few.b .nil (pass_never rfl rfl) (by exact (pa_cons (pv 2) (pa_cons (pv 3) pa_nil))))
          (pa_cons (pe_lc (own := [("at", 7)]) (g := gName 7) (tt := tYes) (te := tCB (rLenS K) (tCons (tCall (spLS K) [] E0 (tCons (tVar 3) (tCons (tVar 7) tNil))) tNil)) rfl scLaw.nd (pi_range1 (by rfl) Z.range (pa_cons (pe_callB call_len_seq (by rfl) Z.len PySem.boot_len (pa_cons (pe_ix ix_tup (pv 3) pe_int (fun _ _ => rfl)) pa_nil)) pa_nil))
            (blkOk_by (N := NLaw) (sc := defScope sLaw) (by decide +kernel)) (fun _ _ _ _ _ => pg_name (i := 7) scLaw.nd rfl (Or.inl rfl)) (fun _ _ _ _ _ => pts_nil)
            (fun _ _ _ _ _ => pe_callB call_len_seq (by rfl) Z.len PySem.boot_len (pa_cons (pe_call G.gLs (hr.mono (by decide)) (by rfl) G.ls.g G.ls.F.kp G.ls.b .nil pass0 (by exact (pa_cons (pv 3) (pa_cons (pv 7) pa_nil)))) pa_nil))) pa_nil))))
          (pg_tup rfl (pgs_cons (pg_name (i := 4) scLaw.nd rfl (Or.inr rfl)) (pgs_cons (pg_name (i := 5) scLaw.nd rfl (Or.inl rfl)) pgs_nil))))
      (pss_cons (ps_if (PW.pt (pw_or (pt_not (pt_val (pe_call G.gDue (hr.mono (by decide)) rfl G.due.g G.due.F.kp G.due.b .nil pass0 (by exact (pa_cons (pv 3) (pa_cons (pv 4) pa_nil))))))
          (pw_or (pt_cmpR op_ne (pe_ix ix_tup (pv 4) pe_int (fun _ _ => rfl)) (pe_callB (cr_max rfl) (by rfl) Z.max (by decide +kernel) (pa_cons (pv 5) pa_nil)) (nomark _))
          (pw_or1 (pt_cmpR op_ne (pe_ix ix_tup (pv 4) pe_int (fun _ _ => rfl)) (pe_bm PySem.F.plainAttrs_list PySem.F.slot_list_index PySem.F.type_list_index mt_index (pv 5) (pa_cons (pe_callB (cr_max rfl) (by rfl) Z.max (by decide +kernel) (pa_cons (pv 5) pa_nil)) pa_nil)) (nomark _))))))
          (pss_one (ps_ret pe_bl)) pss_nil)
      (C8.pss_cut (ps_if (pt_cmpR op_lt (pe_callB call_len_seq (by rfl) Z.len PySem.boot_len (pa_cons (pe_ix ix_tup (pv 3) pe_int (fun _ _ => rfl)) pa_nil)) pe_int (nomark _))
          (pss_one (ps_for PassesOwn.never rfl (pi_list (pe_call G.gWays (hr.mono (by decide)) rfl G.ways.g G.ways.F.kp G.ways.b .nil pass0 (by exact (pa_cons (pe_callB call_len_seq (by rfl) Z.len PySem.boot_len (pa_cons (pe_ix ix_tup (pv 3) pe_int (fun _ _ => rfl)) pa_nil)) (pa_cons (pe_op op_sub (pe_ix ix_tup (pv 4) pe_int (fun _ _ => rfl)) pe_int) pa_nil))))) (pg_name (i := 6) scLaw.nd rfl (Or.inl rfl))
            (pss_one (ps_if (pt_val (pe_call G.gFit (hr.mono (by decide)) rfl G.fit.g G.fit.F.kp G.fit.b .nil pass0 (by exact (pa_cons (pv 3) (pa_cons (pv 6) pa_nil))))) (pss_one (ps_ret pe_bl)) pss_nil)))) pss_nil)
      (pss_cons (ps_par rfl scLaw.nd (i := 7) (j := 8) rfl rfl (by decide) rfl rfl (by exact (pa_cons (pe_call G.gAny (hr.mono (by decide)) rfl G.any.g G.any.F.kp G.any.b .nil pass0 (by exact (pa_cons (pv 1) (pa_cons (pe_callB call_len_seq (by rfl) Z.len PySem.boot_len (pa_cons (pe_ix ix_tup (pv 3) pe_int (fun _ _ => rfl)) pa_nil)) pa_nil))))
          (pa_cons (pe_call G.gAny (hr.mono (by decide)) rfl G.any.g G.any.F.kp G.any.b .nil pass0 (by exact (pa_cons (pv 1) (pa_cons (pe_op op_add (pe_ix ix_tup (pv 4) pe_int (fun _ _ => rfl)) pe_int) pa_nil)))) pa_nil))) rfl)
      (pss_cons (ps_set (i := 9) scLaw.nd rfl (Or.inl rfl) (pe_tupleOf (by rfl) Z.tuple (pe_lc (own := [("one", 17)]) (g := gName 17) (tt := tYes) (te := tOp (rI0 fun i j => .int (i - j)) (tOp (rI0 fun i j => .int (i - j)) (tOp (rIxT K) (tVar 4) (tC (.int 0))) (tC (.int 1))) (tVar 17)) rfl scLaw.nd (pi_tup (pe_ix ix_tup (pv 4) pe_int (fun _ _ => rfl)))
            (blkOk_by (N := NLaw) (sc := defScope sLaw) (by decide +kernel)) (fun _ _ _ _ _ => pg_name (i := 17) scLaw.nd rfl (Or.inl rfl)) (fun _ _ _ _ _ => pts_nil) (fun _ _ _ _ _ => pe_op op_sub (pe_op op_sub (pe_ix ix_tup (pv 4) pe_int (fun _ _ => rfl)) pe_int) (pv 17)))))
      (pss_cons (ps_asg (pv 4) (pg_tup rfl (pgs_cons (pg_name (i := 10) scLaw.nd rfl (Or.inl rfl)) (pgs_cons (pg_name (i := 6) scLaw.nd rfl (Or.inl rfl)) (pgs_cons (pg_name (i := 11) scLaw.nd rfl (Or.inl rfl)) pgs_nil)))))
      (pss_cons (ps_set (i := 12) scLaw.nd rfl (Or.inl rfl) (pe_lst (by exact (pa_cons (pv 4) (pa_cons (pe_callTy call_list_of (by rfl) Z.list (by decide +kernel) (pa_cons (pv 4) pa_nil)) (pa_cons (pe_tup (by exact (pa_cons (pv 10) (pa_cons (pv 9) (pa_cons (pv 11) pa_nil)))))
          (pa_cons (pe_tup (by exact (pa_cons (pe_op op_add (pv 10) pe_int) (pa_cons (pv 6) (pa_cons (pv 11) pa_nil))))) (pa_cons (pe_slice sl_tupA (pv 4) po_none (po_some pe_int)) (pa_cons (pe_op op_catA (pv 4) (pe_tup (by exact (pa_cons pe_int pa_nil)))) (pa_cons pe_non (pa_cons (pe_tup pa_nil) pa_nil)))))))))))
      (pss_cons (ps_set (i := 12) scLaw.nd rfl (Or.inl rfl) (pe_op op_cat (pv 12) (pe_lst (by exact (pa_cons (pe_tup (by exact (pa_cons (pv 10) (pa_cons (pe_op op_catA (pe_op op_catA (pe_slice sl_tupA (pv 6) po_none (po_some (pv 7))) (pe_tup (by exact (pa_cons (pv 8) pa_nil)))) (pe_slice sl_tupA (pv 6) (po_some (pe_op op_add (pv 7) pe_int)) po_none)) (pa_cons (pv 11) pa_nil)))))
          (pa_cons (pe_tup (by exact (pa_cons (pv 10) (pa_cons (pv 6) (pa_cons (pv 7) pa_nil))))) (pa_cons (pe_tup (by exact (pa_cons (pv 10) (pa_cons (pe_callTy call_list_of (by rfl) Z.list (by decide +kernel) (pa_cons (pv 6) pa_nil)) (pa_cons pe_int pa_nil))))) pa_nil)))))))
      (pss_cons (ps_set (i := 12) scLaw.nd rfl (Or.inl rfl) (pe_op op_cat (pv 12) (pe_lst (by exact (pa_cons (pe_tup (by exact (pa_cons (pv 10) (pa_cons (pv 6) (pa_cons pe_non pa_nil)))))
          (pa_cons (pe_tup (by exact (pa_cons (pv 10) (pa_cons (pe_slice sl_tupA (pv 6) (po_some pe_int) po_none) (pa_cons (pv 11) pa_nil))))) (pa_cons (pe_tup (by exact (pa_cons pe_bl (pa_cons (pv 6) (pa_cons (pv 11) pa_nil))))) (pa_cons (pe_tup (by exact (pa_cons (pv 10) (pa_cons (pv 6) (pa_cons pe_int pa_nil))))) pa_nil))))))))
      (pss_cons (ps_for PassesOwn.never rfl (pi_list (pv 12)) (pg_name (i := 13) scLaw.nd rfl (Or.inl rfl))
          (pss_cons (ps_set (i := 14) scLaw.nd rfl (Or.inl rfl) (pe_call G.gHold (hr.mono (by decide)) rfl G.hold.g G.hold.F.kp G.hold.b .nil (pass_never rfl rfl) (by exact (pa_cons (pv 2) (pa_cons (pv 3) (pa_cons (pv 13) pa_nil))))))
          (pss_one (ps_if (PW.pt (pw_or (pt_not (pt_val (pe_callB call_isi (by rfl) Z.isinstance (by decide +kernel) (pa_cons (pv 14) (pa_cons (pe_bltn (v := .ty "bool") (by rfl) Z.bool (by decide +kernel) rfl) pa_nil)))))
            (pw_or1 (pt_cmpR op_ne (pv 14) (pe_call G.gDue (hr.mono (by decide)) rfl G.due.g G.due.F.kp G.due.b .nil pass0 (by exact (pa_cons (pv 3) (pa_cons (pv 13) pa_nil)))) (nomark _))))) (pss_one (ps_ret pe_bl)) pss_nil))))
      (pss_cons (ps_set (i := 15) scLaw.nd rfl (Or.inl rfl) (pe_call G.gOf (hr.mono (by decide)) rfl G.of.g G.of.F.kp G.of.b .nil pass0 (by exact (pa_cons (pv 1) (pa_cons (pe_lst (by exact (pa_cons pe_non (pa_cons pe_int (pa_cons pe_str (pa_cons pe_bl pa_nil)))))) pa_nil)))))
      (pss_cons (ps_for PassesOwn.never rfl (pi_list (pe_lst (by exact (pa_cons pe_str (pa_cons pe_str pa_nil))))) (pg_name (i := 16) scLaw.nd rfl (Or.inl rfl))
          (pss_one (ps_if (PW.pt (pw_or (pt_cmpR (op_neD hr8) (pe_call G.gTried (hr.mono (by decide)) rfl G.tried.g G.tried.F.kp G.tried.b .nil pass0 (by exact (pa_cons (pv 16) (pa_cons (pe_tup (by exact (pa_cons (pv 15) (pa_cons pe_non pa_nil)))) pa_nil)))) (pe_tup (by exact (pa_cons pe_str (pa_cons (pe_un un_neg pe_int) pa_nil)))) (nomark _))
            (pw_or1 (pt_cmpR (op_neD hr8) (pe_call G.gTried (hr.mono (by decide)) rfl G.tried.g G.tried.F.kp G.tried.b .nil pass0 (by exact (pa_cons (pv 16) (pa_cons (pe_tup (by exact (pa_cons (pv 2) (pa_cons (pv 15) pa_nil)))) pa_nil)))) (pe_tup (by exact (pa_cons pe_str (pa_cons (pe_un un_neg pe_int) pa_nil)))) (nomark _))))) (pss_one (ps_ret pe_bl)) pss_nil)))
      (pss_one (ps_ret (pe_cmpR (op_eqD hr8) (pe_call G.gTried (hr.mono (by decide)) rfl G.tried.g G.tried.F.kp G.tried.b .nil pass0 (by exact (pa_cons pe_str (pa_cons (pe_tup (by exact (pa_cons (pv 2) (pa_cons (pe_op op_catA (pe_slice sl_tupA (pv 3) po_none (po_some pe_int)) (pe_tup (by exact (pa_cons (pv 15) pa_nil)))) pa_nil)))) pa_nil)))) (pe_tup (by exact (pa_cons pe_str (pa_cons pe_int pa_nil)))) (nomark _))))))))))))))))))), ?_⟩
    refine ⟨_, rfl, a, 74, ns, rfl, hS, by decide, fun H1 p l s1 np nl dl => ?_⟩
    refine ⟨rfl, fun H2 s2 => ⟨_, rfl, go_f rfl ?_⟩⟩
    refine ⟨_, rfl, p, l, rfl, dl.same s2, fun H3 v2 s ops b3 d3 hb okb s4 o0 => ?_⟩
    refine ⟨_, rfl, _, rfl, p, l, v2, s, ops, rfl, d3, hb, okb, s4, o0, fun H4 v3 c b4 d4 hc okc c0 c7 => ?_⟩
    replace hb := IM.but d3 b4 hb
    refine ⟨_, rfl, _, rfl, v2, v3, _, _, rfl, hb.dp, hc.dp, .inr ⟨s, ops, rfl, okb, .inr ⟨c, rfl, okc, fun H5 v4 s5 t5 => ?_⟩⟩⟩
    obtain ⟨tm, tl, emom, est, hno⟩ := mom_first c c0
    obtain ⟨mn, m0⟩ := most_n c c0
    have hdue := due_told c tm tl est
    have lcs := few_len c
    have clt := few_lt c
    have hle : ∀ y ∈ manyF (lastF c) c.lines.length, y ≤ mostF (lastF c) := fun y hy => by
      obtain ⟨i, hi, rfl⟩ := List.mem_map.mp hy
      exact stand_le (by rw [lastF_len]; exact List.mem_range.mp hi)
    have hin : mostF (lastF c) ∈ manyF (lastF c) c.lines.length := List.mem_map.mpr ⟨tm, List.mem_range.mpr tl, est⟩
    have hways := fun (r : List Nat) (h : r ∈ rowsN (mostF (lastF c) - 1) c.lines.length) => none_less c0 h
    obtain ⟨a4, ac, rfl, e4, ec⟩ := t5
    rw [emom] at e4
    replace ht : IM H5 (.ref a4) (.tuple [nD (mostF (lastF c)), rN (fewCs c), nD tm]) := .tup e4 (.cons (.int _) (.cons (.tup ec (IMs.nats _)) (.cons (.int _) .nil)))
    generalize mostF (lastF c) = m at *
    generalize fewCs c = cs at *
    obtain ⟨av, w1, w2, w3, rfl, ev, g1, g2, g3⟩ := im3 hc
    obtain ⟨al, xl, rfl, el, il⟩ := at_of g2
    have lx : xl.length = c.lines.length := by rw [il.len, List.length_map]
    refine ⟨_, rfl, av, _, _, _, rfl, rfl, SqT.of (s5 _ _ ev), atI_nat (j := 1) rfl, al, xl, rfl, .inr (SqT.of (s5 _ _ el)), ((c.lines.length : Nat) : Int), (by rw [lx]), by omega, by omega, ?_⟩
    rw [Int.toNat_natCast]
    refine fun D hD => walk_it walk_range (fun i H' => Same H5 H' ∧ H' D = some (.lst ((List.range i).map fun k => nV (standF (lastF c) k).length))) ⟨same_new hD, upd_same⟩ (fun _ _ _ _ => trivial) ?_ ?_
    · rintro i x _ H6 hi ⟨s6, eD⟩ ⟨rfl, hx⟩
      obtain rfl : x = nV i := hx.trans (congrArg V.int (Int.zero_add _))
      refine ⟨rfl, _, rfl, _, rfl, s, ops, _, c, i, rfl, (IM.same (s5.trans s6) hc).dp, okc, hi, fun H7 q s7 hq eq => ⟨q, _, rfl, .inl (SqL.of eq), _, s7 _ _ eD, ?_, same_of (s6.trans s7) hD, ?_⟩⟩
      · rw [List.length_map, List.length_range, sizeLine_eq]
        omega
      · rw [upd_same, List.length_map, ← stand_same c i hi, List.range_succ, List.map_append]
        rfl
    rintro H6 ⟨s6, eD⟩
    refine ⟨(by show 2 ≤ sizeLine; decide), fun t htn => ⟨t, _, rfl, SqT.of upd_same, rfl, _, _, rfl, _, _, rfl, rfl, ?_⟩⟩
    have s7 := same_new (o := .tup [V.ref a4, .ref D]) htn
    replace eD := s7 _ _ eD
    have s57 := s6.trans s7
    have ht7 := IM.same s57 ht
    replace hb := IM.same (s5.trans s57) hb
    replace hc := IM.same (s5.trans s57) hc
    have d7 := (d4.same s5).same s57
    replace ev := s57 _ _ (s5 _ _ ev)
    replace el := s57 _ _ (s5 _ _ el)
    replace e4 := s57 _ _ e4
    replace ec := s57 _ _ ec
    generalize upd H6 t (.tup [V.ref a4, .ref D]) = H7 at eD ht7 hb hc d7 ev el e4 ec ⊢
    clear s7 s57 s6 htn g1 g2 g3 il ht s5 d4 b4 d3 b3 s2 dl np nl s1 hD
    have l20 : cs.length ≤ 20 := by omega
    have hns : (List.range c.lines.length).map (fun k => nV (standF (lastF c) k).length) = (manyF (lastF c) c.lines.length).map nV := by
      unfold manyF
      rw [List.map_map]
      rfl
    rw [hns] at eD
    have eDi : H7 D = some (.lst (((manyF (lastF c) c.lines.length).map fun x : Nat => (x : Int)).map V.int)) := by rw [eD, map_nV]
    have lm : (manyF (lastF c) c.lines.length).length = c.lines.length := by
      unfold manyF
      rw [List.length_map, List.length_range]
    refine ⟨_, rfl, _, rfl, s, ops, _, _, c, _, rfl, hc.dp, okc, c0, ht7.dp, (okD_3 l20).1, (okD_3 (a := nD m) (b := nD tm) l20).2, fun H8 s8 => ⟨_, rfl, ?_⟩⟩
    rw [hdue]
    refine go_f rfl ⟨_, rfl, a4, _, _, _, rfl, rfl, SqT.of (s8 _ _ e4), atI_nat (j := 0) rfl, _, rfl, D, _, rfl, SqL.of (s8 _ _ eDi), by rw [List.length_map, lm]; exact c0, fun z hz hmax => ⟨rfl, _, rfl, ?_⟩⟩
    obtain rfl := max_is hin hle hz hmax
    refine go_f (by rw [decide_eq_true rfl]; rfl) ?_
    refine ⟨_, rfl, a4, _, _, _, rfl, rfl, SqT.of (s8 _ _ e4), atI_nat (j := 2) rfl, _, rfl, .inl ⟨rfl, _, SqL.of (s8 _ _ eD)⟩, _, rfl, D, _, rfl, SqL.of (s8 _ _ eDi), by rw [List.length_map, lm]; exact c0, fun z hz2 hmax2 => ?_⟩
    obtain rfl := max_is hin hle hz2 hmax2
    have gm : ∀ j, j < c.lines.length → ((manyF (lastF c) c.lines.length).map nV)[j]? = some (nV (standF (lastF c) j).length) := fun j hj => by
      unfold manyF
      rw [List.map_map, List.getElem?_map, List.getElem?_range hj]
      rfl
    refine ⟨D, _, _, tm, _, rfl, rfl, SqL.of (s8 _ _ eD), rfl, flat_n _, gm tm tl, ?_, fun j z hj hz => ?_, rfl, _, rfl, go_f (by rw [decide_eq_true rfl]; rfl) ?_⟩
    · rw [est]
      exact beq_self_eq_true (m : Int)
    · rw [gm j (by omega)] at hz
      obtain rfl := (Option.some.inj hz).symm
      have := hno j hj
      show (((standF (lastF c) j).length : Int) == (m : Int)) = false
      exact beq_eq_false_iff_ne.mpr (by omega)
    -- all ways with one cell less
    refine ⟨fun σ' H' => ∃ u6 : Option V, σ' = [some (.ref a), some (.ref p), some v2, some (.ref av), some (.ref a4), some (.ref D), u6, none, none, none, none, none, none, none, none, none, none, none] ∧ Same H8 H', ?_, ?_⟩
    · refine ⟨_, rfl, av, _, _, _, rfl, rfl, SqT.of (s8 _ _ ev), atI_nat (j := 1) rfl, al, xl, rfl, .inr (SqT.of (s8 _ _ el)), _, _, rfl, rfl, _, rfl, ?_⟩
      by_cases c5 : c.lines.length < 6
      case neg => exact go_f (decide_eq_false (by omega)) ⟨_, rfl, Same.refl H8⟩
      refine go_t (decide_eq_true (by omega)) ?_
      refine ⟨_, rfl, av, _, _, _, rfl, rfl, SqT.of (s8 _ _ ev), atI_nat (j := 1) rfl, al, xl, rfl, .inr (SqT.of (s8 _ _ el)), _, rfl, a4, _, _, _, rfl, rfl, SqT.of (s8 _ _ e4), atI_nat (j := 0) rfl, _, _, rfl, rfl, m - 1, c.lines.length, ?_, by omega, by omega, ?_, fun H9 v6 s9 l9 => ?_⟩
      · rw [lx]
        show [V.int (c.lines.length : Nat), V.int ((m : Int) - 1)] = _
        rw [show ((m : Int) - 1) = ((m - 1 : Nat) : Int) by omega]
      · exact Nat.le_trans (Nat.pow_le_pow_left (show m - 1 ≤ 4 by omega) _) (Nat.le_trans (Nat.pow_le_pow_right (by decide) (show c.lines.length ≤ 5 by omega)) (by decide))
      obtain ⟨a6, x6, rfl, e6, t6⟩ := l9
      refine ⟨a6, rfl, ⟨_, SqL.of e6⟩, for_list (K := K) (a := a6) (xs := x6) (fun i σ H' => ∃ u6 : Option V, σ = [some (.ref a), some (.ref p), some v2, some (.ref av), some (.ref a4), some (.ref D), u6, none, none, none, none, none, none, none, none, none, none, none] ∧ Same H9 H') ⟨_, rfl, Same.refl H9⟩ (fun i σ H' _ ⟨_, _, s⟩ => SqL.of (s _ _ e6)) ?_ ?_⟩
      · rintro i x σ H10 hi ⟨u6, rfl, s10⟩
        obtain ⟨r, hr', tx⟩ := (t6.same s10).at hi
        have hrm := List.mem_of_getElem? hr'
        obtain ⟨ar, rfl, er⟩ := tx
        refine ⟨_, rfl, _, rfl, s, ops, _, c, ar, r, rfl, (IM.same (s8.trans (s9.trans s10)) hc).dp, okc, SqT.of er, (rowsN_mem hrm).1, fun H11 s11 => ⟨_, rfl, ?_⟩⟩
        rw [hways r hrm]
        exact go_f rfl ⟨_, rfl, s10.trans s11⟩
      · rintro σ H10 ⟨u6, rfl, s10⟩
        exact ⟨u6, rfl, s9.trans s10⟩
    rintro _ H9 ⟨u6, rfl, s9⟩
    have s79 := s8.trans s9
    replace hb := IM.same s79 hb
    replace hc := IM.same s79 hc
    replace ht7 := IM.same s79 ht7
    replace d7 := d7.same s79
    clear eD eDi hns hways hin hle gm lm hno s8 s9 s79 e4 ec ev el
    clear emom est hdue tl s4
    obtain ⟨av', w1', w2', w3', rav, ev, g1, g2, g3⟩ := im3 hc
    cases rav
    obtain ⟨al', xl', ral, el, il⟩ := at_of g2
    obtain rfl := ral
    have lx : xl'.length = c.lines.length := by rw [il.len, List.length_map]
    obtain ⟨a4', y0, y1, y2, ra4, e4, i0, i1, i2⟩ := im3 ht7
    cases ra4
    obtain rfl : y0 = nV m := by cases i0; rfl
    obtain rfl : y2 = nV tm := by cases i2; rfl
    obtain ⟨ac', xc, rac, ec, ic⟩ := at_of i1
    obtain rfl := rac
    obtain rfl : xc = cs.map nV := dpAll_nat (ic.dp (K := K))
    refine ⟨_, rfl, _, rfl, av, _, _, _, rfl, rfl, SqT.of ev, atI_nat (j := 1) rfl, al', xl', rfl, .inr (SqT.of el), p, l, xl'.length, rfl, by omega, by omega, d7, fun H10 ati b10 d10 hat => ?_⟩
    have e410 := (d7.nlst e4 (fun _ z => nomatch z))
    refine ⟨_, rfl, _, rfl, a4, _, _, _, rfl, rfl, SqT.of (b10 _ _ e4 e410.1 e410.2), atI_nat (j := 0) rfl, _, _, rfl, rfl, p, l, m + 1, rfl, by omega, by omega, d10, fun H11 cell b11 d11 hcell => ⟨_, _, rfl, ?_⟩⟩
    have b := b10.trans b11
    replace hb := IM.but d7 b hb
    replace hc := IM.but d7 b hc
    replace ht7 := IM.but d7 b ht7
    replace i1 := IM.but d7 b i1
    replace e4 := b _ _ e4 e410.1 e410.2
    have ecn := (d7.nlst ec (fun _ z => nomatch z))
    replace ec := b _ _ ec ecn.1 ecn.2
    clear e410 ecn b b10 b11 d10 d7 el ev i0 i2 g1 g2 g3 il ic
    rw [lx] at hat
    clear lx
    -- turned
    refine ⟨_, rfl, a4, _, _, _, rfl, rfl, SqT.of e4, atI_nat (j := 1) rfl, ac', rfl, ⟨_, SqT.of ec⟩, fun D2 hD2 => walk_it (walk_tup (K := K) (a := ac') (xs := cs.map nV)) (fun i H' => Same H11 H' ∧ H' D2 = some (.lst ((cs.take i).map fun x => nV (m - 1 - x)))) ⟨same_new hD2, upd_same⟩ (fun i H' _ p => SqT.of (p.1 _ _ ec)) ?_ ?_⟩
    · rintro i x _ H12 hi ⟨s12, eD⟩ ⟨rfl, hx⟩
      rw [List.getElem?_map] at hx
      obtain ⟨y, hy, rfl⟩ := Option.map_eq_some_iff.mp hx
      have ym := clt y (List.mem_of_getElem? hy)
      refine ⟨rfl, _, rfl, a4, _, _, _, rfl, rfl, SqT.of (s12 _ _ e4), atI_nat (j := 0) rfl, _, _, rfl, rfl, _, rfl, _, _, rfl, rfl, _, eD, ?_, same_of s12 hD2, ?_⟩
      · rw [List.length_map, List.length_take, sizeLine_eq]
        omega
      · rw [upd_same, take_more hy, List.map_append]
        show some (HO.lst (_ ++ [V.int ((m : Int) - 1 - (y : Int))])) = _
        rw [show ((m : Int) - 1 - (y : Int)) = ((m - 1 - y : Nat) : Int) by omega]
        rfl
    rintro H12 ⟨s12, eD⟩
    rw [List.length_map, List.take_length] at eD
    have eD : H12 D2 = some (.lst ((cs.map fun x => m - 1 - x).map nV)) := by
      rw [eD, List.map_map]
      rfl
    refine .inl ⟨D2, _, rfl, SqL.of eD, fun q9 hq9 => ?_⟩
    have s13 := s12.trans (same_new (o := .tup ((cs.map fun x => m - 1 - x).map nV)) hq9)
    have e9 := upd_same (H := H12) (a := q9) (o := .tup ((cs.map fun x => m - 1 - x).map nV))
    replace hb := IM.same s13 hb
    replace hc := IM.same s13 hc
    replace ht7 := IM.same s13 ht7
    replace i1 := IM.same s13 i1
    replace e4 := s13 _ _ e4
    replace ec := s13 _ _ ec
    replace d11 := d11.same s13
    have ltu : (cs.map fun x => m - 1 - x).length ≤ 20 := by rw [List.length_map]; exact l20
    generalize (cs.map fun x => m - 1 - x) = tu at *
    generalize upd H12 q9 (.tup (tu.map nV)) = H13 at e9 hb hc ht7 i1 e4 ec d11 ⊢
    clear s13 s12 eD hq9 hD2
    -- many, cells, moment
    refine ⟨_, rfl, a4, _, rfl, SqT.of e4, rfl, _, _, rfl, _, _, rfl, _, _, rfl, rfl, ?_⟩
    -- some
    refine ⟨_, rfl, _, rfl, a4, _, rfl, .inr (SqT.of e4), fun l1 h1 => ?_⟩
    have z1 := same_new (o := .lst [nV m, .ref ac', nV tm]) h1
    have f1 := upd_same (H := H13) (a := l1) (o := .lst [nV m, .ref ac', nV tm])
    generalize upd H13 l1 (.lst [nV m, .ref ac', nV tm]) = J1 at z1 f1 ⊢
    refine ⟨_, rfl, _, rfl, _, rfl, (by show 3 ≤ sizeLine; decide), fun t1 h2 => ?_⟩
    have z2 := same_new (o := .tup [nV m, .ref q9, nV tm]) h2
    have f2 := upd_same (H := J1) (a := t1) (o := .tup [nV m, .ref q9, nV tm])
    generalize upd J1 t1 (.tup [nV m, .ref q9, nV tm]) = J2 at z2 f2 ⊢
    refine ⟨_, rfl, _, _, rfl, rfl, _, rfl, _, rfl, (by show 3 ≤ sizeLine; decide), fun t2 h3 => ?_⟩
    have z3 := same_new (o := .tup [V.int (m + 1), .ref ac', nV tm]) h3
    have f3 := upd_same (H := J2) (a := t2) (o := .tup [V.int (m + 1), .ref ac', nV tm])
    generalize upd J2 t2 (.tup [V.int (m + 1), .ref ac', nV tm]) = J3 at z3 f3 ⊢
    have z13 := z1.trans (z2.trans z3)
    refine ⟨_, rfl, ?_⟩
    dsimp only [tNoPart]
    refine ⟨_, rfl, ?_⟩
    refine sl_any (K := K) (SqT.of (z13 _ _ e4)) fun J4 t3 z4 f4 => ?_
    refine ⟨_, rfl, (by show 1 ≤ sizeLine; decide), fun t4 h5 => ?_⟩
    have z5 := same_new (o := .tup [V.int 0]) h5
    have f5 := upd_same (H := J4) (a := t4) (o := .tup [V.int 0])
    generalize upd J4 t4 (.tup [V.int 0]) = J5 at z5 f5 ⊢
    refine cat_any (K := K) (SqT.of ((z4.trans z5) _ _ (z13 _ _ e4))) (SqT.of f5) (by show 4 ≤ 1000; decide) fun J6 t5 z6 f6 => ?_
    refine ⟨(by show 0 ≤ sizeLine; decide), fun t6 h7 => ?_⟩
    have z7 := same_new (o := .tup []) h7
    have f7 := upd_same (H := J6) (a := t6) (o := .tup [])
    generalize upd J6 t6 (.tup []) = J7 at z7 f7 ⊢
    refine ⟨(by show 8 ≤ sizeLine; decide), fun L1 h8 => ?_⟩
    have z8 := same_new (o := .lst [V.ref a4, .ref l1, .ref t1, .ref t2, .ref t3, .ref t5, .non, .ref t6]) h8
    have f8 := upd_same (H := J7) (a := L1) (o := .lst [V.ref a4, .ref l1, .ref t1, .ref t2, .ref t3, .ref t5, .non, .ref t6])
    generalize upd J7 L1 (.lst [V.ref a4, .ref l1, .ref t1, .ref t2, .ref t3, .ref t5, .non, .ref t6]) = J8 at z8 f8 ⊢
    have y8 : Same J7 J8 := z8
    have y7 := z7.trans y8
    have y6 : Same J5 J8 := z6.trans y7
    have y5 := z5.trans y6
    have y4 : Same J3 J8 := z4.trans y5
    have y3 := z3.trans y4
    have y2 := z2.trans y3
    have y1 := z1.trans y2
    have ic8 : Dp K J8 (.ref ac') (rN cs) := (IM.same y1 i1).dp
    have all8 : DpAll K J8 [V.ref a4, .ref l1, .ref t1, .ref t2, .ref t3, .ref t5, .non, .ref t6] [.tuple [nD m, rN cs, nD tm], .list [nD m, rN cs, nD tm], .tuple [nD m, rN tu, nD tm], .tuple [.int (m + 1), rN cs, nD tm], .tuple [nD m, rN cs], .tuple [nD m, rN cs, nD tm, .int 0], .none, .tuple []] := by
      refine .cons (IM.same y1 ht7).dp (.cons (.lst (SqL.of (y2 _ _ f1)) (.cons (.int _) (.cons ic8 (.cons (.int _) .nil)))) (.cons (.tup (SqT.of (y3 _ _ f2)) (.cons (.int _) (.cons (.tup (SqT.of (y1 _ _ e9)) (dp_n tu)) (.cons (.int _) .nil))))
        (.cons (.tup (SqT.of (y4 _ _ f3)) (.cons (.int _) (.cons ic8 (.cons (.int _) .nil)))) (.cons (.tup (xs := [nV m, .ref ac']) (seqT y5 f4) (.cons (.int _) (.cons ic8 .nil))) (.cons (.tup (seqT y7 f6) (.cons (.int _) (.cons ic8 (.cons (.int _) (.cons (.int _) .nil))))) (.cons .non (.cons (.tup (SqT.of (y8 _ _ f7)) .nil) .nil)))))))
    have ok8 : ∀ d ∈ [.tuple [nD m, rN cs, nD tm], .list [nD m, rN cs, nD tm], .tuple [nD m, rN tu, nD tm], .tuple [.int (m + 1), rN cs, nD tm], .tuple [nD m, rN cs], .tuple [nD m, rN cs, nD tm, .int 0], .none, .tuple []], OkD d :=
      List.forall_mem_cons.mpr ⟨okD_3 l20, List.forall_mem_cons.mpr ⟨okD_c rfl (.inr (.inl rfl)) l20, List.forall_mem_cons.mpr ⟨okD_3 ltu, List.forall_mem_cons.mpr ⟨okD_3 l20, List.forall_mem_cons.mpr ⟨okD_c (b := .none) rfl (.inl rfl) l20, List.forall_mem_cons.mpr ⟨okD_c rfl (.inr (.inr rfl)) l20, List.forall_mem_cons.mpr ⟨okD_n rfl (by decide), mem1 (okD_n rfl (by decide))⟩⟩⟩⟩⟩⟩⟩
    replace hb := IM.same y1 hb
    replace hc := IM.same y1 hc
    replace i1 := IM.same y1 i1
    replace ec := y1 _ _ ec
    replace d11 := d11.same y1
    generalize hG8 : [PyData.tuple [nD m, rN cs, nD tm], .list [nD m, rN cs, nD tm], .tuple [nD m, rN tu, nD tm], .tuple [.int (m + 1), rN cs, nD tm], .tuple [nD m, rN cs], .tuple [nD m, rN cs, nD tm, .int 0], .none, .tuple []] = G8 at all8 ok8
    have lv8 : ([V.ref a4, .ref l1, .ref t1, .ref t2, .ref t3, .ref t5, .non, .ref t6] : List V).length = 8 := rfl
    generalize [V.ref a4, .ref l1, .ref t1, .ref t2, .ref t3, .ref t5, .non, .ref t6] = V8 at all8 f8 lv8
    clear y1 y2 y3 y4 y5 y6 y7 y8 z1 z2 z3 z13 z4 z5 z6 z7 z8 f1 f2 f3 f4 f5 f6 f7 h1 h2 h3 h5 h7 h8 hG8 ht7 e4 e9 ic8
    -- more
    refine ⟨_, rfl, _, rfl, _, rfl, ?_⟩
    dsimp only [tNoPart]
    refine ⟨_, rfl, _, rfl, ?_⟩
    refine sl_any (K := K) (SqT.of ec) fun J9 t1 z9 f9 => ?_
    rw [show (some (ati : Int)) = some ((ati : Nat) : Int) from rfl, cutV_to] at f9
    refine ⟨_, rfl, (by show 1 ≤ sizeLine; decide), fun t2 h1 => ?_⟩
    have z10 := same_new (o := .tup [nV cell]) h1
    have f10 := upd_same (H := J9) (a := t2) (o := .tup [nV cell])
    generalize upd J9 t2 (.tup [nV cell]) = J10 at z10 f10 ⊢
    have lt1 : ((cs.map nV).take ati).length ≤ 20 := by
      rw [List.length_take, List.length_map]
      omega
    refine cat_any (K := K) (seqT z10 f9) (SqT.of f10) (by show _ + 1 ≤ 1000; omega) fun J11 t3 z11 f11 => ?_
    refine ⟨_, rfl, _, rfl, _, _, rfl, rfl, _, rfl, ?_⟩
    dsimp only [tNoPart]
    have z911 := z9.trans (z10.trans z11)
    refine sl_any (K := K) (SqT.of (z911 _ _ ec)) fun J12 t4 z12 f12 => ?_
    rw [cutV_from] at f12
    refine cat_any (K := K) (seqT z12 f11) f12 (by rw [List.length_append, List.length_drop, List.length_map]; show _ + 1 + _ ≤ 1000; omega) fun J13 t5 z13 f13 => ?_
    refine ⟨_, rfl, (by show 3 ≤ sizeLine; decide), fun t6 h6 => ?_⟩
    have z14 := same_new (o := .tup [nV m, .ref t5, nV tm]) h6
    have f14 := upd_same (H := J13) (a := t6) (o := .tup [nV m, .ref t5, nV tm])
    generalize upd J13 t6 (.tup [nV m, .ref t5, nV tm]) = J14 at z14 f14 ⊢
    refine ⟨_, rfl, _, rfl, _, rfl, (by show 3 ≤ sizeLine; decide), fun t7 h7 => ?_⟩
    have z15 := same_new (o := .tup [nV m, .ref ac', nV ati]) h7
    have f15 := upd_same (H := J14) (a := t7) (o := .tup [nV m, .ref ac', nV ati])
    generalize upd J14 t7 (.tup [nV m, .ref ac', nV ati]) = J15 at z15 f15 ⊢
    have z815 := z911.trans (z12.trans (z13.trans (z14.trans z15)))
    refine ⟨_, rfl, _, rfl, ac', _, rfl, .inr (SqT.of (z815 _ _ ec)), fun l8 h8 => ⟨(by show 3 ≤ sizeLine; decide), fun t9 h9 => ⟨(by show 3 ≤ sizeLine; decide), fun L2 h10 => ?_⟩⟩⟩
    have z16 := same_new (o := .lst (cs.map nV)) h8
    have f16 := upd_same (H := J15) (a := l8) (o := .lst (cs.map nV))
    generalize upd J15 l8 (.lst (cs.map nV)) = J16 at z16 f16 h9 h10 ⊢
    have z17 := same_new (o := .tup [nV m, .ref l8, .int 0]) h9
    have f17 := upd_same (H := J16) (a := t9) (o := .tup [nV m, .ref l8, .int 0])
    generalize upd J16 t9 (.tup [nV m, .ref l8, .int 0]) = J17 at z17 f17 h10 ⊢
    have z18 := same_new (o := .lst [V.ref t6, .ref t7, .ref t9]) h10
    have f18 := upd_same (H := J17) (a := L2) (o := .lst [V.ref t6, .ref t7, .ref t9])
    generalize upd J17 L2 (.lst [V.ref t6, .ref t7, .ref t9]) = J18 at z18 f18 ⊢
    have y17 : Same J16 J18 := z17.trans z18
    have y15 : Same J14 J18 := z15.trans (z16.trans y17)
    have y13 : Same J13 J18 := z14.trans y15
    have y8 := z815.trans (z16.trans y17)
    refine ⟨L1, L2, _, _, rfl, rfl, y8 _ _ f8, f18, by rw [lv8, sizeLine_eq]; show 8 + 3 ≤ _; omega, fun L3 h11 => ?_⟩
    have z19 := same_new (o := .lst (V8 ++ [V.ref t6, .ref t7, .ref t9])) h11
    have f19 := upd_same (H := J18) (a := L3) (o := .lst (V8 ++ [V.ref t6, .ref t7, .ref t9]))
    generalize upd J18 L3 (.lst (V8 ++ [V.ref t6, .ref t7, .ref t9])) = J19 at z19 f19 ⊢
    have y19 := y8.trans z19
    have ic9 : Dp K J19 (.ref ac') (rN cs) := (IM.same y19 i1).dp
    have lmix : (cs.take ati ++ [cell] ++ cs.drop (ati + 1)).length ≤ 20 := by
      rw [List.length_append, List.length_append, List.length_take, List.length_drop]
      show _ + 1 + _ ≤ 20
      omega
    have all9 : DpAll K J19 (V8 ++ [V.ref t6, .ref t7, .ref t9]) (G8 ++ [.tuple [nD m, rN (cs.take ati ++ [cell] ++ cs.drop (ati + 1)), nD tm], .tuple [nD m, rN cs, nD ati], .tuple [nD m, .list (cs.map nD), .int 0]]) := by
      refine dpAll_app (dpAll_same y19 all8) (.cons (.tup (SqT.of (z19 _ _ (y15 _ _ f14))) (.cons (.int _) (.cons (.tup (xs := (cs.take ati ++ [cell] ++ cs.drop (ati + 1)).map nV) (seqT (y13.trans z19) ?_) (dp_n _)) (.cons (.int _) .nil))))
        (.cons (.tup (SqT.of ((z16.trans (y17.trans z19)) _ _ f15)) (.cons (.int _) (.cons ic9 (.cons (.int _) .nil)))) (.cons (.tup (SqT.of ((z18.trans z19) _ _ f17)) (.cons (.int _) (.cons (.lst (SqL.of ((y17.trans z19) _ _ f16)) (dp_n cs)) (.cons (.int _) .nil)))) .nil)))
      rw [List.map_append, List.map_append, List.map_take, List.map_drop]
      exact f13
    have ok9 : ∀ d ∈ G8 ++ [.tuple [nD m, rN (cs.take ati ++ [cell] ++ cs.drop (ati + 1)), nD tm], .tuple [nD m, rN cs, nD ati], .tuple [nD m, .list (cs.map nD), .int 0]], OkD d := fun d hd => by
      rcases List.mem_append.mp hd with hd | hd
      · exact ok8 d hd
      · revert hd
        exact (List.forall_mem_cons.mpr ⟨okD_3 lmix, List.forall_mem_cons.mpr ⟨okD_3 l20, mem1 (okD_l l20)⟩⟩) d
    have lv9 : (V8 ++ [V.ref t6, .ref t7, .ref t9]).length = 11 := by
      rw [List.length_append, lv8]
      rfl
    replace hb := IM.same y19 hb
    replace hc := IM.same y19 hc
    replace i1 := IM.same y19 i1
    replace ec := y19 _ _ ec
    replace d11 := d11.same y19
    generalize (G8 ++ [.tuple [nD m, rN (cs.take ati ++ [cell] ++ cs.drop (ati + 1)), nD tm], .tuple [nD m, rN cs, nD ati], .tuple [nD m, .list (cs.map nD), .int 0]]) = G9 at all9 ok9
    generalize (V8 ++ [V.ref t6, .ref t7, .ref t9]) = V9 at all9 f19 lv9 ⊢
    clear all8 ok8 lv8 ic9 lmix f8 z9 z10 z11 z911 z12 z13 z14 z15 z815 z16 z17 z18 z19 y17 y15 y13 y8 y19 f9 f10 f11 f12 f13 f14 f15 f16 f17 f18 h1 h6 h7 h8 h9 h10 h11
    -- still more
    refine ⟨_, rfl, _, rfl, _, rfl, (by show 3 ≤ sizeLine; decide), fun t1 h1 => ?_⟩
    have z1 := same_new (o := .tup [nV m, .ref ac', .non]) h1
    have f1 := upd_same (H := J19) (a := t1) (o := .tup [nV m, .ref ac', .non])
    generalize upd J19 t1 (.tup [nV m, .ref ac', .non]) = J20 at z1 f1 ⊢
    refine ⟨_, rfl, _, rfl, _, rfl, ?_⟩
    dsimp only [tNoPart]
    refine sl_any (K := K) (SqT.of (z1 _ _ ec)) fun J21 t2 z2 f2 => ?_
    rw [show (some (1 : Int)) = some (((0 : Nat) : Int) + 1) from rfl, cutV_from] at f2
    refine ⟨_, rfl, (by show 3 ≤ sizeLine; decide), fun t3 h3 => ?_⟩
    have z3 := same_new (o := .tup [nV m, .ref t2, nV tm]) h3
    have f3 := upd_same (H := J21) (a := t3) (o := .tup [nV m, .ref t2, nV tm])
    generalize upd J21 t3 (.tup [nV m, .ref t2, nV tm]) = J22 at z3 f3 ⊢
    refine ⟨_, rfl, _, rfl, (by show 3 ≤ sizeLine; decide), fun t4 h4 => ?_⟩
    have z4 := same_new (o := .tup [.bl true, .ref ac', nV tm]) h4
    have f4 := upd_same (H := J22) (a := t4) (o := .tup [.bl true, .ref ac', nV tm])
    generalize upd J22 t4 (.tup [.bl true, .ref ac', nV tm]) = J23 at z4 f4 ⊢
    refine ⟨_, rfl, _, rfl, (by show 3 ≤ sizeLine; decide), fun t5 h5 => ⟨(by show 4 ≤ sizeLine; decide), fun L4 h6 => ?_⟩⟩
    have z5 := same_new (o := .tup [nV m, .ref ac', .int 99]) h5
    have f5 := upd_same (H := J23) (a := t5) (o := .tup [nV m, .ref ac', .int 99])
    generalize upd J23 t5 (.tup [nV m, .ref ac', .int 99]) = J24 at z5 f5 h6 ⊢
    have z6 := same_new (o := .lst [V.ref t1, .ref t3, .ref t4, .ref t5]) h6
    have f6 := upd_same (H := J24) (a := L4) (o := .lst [V.ref t1, .ref t3, .ref t4, .ref t5])
    generalize upd J24 L4 (.lst [V.ref t1, .ref t3, .ref t4, .ref t5]) = J25 at z6 f6 ⊢
    have y4 : Same J22 J25 := z4.trans (z5.trans z6)
    have y3 : Same J21 J25 := z3.trans y4
    have y1 := z1.trans (z2.trans y3)
    refine ⟨L3, L4, _, _, rfl, rfl, y1 _ _ f19, f6, by rw [lv9, sizeLine_eq]; show 11 + 4 ≤ _; omega, fun L5 h7 => ?_⟩
    have z7 := same_new (o := .lst (V9 ++ [V.ref t1, .ref t3, .ref t4, .ref t5])) h7
    have f7 := upd_same (H := J25) (a := L5) (o := .lst (V9 ++ [V.ref t1, .ref t3, .ref t4, .ref t5]))
    generalize upd J25 L5 (.lst (V9 ++ [V.ref t1, .ref t3, .ref t4, .ref t5])) = J26 at z7 f7 ⊢
    have y26 := y1.trans z7
    have ic9 : Dp K J26 (.ref ac') (rN cs) := (IM.same y26 i1).dp
    have ldr : (cs.drop 1).length ≤ 20 := by
      rw [List.length_drop]
      omega
    have all26 : DpAll K J26 (V9 ++ [V.ref t1, .ref t3, .ref t4, .ref t5]) (G9 ++ [.tuple [nD m, rN cs, .none], .tuple [nD m, rN (cs.drop 1), nD tm], .tuple [.bool true, rN cs, nD tm], .tuple [nD m, rN cs, .int 99]]) := by
      refine dpAll_app (dpAll_same y26 all9) (.cons (.tup (SqT.of ((z2.trans (y3.trans z7)) _ _ f1)) (.cons (.int _) (.cons ic9 (.cons .non .nil))))
        (.cons (.tup (SqT.of ((y4.trans z7) _ _ f3)) (.cons (.int _) (.cons (.tup (xs := (cs.drop 1).map nV) (seqT (y3.trans z7) ?_) (dp_n _)) (.cons (.int _) .nil))))
        (.cons (.tup (SqT.of ((z5.trans (z6.trans z7)) _ _ f4)) (.cons (.bl _) (.cons ic9 (.cons (.int _) .nil)))) (.cons (.tup (SqT.of ((z6.trans z7) _ _ f5)) (.cons (.int _) (.cons ic9 (.cons (.int _) .nil)))) .nil))))
      rw [List.map_drop]
      exact f2
    have ok26 : ∀ d ∈ G9 ++ [.tuple [nD m, rN cs, .none], .tuple [nD m, rN (cs.drop 1), nD tm], .tuple [.bool true, rN cs, nD tm], .tuple [nD m, rN cs, .int 99]], OkD d := fun d hd => by
      rcases List.mem_append.mp hd with hd | hd
      · exact ok9 d hd
      · revert hd
        exact (List.forall_mem_cons.mpr ⟨okD_3 l20, List.forall_mem_cons.mpr ⟨okD_3 ldr, List.forall_mem_cons.mpr ⟨okD_3 l20, mem1 (okD_3 l20)⟩⟩⟩) d
    replace hb := IM.same y26 hb
    replace hc := IM.same y26 hc
    replace d11 := d11.same y26
    generalize (G9 ++ [.tuple [nD m, rN cs, .none], .tuple [nD m, rN (cs.drop 1), nD tm], .tuple [.bool true, rN cs, nD tm], .tuple [nD m, rN cs, .int 99]]) = G at all26 ok26
    generalize (V9 ++ [V.ref t1, .ref t3, .ref t4, .ref t5]) = W at all26 f7 ⊢
    clear all9 ok9 lv9 ic9 ldr f19 z1 z2 z3 z4 z5 z6 z7 y4 y3 y1 y26 f1 f2 f3 f4 f5 f6 h1 h3 h4 h5 h6 h7 i1 ec
    -- all of these
    refine ⟨_, rfl, L5, rfl, ⟨_, SqL.of f7⟩, for_list (K := K) (a := L5) (xs := W) (fun i σ H' => ∃ u13 u14 : Option V, σ = [some (.ref a), some (.ref p), some v2, some (.ref av), some (.ref a4), some (.ref D), some (.ref ac'), some (nV ati), some (nV cell), some (.ref q9), some (nV m), some (nV tm), some (.ref L5), u13, u14, none, none, none] ∧ Same J26 H') ⟨_, _, rfl, Same.refl J26⟩ (fun i σ H' _ ⟨_, _, _, s⟩ => SqL.of (s _ _ f7)) ?_ ?_⟩
    · rintro i x σ H20 hi ⟨u13, u14, rfl, s20⟩
      obtain ⟨d, hd, hx⟩ := dpAll_get all26 hi
      obtain ⟨vk, l20d⟩ := ok26 d (List.mem_of_getElem? hd)
      refine ⟨_, rfl, _, rfl, _, rfl, v2, _, _, _, _, rfl, (IM.same s20 hb).dp, (IM.same s20 hc).dp, .inr ⟨s, ops, rfl, okb, .inr ⟨c, rfl, okc, d, dp_same s20 hx, vok_of vk, c0, fun H21 s21 => ?_⟩⟩⟩
      have s2 := s20.trans s21
      rw [hold_due vk c0]
      refine ⟨_, rfl, .bl (dueF c d), _, _, _, _, rfl, .ty "bool", .base (.bl _), kBool (.bool (dueF c d)), _, rfl, go_f rfl ?_⟩
      refine ⟨_, rfl, _, rfl, _, rfl, s, ops, _, _, c, d, rfl, (IM.same s2 hc).dp, okc, c0, dp_same s2 hx, vk, l20d, fun H22 s22 => ⟨rfl, _, rfl, go_f (by rw [decide_eq_true rfl]; rfl) ⟨_, _, rfl, s2.trans s22⟩⟩⟩
    rintro σ H20 ⟨u13, u14, rfl, s20⟩
    replace hb := IM.same s20 hb
    replace hc := IM.same s20 hc
    replace d11 := d11.same s20
    clear s20 f7 all26 ok26
    -- the odd ones
    refine ⟨_, rfl, (by show 4 ≤ sizeLine; decide), fun L6 h6 => ?_⟩
    have z6 := same_new (o := .lst [V.non, .int 3, .str "ab", .bl true]) h6
    have n6 := d11.new h6
    refine ⟨p, l, L6, .L, _, rfl, n6.1, n6.2, d11.same z6, SqL.of upd_same, by show 0 < 4; decide, by show 4 < 1000; decide, fun H21 v b21 d21 hv => ?_⟩
    replace hb := IM.but (d11.same z6) b21 (IM.same z6 hb)
    replace hc := IM.but (d11.same z6) b21 (IM.same z6 hc)
    clear d11 z6 n6 h6 b21
    obtain ⟨od, hod, ob, o3, oT⟩ : ∃ od, IM H21 v od ∧ okBook od = false ∧ isTup 3 od = false ∧ isT od = false := by
      simp only [List.mem_cons, List.not_mem_nil, or_false] at hv
      rcases hv with h | h | h | h
      · exact ⟨.none, h ▸ .non, rfl, rfl, rfl⟩
      · exact ⟨.int 3, h ▸ .int _, rfl, rfl, rfl⟩
      · exact ⟨.str "ab", h ▸ .str _, rfl, rfl, rfl⟩
      · exact ⟨.bool true, h ▸ .bl _, rfl, rfl, rfl⟩
    -- a pair and the pair due
    have pairQ : ∀ (H' : Hp) (t : Addr) (wd : Str) (u : Int) (hw : PyData.strOk wd = true), H' t = some (.tup [V.str wd, .int u]) → ∀ t', H' t' = none → Dp K (upd H' t' (.tup [V.str wd, .int u])) (.ref t) (.tuple [.str wd, .int u]) ∧ Dp K (upd H' t' (.tup [V.str wd, .int u])) (.ref t') (.tuple [.str wd, .int u]) ∧ SeqAt.shaped (.tuple [.str wd, .int u]) = true := fun H' t wd u hw e t' ht' =>
      ⟨.tup (SqT.of (same_new ht' _ _ e)) (.cons (.str _) (.cons (.int _) .nil)), .tup (SqT.of upd_same) (.cons (.str _) (.cons (.int _) .nil)), by
        unfold SeqAt.shaped
        simp [PyData.canLay0, PyData.canLayAll0, PyData.depth, PyData.depthAll, hw]⟩
    have self : ∀ d : PyData, SeqAt.shaped d = true → PyData.eqv d d = true := fun d h => SeqAt.eqv_refl _ (SeqAt.canLay_of_shaped h)
    have wb : PyData.strOk "book" = true := by decide +kernel
    have wc : PyData.strOk "cut" = true := by decide +kernel
    refine ⟨(by show 2 ≤ sizeLine; decide), fun L7 h7 => ?_⟩
    have z7 := same_new (o := .lst [V.str "fewest", .str "hold"]) h7
    have f7 := upd_same (H := H21) (a := L7) (o := .lst [V.str "fewest", .str "hold"])
    generalize upd H21 L7 (.lst [V.str "fewest", .str "hold"]) = H22 at z7 f7 ⊢
    replace hb := IM.same z7 hb
    replace hc := IM.same z7 hc
    replace hod := IM.same z7 hod
    refine ⟨L7, rfl, ⟨_, SqL.of f7⟩, for_list (K := K) (a := L7) (xs := [V.str "fewest", .str "hold"]) (fun i σ H' => ∃ u16 : Option V, σ = [some (.ref a), some (.ref p), some v2, some (.ref av), some (.ref a4), some (.ref D), some (.ref ac'), some (nV ati), some (nV cell), some (.ref q9), some (nV m), some (nV tm), some (.ref L5), u13, u14, some v, u16, none] ∧ Same H22 H') ⟨_, rfl, Same.refl H22⟩ (fun i σ H' _ ⟨_, _, s⟩ => SqL.of (s _ _ f7)) ?_ ?_⟩
    · rintro i x σ H23 hi ⟨u16, rfl, s23⟩
      obtain ⟨wd, rfl⟩ : ∃ wd : Str, x = .str wd := by
        match i, hi with
        | 0, hi => exact ⟨_, (Option.some.inj hi).symm⟩
        | 1, hi => exact ⟨_, (Option.some.inj hi).symm⟩
        | n + 2, hi => cases hi
      refine ⟨_, rfl, _, rfl, (by show 2 ≤ sizeLine; decide), fun t1 g1 => ?_⟩
      have y1 := same_new (o := .tup [v, .non]) g1
      refine ⟨wd, t1, v, .non, od, .none, rfl, SqT.of upd_same, (IM.same (s23.trans y1) hod).dp, .non, .inl ⟨ob, fun H24 t2 s24 e2 => ?_⟩⟩
      refine ⟨_, rfl, (by show 2 ≤ sizeLine; decide), fun t3 g3 => ?_⟩
      obtain ⟨p1, p2, sh1⟩ := pairQ H24 t2 "book" (-1) wb e2 t3 g3
      refine ⟨_, _, p1, p2, sh1, sh1, _, rfl, ?_⟩
      rw [self _ sh1]
      refine go_f rfl ?_
      have s3 := s23.trans (y1.trans (s24.trans (same_new (o := .tup [V.str "book", .int (-1)]) g3)))
      refine ⟨_, rfl, _, rfl, _, rfl, (by show 2 ≤ sizeLine; decide), fun t4 g4 => ?_⟩
      have y4 := same_new (o := .tup [v2, v]) g4
      refine ⟨wd, t4, v2, v, _, od, rfl, SqT.of upd_same, (IM.same (s3.trans y4) hb).dp, (IM.same (s3.trans y4) hod).dp, .inr ⟨s, ops, rfl, okb, .inl ⟨o3, (by intro z; cases z), fun H25 t5 s25 e5 => ?_⟩⟩⟩
      refine ⟨_, rfl, (by show 2 ≤ sizeLine; decide), fun t6 g6 => ?_⟩
      obtain ⟨p1, p2, sh1⟩ := pairQ H25 t5 "cut" (-1) wc e5 t6 g6
      refine ⟨_, _, p1, p2, sh1, sh1, _, rfl, ?_⟩
      rw [self _ sh1]
      exact go_f rfl ⟨_, rfl, s3.trans (y4.trans (s25.trans (same_new g6)))⟩
    rintro σ H23 ⟨u16, rfl, s23⟩
    replace hb := IM.same s23 hb
    replace hc := IM.same s23 hc
    replace hod := IM.same s23 hod
    obtain ⟨av3, x1, x2, x3, rv3, ev3, g1, g2, g3⟩ := im3 hc
    cases rv3
    refine ⟨_, rfl, _, rfl, ?_⟩
    dsimp only [tNoPart]
    refine ⟨_, rfl, ?_⟩
    refine sl_any (K := K) (SqT.of ev3) fun H24 t1 s24 q1 => ?_
    refine ⟨_, rfl, (by show 1 ≤ sizeLine; decide), fun t2 h2 => ?_⟩
    have y2 := same_new (o := .tup [v]) h2
    refine cat_any (K := K) (seqT y2 q1) (SqT.of upd_same) (by show 3 ≤ 1000; decide) fun H25 t3 s25 q3 => ?_
    refine ⟨(by show 2 ≤ sizeLine; decide), fun t4 h4 => ?_⟩
    have y4 := same_new (o := .tup [v2, .ref t3]) h4
    have sA := s24.trans (y2.trans (s25.trans y4))
    have dcut : Dp K (upd H25 t4 (.tup [v2, .ref t3])) (.ref t3) (.tuple [.tuple (c.lists.map rN), .tuple (c.lines.map lnD), od]) := .tup (xs := [x1, x2, v]) (seqT y4 q3) (.cons (IM.same sA g1).dp (.cons (IM.same sA g2).dp (.cons (IM.same sA hod).dp .nil)))
    refine ⟨"fewest", t4, v2, .ref t3, _, _, rfl, SqT.of upd_same, (IM.same sA hb).dp, dcut, .inr ⟨s, ops, rfl, okb, .inr ⟨c, od, rfl, okc, .inl ⟨oT, (by intro z; cases z), fun H26 t5 s26 e5 => ?_⟩⟩⟩⟩
    refine ⟨(by show 2 ≤ sizeLine; decide), fun t6 g6 => ?_⟩
    obtain ⟨p1, p2, sh1⟩ := pairQ H26 t5 "cut" 2 wc e5 t6 g6
    refine ⟨_, _, p1, p2, sh1, sh1, ?_⟩
    rw [self _ sh1]
    exact k _
end
end K74
namespace K74
open PySem PySem.W L2 FX
section
variable {K : Frag} {h : Heap} {mg : Str → Option Value}
theorem base_mk {b : Str} {B N : Addr} {q : Str} {bs : List Value} {sn : List Str} {sub : List Value} {ab : Bool} {col : Option Bool} {dd : Option Addr} {k0 k1 k2 k3 k5 : Option Value} (X : K.In h) (G : h.Ns mainGlobals mg)
    (a : nsIn K mainGlobals b = some (some (.ref B))) (l : K.lookup B = some (excClassObj b q B N bs tl true sn sub ab col dd k0 k1 k2 k3 k5 "Exception.__new__")) : BaseTxt K mg b B := ⟨mg_of X G a, _, _, _, _, _, _, _, _, _, _, _, _, _, l⟩
theorem err_mk {x : Str} {B C N : Addr} {q : Str} {bs : List Value} {sn : List Str} {sub : List Value} {ab : Bool} {col : Option Bool} {dd : Option Addr} {k0 k1 k2 k3 k5 : Option Value} (X : K.In h) (G : h.Ns mainGlobals mg)
    (a : nsIn K mainGlobals x = some (some (.ref C))) (l : K.lookup C = some (excClassObj x q C N bs (.ref B :: tl) true sn sub ab col dd k0 k1 k2 k3 k5 "Exception.__new__")) (c : keepIn K (.ref C) = true) : ErrTxt K mg B x C :=
  ⟨mg_of X G a, ⟨_, _, _, _, _, _, _, _, _, _, _, _, _, l⟩, c⟩
theorem init_mk {qn f : Str} {C i : Addr} {oc : Value} {od : Option Addr} {doc pm : Value} {an : Option Addr} {cdv ct : Value} {osl : Array (Option Value)} {p1 p2 q1 q2 q3 q4 : Pos} (ff : f = "at" ∨ f = "word")
    (iC : findIn K (.ref C) "__init__" = some (some (.ref i))) (sa : findIn K (.ref C) "__setattr__" = some (some (.builtin "object.__setattr__"))) (ga : findIn K (.ref C) "__getattribute__" = some (some (.builtin "BaseException.__getattribute__")))
    (gg : findIn K (.ref C) "__getattr__" = some none) (nf : findIn K (.ref C) f = some none) (tI : typeIn K (.ref i) = some (.type "function"))
    (fn : K.lookup i = some ⟨oc, od, .func (fnOf "__init__" qn (inA f p1 p2) (inB f q1 q2 q3 q4) (inS f) .none .none doc pm an cdv ct), osl⟩) (cd : codeIn K cdv qn = true) : InitTxt K qn f C i :=
  ⟨sa, ga, gg, nf, iC, tI, ⟨_, _, _, _, _, _, _, _, _, _, _, _, _, _, fn, cd⟩, ff⟩
theorem at_mk {x : Str} {st : Stmt} {f : Addr} {ps : List Str} {oc : Value} {od : Option Addr} {kV doc pm : Value} {an : Option Addr} {cdv ct : Value} {osl : Array (Option Value)} (X : K.In h) (G : h.Ns mainGlobals mg)
    (hb : ∀ (kV doc pm : Value) (an : Option Addr) (cdv ct : Value) (us : List Value), us.length = ps.length → bindArgs (fnOf x x (defArgs st) (defBody st) (defScope st) .none kV doc pm an cdv ct) ⟨us, []⟩ = pure (ps.zip us))
    (a : nsIn K mainGlobals x = some (some (.ref f))) (l : K.lookup f = some ⟨oc, od, .func (fnOf x x (defArgs st) (defBody st) (defScope st) .none kV doc pm an cdv ct), osl⟩) (c : codeIn K cdv x = true) (k : keepIn K (.ref f) = true) :
    At K mg x st f (fnOf x x (defArgs st) (defBody st) (defScope st) .none kV doc pm an cdv ct) ps := ⟨fun_mk l c k, mg_of X G a, (fun_mk (st := st) l c k).binds hb⟩
end
set_option maxHeartbeats 4000000 in
theorem all_mk {l : OpenLaw} {w : World} {K : Frag} {h : Heap} {mg : Str → Option Value} {fa B cB iB cC iC f0 f1 f2 f3 f4 f5 f6 f7 f8 f9 f10 f11 f12 f13 f14 f15 f16 f17 f18 f19 f20 f21 f22 f23 f24 f25 f26 f27 f28 f29 f30 f31 f32 f33 f34 f35 f36 fL : Addr} {d0 d1 d2 d3 d4 d5 d6 d7 d8 d9 d10 d11 d12 d13 d14 d15 d16 d17 d18 d19 d20 d21 d22 d23 d24 d25 d26 d27 d28 d29 d30 d31 d32 d33 d34 d35 d36 : FuncData} {kV doc pm : Value} {an : Option Addr} {cdv ct : Value} (X : K.In h) (G : h.Ns mainGlobals mg) (hfa : mg "law" = some (.ref fa))
    (S : BaseTxt K mg "FoldError" B)
    (EcB : ErrTxt K mg B "InvalidBook" cB)
    (UcB : InitTxt K "InvalidBook.__init__" "at" cB iB)
    (EcC : ErrTxt K mg B "InvalidCut" cC)
    (UcC : InitTxt K "InvalidCut.__init__" "at" cC iC)
    (D0 : At K mg "is_integer" sInteger f0 d0 ["value"])
    (D1 : At K mg "is_number" sNumber f1 d1 ["value"])
    (D2 : At K mg "is_below" sBelow f2 d2 ["many", "value"])
    (D3 : At K mg "is_between" sBetween f3 d3 ["least", "most", "value"])
    (D4 : At K mg "is_sequence" sSequence f4 d4 ["value"])
    (D5 : At K mg "is_row_of" sRowOf f5 d5 ["many", "value"])
    (D6 : At K mg "power" sPower f6 d6 ["base", "times"])
    (D7 : At K mg "is_size" sSize f7 d7 ["value"])
    (D8 : At K mg "is_table" sTable f8 d8 ["size", "least", "most", "value"])
    (D9 : At K mg "is_operation" sOper f9 d9 ["size", "value"])
    (D10 : At K mg "need_book" sNeedBook f10 d10 ["value"])
    (D11 : At K mg "is_tuple_of" sTup f11 d11 ["many", "value"])
    (D12 : At K mg "first_not_rising" sRise f12 d12 ["many", "values"])
    (D13 : At K mg "is_value_list" sVL f13 d13 ["size", "value"])
    (D14 : At K mg "is_reading" sRd f14 d14 ["size", "inputs", "lines", "value"])
    (D15 : At K mg "is_line" sLn f15 d15 ["book", "inputs", "lines", "value"])
    (D16 : At K mg "cut_fault" sCF f16 d16 ["book", "value"])
    (D17 : At K mg "need_cut" sNC f17 d17 ["book", "value"])
    (D18 : At K mg "last_reads" sLast f18 d18 ["cut"])
    (D19 : At K mg "standing" sStand f19 d19 ["last", "at"])
    (D20 : At K mg "most_standing" sMost f20 d20 ["last"])
    (D21 : At K mg "fewest_cells" sFew f21 d21 ["book", "cut"])
    (D22 : At K mg "are_apart" sApart f22 d22 ["last", "cells"])
    (D23 : At K mg "fewest_hold" sHold f23 d23 ["book", "cut", "value"])
    (D24 : At K mg "_law_any" sAny f24 d24 ["deal", "bound"])
    (D25 : At K mg "_law_of" sOf f25 d25 ["deal", "some"])
    (D26 : At K mg "_law_draw" sDraw f26 d26 ["script", "salt"])
    (D27 : At K mg "_law_rows" sLR f27 d27 ["size", "many"])
    (D28 : At K mg "_law_operation" sOpn f28 d28 ["deal", "size"])
    (D29 : At K mg "_law_ways" sLW f29 d29 ["many", "cells"])
    (D30 : At K mg "_law_book" sBk f30 d30 ["deal", "most"])
    (D31 : At K mg "_law_cut" sCut f31 d31 ["deal", "book", "most", "whole"])
    (D32 : At K mg "_law_stands" sLS f32 d32 ["cut", "at"])
    (D33 : At K mg "_law_fit" sFit f33 d33 ["cut", "cells"])
    (D34 : At K mg "_law_due" sDue f34 d34 ["cut", "value"])
    (D35 : At K mg "_law_tried" sTried f35 d35 ["word", "values"])
    (D36 : At K mg "_law_anchor" sAnc f36 d36 [])
    (DL : At K mg "law" sLaw fL (fnOf "law" "law" (defArgs sLaw) (defBody sLaw) (defScope sLaw) .none kV doc pm an cdv ct) ["script"])
    (n_int : nsIn K mainGlobals "int" = some none)
    (n_bool : nsIn K mainGlobals "bool" = some none)
    (n_list : nsIn K mainGlobals "list" = some none)
    (n_tuple : nsIn K mainGlobals "tuple" = some none)
    (n_isinstance : nsIn K mainGlobals "isinstance" = some none)
    (n_len : nsIn K mainGlobals "len" = some none)
    (n_range : nsIn K mainGlobals "range" = some none)
    (n_zip : nsIn K mainGlobals "zip" = some none)
    (n_all : nsIn K mainGlobals "all" = some none)
    (n_enumerate : nsIn K mainGlobals "enumerate" = some none)
    (n_abs : nsIn K mainGlobals "abs" = some none)
    (n_max : nsIn K mainGlobals "max" = some none)
    (n_min : nsIn K mainGlobals "min" = some none)
    (n_set : nsIn K mainGlobals "set" = some none)
    (n_repr : nsIn K mainGlobals "repr" = some none)
    (n_str : nsIn K mainGlobals "str" = some none) :
    ∃ fd : FuncData, (∀ (s : Shared) (v : Value), BindsTo s fd ⟨[v], []⟩ [("script", v)]) ∧ ∀ base : Heap, K.In base → base.Ns mainGlobals mg → FnOk l.prog w K mg base CX0 10 fa fd ["script"] (spLaw K) := by
  have e := hfa.symm.trans DL.g
  cases e
  have Z : Bi mg := ⟨mg_none_of X G n_int, mg_none_of X G n_bool, mg_none_of X G n_list, mg_none_of X G n_tuple, mg_none_of X G n_isinstance, mg_none_of X G n_len, mg_none_of X G n_range, mg_none_of X G n_zip, mg_none_of X G n_all, mg_none_of X G n_enumerate, mg_none_of X G n_abs, mg_none_of X G n_max, mg_none_of X G n_min, mg_none_of X G n_set, mg_none_of X G n_repr, mg_none_of X G n_str⟩
  have R : Ers K mg B cB iB cC iC := ⟨S, ⟨EcB, UcB⟩, ⟨EcC, UcC⟩⟩
  refine ⟨fnOf "law" "law" (defArgs sLaw) (defBody sLaw) (defScope sLaw) .none kV doc pm an cdv ct, fun s v => .of_eq rfl, fun base _ _ => ?_⟩
  · have g4 : FnOk l.prog w K mg base CX0 1 _ _ ["value"] (spB K isSq) := ok_sequence D4.F Z
    have g5 : FnOk l.prog w K mg base CX0 2 _ _ ["many", "value"] (spB1 K isRow) := ok_rowOf D5.F Z D4 g4
    have g0 : FnOk l.prog w K mg base CX0 1 _ _ ["value"] (spB K isI) := ok_integer D0.F Z
    have g3 : FnOk l.prog w K mg base CX0 2 _ _ ["least", "most", "value"] (spB2 K isBt) := ok_between D3.F D0 g0
    have g7 : FnOk l.prog w K mg base CX0 3 _ _ ["value"] (spB K (isBt 2 8)) := ok_size D7.F D3 g3
    have g1 : FnOk l.prog w K mg base CX0 2 _ _ ["value"] (spB K isN) := ok_number D1.F Z D0
    have g2 : FnOk l.prog w K mg base CX0 3 _ _ ["many", "value"] (spB1 K isB) := ok_below D2.F D1 g1
    have g8 : FnOk l.prog w K mg base CX0 4 _ _ ["size", "least", "most", "value"] (spTable K) := ok_table D8.F Z D5 g5 D6 D3 g3 D2 g2
    have g9 : FnOk l.prog w K mg base CX0 5 _ _ ["size", "value"] (spOper K) := ok_oper D9.F D8 g8
    have g10 : FnOk l.prog w K mg base (L2.CX l.prog w) 6 _ _ ["value"] (spNeedBook K cB) := ok_book D10.F Z R D5 g5 D7 g7 D4 g4 D9 g9
    have g12 : FnOk l.prog w K mg base CX0 4 _ _ ["many", "values"] (spRise K) := ok_rise D12.F Z D2 g2
    have g13 : FnOk l.prog w K mg base CX0 5 _ _ ["size", "value"] (spVL K) := ok_vl D13.F Z D4 g4 D12 g12
    have g14 : FnOk l.prog w K mg base CX0 4 _ _ ["size", "inputs", "lines", "value"] (spRd K) := ok_rd D14.F Z D2 g2 D11
    have g15 : FnOk l.prog w K mg base CX0 5 _ _ ["book", "inputs", "lines", "value"] (spLn K) := ok_ln D15.F Z D2 g2 D11 D14 g14
    have g16 : FnOk l.prog w K mg base CX0 6 _ _ ["book", "value"] (spCF K) := ok_cf D16.F Z D11 D13 g13 D15 g15 D14 g14
    have g17 : FnOk l.prog w K mg base (L2.CX l.prog w) 7 _ _ ["book", "value"] (spNC K cC) := ok_nc D17.F R D16 g16
    have g21 : FnOk l.prog w K mg base (L2.CX l.prog w) 8 _ _ ["book", "cut"] (spFew K cB cC) := ok_few D21.F Z D10 g10 D17 g17 D18 D20 D19
    have g23 : FnOk l.prog w K mg base (L2.CX l.prog w) 8 _ _ ["book", "cut", "value"] (spHold K cB cC) := ok_hold D23.F Z D10 g10 D17 g17 D18 D20 D19 D11 D1 g1 D2 g2 D22
    have g26 : FnOk l.prog w K mg base CX0 1 _ _ ["script", "salt"] (spDraw K) := ok_draw D26.F Z
    have g24 : FnOk l.prog w K mg base CX0 1 _ _ ["deal", "bound"] spAny := ok_any D24.F Z
    have g25 : FnOk l.prog w K mg base CX0 2 _ _ ["deal", "some"] (spOf K) := ok_of D25.F Z D24
    have g34 : FnOk l.prog w K mg base CX0 3 _ _ ["cut", "value"] (spDue K) := ok_due D34.F Z D33 D32
    have g32 : FnOk l.prog w K mg base CX0 1 _ _ ["cut", "at"] (spLS K) := ok_ls D32.F Z
    have g33 : FnOk l.prog w K mg base CX0 2 _ _ ["cut", "cells"] (spFit K) := ok_fit D33.F Z D32
    have g29 : FnOk l.prog w K mg base CX0 1 _ _ ["many", "cells"] spLW := ok_lw D29.F Z
    have g35 : FnOk l.prog w K mg base CX0 9 _ _ ["word", "values"] (spTried K) := ok_tried D35.F R D21 g21 D23 g23
    have g36 : FnOk l.prog w K mg base CX0 9 _ _ [] spAnc := ok_anc D36.F D21 g21 D23 g23
    have g28 : FnOk l.prog w K mg base CX0 2 _ _ ["deal", "size"] spOpn := ok_opn D28.F Z D24 D27
    have g30 : FnOk l.prog w K mg base CX0 3 _ _ ["deal", "most"] spBk := ok_bk D30.F Z D24 D28 g28
    have g31 : FnOk l.prog w K mg base CX0 3 _ _ ["deal", "book", "most", "whole"] spCut := ok_cut D31.F Z D24 D25
    exact ok_law DL.F Z (Gs.mk D21 g21 D23 g23 D26 g26 D24 g24 D25 g25 D34 g34 D32 g32 D33 g33 D29 g29 D35 g35 D36 g36 D30 g30 D31 g31)
theorem walk {l : OpenLaw} {q : Program} {loose : List Str} {XP : (Str → Option Value) → Heap → Prop} {YP : World → Heap → Prop} {d : DefRec} {K : Params → Frag} (hn : l.most = some 63) (hdf : d.params.defaults = []) (hY : ∀ (w : World) (h : Heap), YP w h → (K w.params).In h)
    (F : ∀ (w : World) (mg : Str → Option Value) (fa : Addr) (h : Heap), (K w.params).In h → h.Ns mainGlobals mg → mg d.name = some (.ref fa) →
      ∃ fd : FuncData, (∀ (s : Shared) (u : Value), BindsTo s fd ⟨[u], []⟩ [("script", u)]) ∧ ∀ base : Heap, (K w.params).In base → base.Ns mainGlobals mg → FnOk l.prog w (K w.params) mg base CX0 10 fa fd ["script"] (spLaw (K w.params))) :
    WalkO q loose XP YP l.row.toRowW d [] (fun f vs => PySem.call f vs) :=
  L2.walk_of (n := 63) (k := 10) (x := "script") (CX := fun _ => CX0) (sp := fun w => spLaw (K w.params)) hn (by decide) hdf ⟨rfl, by decide, by decide⟩ hY F (fun _ _ a ns hl _ hS => ⟨a, ns, rfl, hS, fun _ => rfl⟩) fun _ _ _ _ _ z => z
end K74
open PySem PySem.W PyProof.Rows
set_option maxRecDepth 100000 in
set_option maxHeartbeats 0 in
theorem PySem.Challenge.cw_foldsall_k74_whole_fewest_cells_of_lines_holds : PySem.Challenge.rw_foldsall_k74_whole_fewest_cells_of_lines.Holds := by
  w_on; o_law; k_head; (case hw => w_witness2)
  k_fill
  refine K74.walk (l := PySem.Challenge.rw_foldsall_k74_whole_fewest_cells_of_lines) rfl rfl (fun w h Y => PySem.W.kIn_of Y) ?F
  case F =>
    intro w mg fa h KX G hmg
    refine' K74.all_mk KX G hmg ?S ?EcB ?UcB ?EcC ?UcC ?D0 ?D1 ?D2 ?D3 ?D4 ?D5 ?D6 ?D7 ?D8 ?D9 ?D10 ?D11 ?D12 ?D13 ?D14 ?D15 ?D16 ?D17 ?D18 ?D19 ?D20 ?D21 ?D22 ?D23 ?D24 ?D25 ?D26 ?D27 ?D28 ?D29 ?D30 ?D31 ?D32 ?D33 ?D34 ?D35 ?D36 ?DL ?n_int ?n_bool ?n_list ?n_tuple ?n_isinstance ?n_len ?n_range ?n_zip ?n_all ?n_enumerate ?n_abs ?n_max ?n_min ?n_set ?n_repr ?n_str
    (case S => (refine' K74.base_mk KX G ?a ?l; (case a => k_is); (case l => k_is)))
    (case EcB => (refine' K74.err_mk KX G ?a ?l ?c; (case a => k_is); (case l => k_is); (case c => k_is)))
    (case UcB => (refine' K74.init_mk (Or.inl rfl) ?a ?b ?c ?d ?e ?f ?g ?h; (case a => k_is); (case b => k_is); (case c => k_is); (case d => k_is); (case e => k_is); (case f => k_is); (case g => k_is); (case h => k_is)))
    (case EcC => (refine' K74.err_mk KX G ?a ?l ?c; (case a => k_is); (case l => k_is); (case c => k_is)))
    (case UcC => (refine' K74.init_mk (Or.inl rfl) ?a ?b ?c ?d ?e ?f ?g ?h; (case a => k_is); (case b => k_is); (case c => k_is); (case d => k_is); (case e => k_is); (case f => k_is); (case g => k_is); (case h => k_is)))
    (case D0 => (refine' K74.at_mk KX G (fun _ _ _ _ _ _ us hl => match us, hl with | [_], _ => rfl) ?a ?l ?c ?k; (case a => k_is); (case l => k_is); (case c => k_is); (case k => k_is)))
    (case D1 => (refine' K74.at_mk KX G (fun _ _ _ _ _ _ us hl => match us, hl with | [_], _ => rfl) ?a ?l ?c ?k; (case a => k_is); (case l => k_is); (case c => k_is); (case k => k_is)))
    (case D2 => (refine' K74.at_mk KX G (fun _ _ _ _ _ _ us hl => match us, hl with | [_, _], _ => rfl) ?a ?l ?c ?k; (case a => k_is); (case l => k_is); (case c => k_is); (case k => k_is)))
    (case D3 => (refine' K74.at_mk KX G (fun _ _ _ _ _ _ us hl => match us, hl with | [_, _, _], _ => rfl) ?a ?l ?c ?k; (case a => k_is); (case l => k_is); (case c => k_is); (case k => k_is)))
    (case D4 => (refine' K74.at_mk KX G (fun _ _ _ _ _ _ us hl => match us, hl with | [_], _ => rfl) ?a ?l ?c ?k; (case a => k_is); (case l => k_is); (case c => k_is); (case k => k_is)))
    (case D5 => (refine' K74.at_mk KX G (fun _ _ _ _ _ _ us hl => match us, hl with | [_, _], _ => rfl) ?a ?l ?c ?k; (case a => k_is); (case l => k_is); (case c => k_is); (case k => k_is)))
    (case D6 => (refine' K74.at_mk KX G (fun _ _ _ _ _ _ us hl => match us, hl with | [_, _], _ => rfl) ?a ?l ?c ?k; (case a => k_is); (case l => k_is); (case c => k_is); (case k => k_is)))
    (case D7 => (refine' K74.at_mk KX G (fun _ _ _ _ _ _ us hl => match us, hl with | [_], _ => rfl) ?a ?l ?c ?k; (case a => k_is); (case l => k_is); (case c => k_is); (case k => k_is)))
    (case D8 => (refine' K74.at_mk KX G (fun _ _ _ _ _ _ us hl => match us, hl with | [_, _, _, _], _ => rfl) ?a ?l ?c ?k; (case a => k_is); (case l => k_is); (case c => k_is); (case k => k_is)))
    (case D9 => (refine' K74.at_mk KX G (fun _ _ _ _ _ _ us hl => match us, hl with | [_, _], _ => rfl) ?a ?l ?c ?k; (case a => k_is); (case l => k_is); (case c => k_is); (case k => k_is)))
    (case D10 => (refine' K74.at_mk KX G (fun _ _ _ _ _ _ us hl => match us, hl with | [_], _ => rfl) ?a ?l ?c ?k; (case a => k_is); (case l => k_is); (case c => k_is); (case k => k_is)))
    (case D11 => (refine' K74.at_mk KX G (fun _ _ _ _ _ _ us hl => match us, hl with | [_, _], _ => rfl) ?a ?l ?c ?k; (case a => k_is); (case l => k_is); (case c => k_is); (case k => k_is)))
    (case D12 => (refine' K74.at_mk KX G (fun _ _ _ _ _ _ us hl => match us, hl with | [_, _], _ => rfl) ?a ?l ?c ?k; (case a => k_is); (case l => k_is); (case c => k_is); (case k => k_is)))
    (case D13 => (refine' K74.at_mk KX G (fun _ _ _ _ _ _ us hl => match us, hl with | [_, _], _ => rfl) ?a ?l ?c ?k; (case a => k_is); (case l => k_is); (case c => k_is); (case k => k_is)))
    (case D14 => (refine' K74.at_mk KX G (fun _ _ _ _ _ _ us hl => match us, hl with | [_, _, _, _], _ => rfl) ?a ?l ?c ?k; (case a => k_is); (case l => k_is); (case c => k_is); (case k => k_is)))
    (case D15 => (refine' K74.at_mk KX G (fun _ _ _ _ _ _ us hl => match us, hl with | [_, _, _, _], _ => rfl) ?a ?l ?c ?k; (case a => k_is); (case l => k_is); (case c => k_is); (case k => k_is)))
    (case D16 => (refine' K74.at_mk KX G (fun _ _ _ _ _ _ us hl => match us, hl with | [_, _], _ => rfl) ?a ?l ?c ?k; (case a => k_is); (case l => k_is); (case c => k_is); (case k => k_is)))
    (case D17 => (refine' K74.at_mk KX G (fun _ _ _ _ _ _ us hl => match us, hl with | [_, _], _ => rfl) ?a ?l ?c ?k; (case a => k_is); (case l => k_is); (case c => k_is); (case k => k_is)))
    (case D18 => (refine' K74.at_mk KX G (fun _ _ _ _ _ _ us hl => match us, hl with | [_], _ => rfl) ?a ?l ?c ?k; (case a => k_is); (case l => k_is); (case c => k_is); (case k => k_is)))
    (case D19 => (refine' K74.at_mk KX G (fun _ _ _ _ _ _ us hl => match us, hl with | [_, _], _ => rfl) ?a ?l ?c ?k; (case a => k_is); (case l => k_is); (case c => k_is); (case k => k_is)))
    (case D20 => (refine' K74.at_mk KX G (fun _ _ _ _ _ _ us hl => match us, hl with | [_], _ => rfl) ?a ?l ?c ?k; (case a => k_is); (case l => k_is); (case c => k_is); (case k => k_is)))
    (case D21 => (refine' K74.at_mk KX G (fun _ _ _ _ _ _ us hl => match us, hl with | [_, _], _ => rfl) ?a ?l ?c ?k; (case a => k_is); (case l => k_is); (case c => k_is); (case k => k_is)))
    (case D22 => (refine' K74.at_mk KX G (fun _ _ _ _ _ _ us hl => match us, hl with | [_, _], _ => rfl) ?a ?l ?c ?k; (case a => k_is); (case l => k_is); (case c => k_is); (case k => k_is)))
    (case D23 => (refine' K74.at_mk KX G (fun _ _ _ _ _ _ us hl => match us, hl with | [_, _, _], _ => rfl) ?a ?l ?c ?k; (case a => k_is); (case l => k_is); (case c => k_is); (case k => k_is)))
    (case D24 => (refine' K74.at_mk KX G (fun _ _ _ _ _ _ us hl => match us, hl with | [_, _], _ => rfl) ?a ?l ?c ?k; (case a => k_is); (case l => k_is); (case c => k_is); (case k => k_is)))
    (case D25 => (refine' K74.at_mk KX G (fun _ _ _ _ _ _ us hl => match us, hl with | [_, _], _ => rfl) ?a ?l ?c ?k; (case a => k_is); (case l => k_is); (case c => k_is); (case k => k_is)))
    (case D26 => (refine' K74.at_mk KX G (fun _ _ _ _ _ _ us hl => match us, hl with | [_, _], _ => rfl) ?a ?l ?c ?k; (case a => k_is); (case l => k_is); (case c => k_is); (case k => k_is)))
    (case D27 => (refine' K74.at_mk KX G (fun _ _ _ _ _ _ us hl => match us, hl with | [_, _], _ => rfl) ?a ?l ?c ?k; (case a => k_is); (case l => k_is); (case c => k_is); (case k => k_is)))
    (case D28 => (refine' K74.at_mk KX G (fun _ _ _ _ _ _ us hl => match us, hl with | [_, _], _ => rfl) ?a ?l ?c ?k; (case a => k_is); (case l => k_is); (case c => k_is); (case k => k_is)))
    (case D29 => (refine' K74.at_mk KX G (fun _ _ _ _ _ _ us hl => match us, hl with | [_, _], _ => rfl) ?a ?l ?c ?k; (case a => k_is); (case l => k_is); (case c => k_is); (case k => k_is)))
    (case D30 => (refine' K74.at_mk KX G (fun _ _ _ _ _ _ us hl => match us, hl with | [_, _], _ => rfl) ?a ?l ?c ?k; (case a => k_is); (case l => k_is); (case c => k_is); (case k => k_is)))
    (case D31 => (refine' K74.at_mk KX G (fun _ _ _ _ _ _ us hl => match us, hl with | [_, _, _, _], _ => rfl) ?a ?l ?c ?k; (case a => k_is); (case l => k_is); (case c => k_is); (case k => k_is)))
    (case D32 => (refine' K74.at_mk KX G (fun _ _ _ _ _ _ us hl => match us, hl with | [_, _], _ => rfl) ?a ?l ?c ?k; (case a => k_is); (case l => k_is); (case c => k_is); (case k => k_is)))
    (case D33 => (refine' K74.at_mk KX G (fun _ _ _ _ _ _ us hl => match us, hl with | [_, _], _ => rfl) ?a ?l ?c ?k; (case a => k_is); (case l => k_is); (case c => k_is); (case k => k_is)))
    (case D34 => (refine' K74.at_mk KX G (fun _ _ _ _ _ _ us hl => match us, hl with | [_, _], _ => rfl) ?a ?l ?c ?k; (case a => k_is); (case l => k_is); (case c => k_is); (case k => k_is)))
    (case D35 => (refine' K74.at_mk KX G (fun _ _ _ _ _ _ us hl => match us, hl with | [_, _], _ => rfl) ?a ?l ?c ?k; (case a => k_is); (case l => k_is); (case c => k_is); (case k => k_is)))
    (case D36 => (refine' K74.at_mk KX G (fun _ _ _ _ _ _ us hl => match us, hl with | [], _ => rfl) ?a ?l ?c ?k; (case a => k_is); (case l => k_is); (case c => k_is); (case k => k_is)))
    (case DL => (refine' K74.at_mk KX G (fun _ _ _ _ _ _ us hl => match us, hl with | [_], _ => rfl) ?a ?l ?c ?k; (case a => k_is); (case l => k_is); (case c => k_is); (case k => k_is)))
    (case n_int => k_is)
    (case n_bool => k_is)
    (case n_list => k_is)
    (case n_tuple => k_is)
    (case n_isinstance => k_is)
    (case n_len => k_is)
    (case n_range => k_is)
    (case n_zip => k_is)
    (case n_all => k_is)
    (case n_enumerate => k_is)
    (case n_abs => k_is)
    (case n_max => k_is)
    (case n_min => k_is)
    (case n_set => k_is)
    (case n_repr => k_is)
    (case n_str => k_is)
#print axioms PySem.Challenge.cw_foldsall_k74_whole_fewest_cells_of_lines_holds
