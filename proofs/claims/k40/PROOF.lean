import PyProof.Rows.All
import Wide.All
import OpenK.AllK
import Wide.FinOn
import PyProof.EqAt
import PyProof.EqKinds
import PyProof.TupleCall
import KE.KExcInit
import HandS.ExcOwn
import HandS.Words
import HandS.WordsList
import HandS.TryMany
import HandS.WordsExc
import HandS.ForMost
import HandS.ForExc
import HandS.IsInst
import HandS.Zip
import HandS.Walk
import HandS.Conv
import HandS.Star
import HandS.TupAny
import KE.GoesNew
import KE.GoesMore
import KE.GoesEnum
import HandS.Deep
import HandS.SetFor
import HandS.Set
import HandS.RaiseMore
import HandS.TupSets
import HandS.SortOrd
import HandS.SortInts
import KE.DataMinMax
import KE.KTupSum
import HandS.Style
import HandS.Comp
import HandS.Lambda
import HandS.DictComp
import HandS.TryOnly
import HandS.WideBits
import HandS.Codes
import HandS.TupLe
import KE.KLam
import HandS.HeadEnd
import HandS.EndTab
import PySem.Challenge.RW_foldsall_k40_whole_how_many_answers_are
set_option Elab.async false
set_option linter.all false
set_option maxRecDepth 100000
set_option maxHeartbeats 8000000
/-! Error classes over a base class of the program over Exception, one field or none: made, raised, named by a clause. -/
namespace FX
open PySem PySem.W PySem.Calls PyProof.Rows PySem.HandSPX
/-! ### what the written part says of the classes -/
abbrev tl : List Value := [.type "Exception", .type "BaseException", .type "object"]
/-- the base class, at B -/
structure BaseTxt (K : Frag) (mg : Str → Option Value) (b : Str) (B : Addr) : Prop where
  gB : mg b = some (.ref B)
  at_ : ∃ q N bs sn sub ab col dd k0 k1 k2 k3 k5, K.lookup B = some (excClassObj b q B N bs tl true sn sub ab col dd k0 k1 k2 k3 k5 "Exception.__new__")
/-- a class called x at C, over the one at B -/
structure ErrTxt (K : Frag) (mg : Str → Option Value) (B : Addr) (x : Str) (C : Addr) : Prop where
  gC : mg x = some (.ref C)
  at_ : ∃ q N bs sn sub ab col dd k0 k1 k2 k3 k5, K.lookup C = some (excClassObj x q C N bs (.ref B :: tl) true sn sub ab col dd k0 k1 k2 k3 k5 "Exception.__new__")
  kC : keepIn K (.ref C) = true
theorem cls_of {K : Frag} {x q : Str} {C N : Addr} {bs bm : List Value} {hd : Bool} {sn : List Str} {sub : List Value} {ab : Bool} {col : Option Bool} {dd : Option Addr} {k0 k1 k2 k3 k5 : Option Value} {ni : String}
    (h : K.lookup C = some (excClassObj x q C N bs bm hd sn sub ab col dd k0 k1 k2 k3 k5 ni)) :
    clsIn K C = some { name := x, bases := bs, mro := .ref C :: bm, ns := N, qualname := q, hasDict := hd, slotNames := sn, subclasses := sub, abstract := ab, collection := col, hasDel := false } := by
  unfold clsIn
  rw [h]
theorem mro_of {K : Frag} {x q : Str} {C N : Addr} {bs bm : List Value} {hd : Bool} {sn : List Str} {sub : List Value} {ab : Bool} {col : Option Bool} {dd : Option Addr} {k0 k1 k2 k3 k5 : Option Value} {ni : String}
    (h : K.lookup C = some (excClassObj x q C N bs bm hd sn sub ab col dd k0 k1 k2 k3 k5 ni)) (v : Value) : subIn K (.ref C) v = some ((Value.ref C :: bm).contains v) := by
  show mroIn K C v = _
  unfold mroIn
  rw [cls_of h]
  rfl
theorem ty_of {K : Frag} {x q : Str} {C N : Addr} {bs bm : List Value} {hd : Bool} {sn : List Str} {sub : List Value} {ab : Bool} {col : Option Bool} {dd : Option Addr} {k0 k1 k2 k3 k5 : Option Value} {ni : String}
    (h : K.lookup C = some (excClassObj x q C N bs bm hd sn sub ab col dd k0 k1 k2 k3 k5 ni)) : typeIn K (.ref C) = some (.type "type") := by
  show (K.lookup C).map (·.cls) = _
  rw [h]
  rfl
/-- whether «except D» names an error of the class C -/
theorem exm_of {K : Frag} {cls : Value} {y q : Str} {D N : Addr} {bs bm : List Value} {hd : Bool} {sn : List Str} {sub : List Value} {ab : Bool} {col : Option Bool} {dd : Option Addr} {k0 k1 k2 k3 k5 : Option Value} {ni : String} {r : Bool}
    (h : K.lookup D = some (excClassObj y q D N bs bm hd sn sub ab col dd k0 k1 k2 k3 k5 ni)) (hb : bm.contains (.type "BaseException") = true) (hs : subIn K cls (.ref D) = some r) : exmOne K cls (.ref D) = some r := by
  have e1 : subIn K (.ref D) (.type "BaseException") = some true := by
    rw [mro_of h, List.contains_cons, hb, Bool.or_true]
  unfold exmOne
  rw [e1, if_pos (by decide)]
  have e2 : ((clsIn K D).isSome && typeIn K (.ref D) == some (.type "type")) = true := by
    rw [cls_of h, ty_of h]
    rfl
  show (if ((clsIn K D).isSome && typeIn K (.ref D) == some (.type "type")) = true then subIn K cls (.ref D) else none) = _
  rw [if_pos e2]
  exact hs
variable {K : Frag} {mg : Str → Option Value} {b x y : Str} {B C D : Addr}
theorem ErrTxt.sub (T : ErrTxt K mg B x C) : subIn K (.ref C) (.type "BaseException") = some true := by
  obtain ⟨q, N, bs, sn, sub, ab, col, dd, k0, k1, k2, k3, k5, h⟩ := T.at_
  rw [mro_of h]
  rfl
theorem ErrTxt.ty (T : ErrTxt K mg B x C) : typeIn K (.ref C) = some (.type "type") := by
  obtain ⟨q, N, bs, sn, sub, ab, col, dd, k0, k1, k2, k3, k5, h⟩ := T.at_
  exact ty_of h
theorem ErrTxt.dict (T : ErrTxt K mg B x C) : hasDictIn K C = true := by
  obtain ⟨q, N, bs, sn, sub, ab, col, dd, k0, k1, k2, k3, k5, h⟩ := T.at_
  unfold hasDictIn
  rw [cls_of h]
  rfl
theorem ErrTxt.over (T : ErrTxt K mg B x C) : excOver K C tl = true := by
  obtain ⟨q, N, bs, sn, sub, ab, col, dd, k0, k1, k2, k3, k5, h⟩ := T.at_
  unfold excOver
  rw [cls_of h]
  show (C == C && excTail tl (.ref B :: tl)) = true
  rw [beq_self_eq_true]
  show excTail tl tl = true
  decide +kernel
theorem ErrTxt.ne (T : ErrTxt K mg B x C) (U : ErrTxt K mg B y D) (h : x ≠ y) : C ≠ D := by
  obtain ⟨q, N, bs, sn, sub, ab, col, dd, k0, k1, k2, k3, k5, h1⟩ := T.at_
  obtain ⟨q', N', bs', sn', sub', ab', col', dd', k0', k1', k2', k3', k5', h2⟩ := U.at_
  intro e
  subst e
  rw [h1] at h2
  injection h2 with h2
  injection h2 with _ _ h2 _
  injection h2 with h2
  injection h2 with h2
  exact h h2
theorem ErrTxt.neB (T : ErrTxt K mg B x C) (U : BaseTxt K mg b D) (h : x ≠ b) : C ≠ D := by
  obtain ⟨q, N, bs, sn, sub, ab, col, dd, k0, k1, k2, k3, k5, h1⟩ := T.at_
  obtain ⟨q', N', bs', sn', sub', ab', col', dd', k0', k1', k2', k3', k5', h2⟩ := U.at_
  intro e
  subst e
  rw [h1] at h2
  injection h2 with h2
  injection h2 with _ _ h2 _
  injection h2 with h2
  injection h2 with h2
  exact h h2
/-- its own clause names it -/
theorem ErrTxt.own (T : ErrTxt K mg B x C) : exmOne K (.ref C) (.ref C) = some true := by
  obtain ⟨q, N, bs, sn, sub, ab, col, dd, k0, k1, k2, k3, k5, h⟩ := T.at_
  refine exm_of h rfl ?_
  rw [mro_of h, List.contains_cons, beq_self_eq_true, Bool.true_or]
/-- another's doesn't -/
theorem ErrTxt.other (T : ErrTxt K mg B x C) (S : BaseTxt K mg b B) (U : ErrTxt K mg B y D) (h : x ≠ y) (hb : y ≠ b) : exmOne K (.ref C) (.ref D) = some false := by
  have n1 : C ≠ D := T.ne U h
  have n2 : D ≠ B := U.neB S hb
  obtain ⟨q, N, bs, sn, sub, ab, col, dd, k0, k1, k2, k3, k5, h1⟩ := T.at_
  obtain ⟨q', N', bs', sn', sub', ab', col', dd', k0', k1', k2', k3', k5', h2⟩ := U.at_
  refine exm_of h2 rfl ?_
  rw [mro_of h1]
  have e1 : (Value.ref D == Value.ref C) = false := by simpa using fun z : D = C => n1 z.symm
  have e2 : (Value.ref D == Value.ref B) = false := by simpa using n2
  rw [List.contains_cons, List.contains_cons, e1, e2]
  rfl
/-- the base's does -/
theorem ErrTxt.base (T : ErrTxt K mg B x C) (S : BaseTxt K mg b B) : exmOne K (.ref C) (.ref B) = some true := by
  obtain ⟨q, N, bs, sn, sub, ab, col, dd, k0, k1, k2, k3, k5, h1⟩ := T.at_
  obtain ⟨q', N', bs', sn', sub', ab', col', dd', k0', k1', k2', k3', k5', h2⟩ := S.at_
  refine exm_of h2 rfl ?_
  rw [mro_of h1, List.contains_cons, List.contains_cons, beq_self_eq_true, Bool.true_or, Bool.or_true]
end FX
/-! The one-field __init__ of an error, and the making of the error. -/
namespace FX
open PySem PySem.W PySem.Calls PyProof.Rows PySem.HandSPX
def inA (f : Str) (p1 p2 : Pos) : Arguments := { posonlyargs := [], args := [{ arg := "self", annotation := none, pos := p1 }, { arg := f, annotation := none, pos := p2 }], vararg := none, kwonlyargs := [], kw_defaults := [], kwarg := none, defaults := [] }
def inB (f : Str) (q1 q2 q3 q4 : Pos) : List Stmt := [.Assign [.Attribute (.Name "self" q1) f q2] (.Name f q3) q4]
def inS (f : Str) : Scope := { kind := .function, names := [(PySem.Str.ofString "self", .local), (f, .local)], isGenerator := false, isCoroutine := false, more := [] }
/-- what the written part says of the __init__ (at i) of the class at C: it stores its one argument under f -/
structure InitTxt (K : Frag) (qn f : Str) (C i : Addr) : Prop where
  sa : findIn K (.ref C) "__setattr__" = some (some (.builtin "object.__setattr__"))
  ga : findIn K (.ref C) "__getattribute__" = some (some (.builtin "BaseException.__getattribute__"))
  gg : findIn K (.ref C) "__getattr__" = some none
  noF : findIn K (.ref C) f = some none
  iC : findIn K (.ref C) "__init__" = some (some (.ref i))
  tI : typeIn K (.ref i) = some (.type "function")
  fn : ∃ (oc : Value) (od : Option Addr) (doc pm : Value) (an : Option Addr) (cdv ct : Value) (osl : Array (Option Value)) (p1 p2 q1 q2 q3 q4 : Pos),
    K.lookup i = some ⟨oc, od, .func (fnOf "__init__" qn (inA f p1 p2) (inB f q1 q2 q3 q4) (inS f) .none .none doc pm an cdv ct), osl⟩ ∧ codeIn K cdv qn = true
  ff : f = "at" ∨ f = "word"
theorem InitTxt.taker {K : Frag} {qn f : Str} {C i : Addr} (T : InitTxt K qn f C i) : takerIn K C f = some none := by
  unfold takerIn
  rw [T.noF]
  rfl
/-- an attribute stored into an exception that has none yet -/
theorem store_first {prog : Program} {w : World} {A : Around} {R : Result → Shared → Prop} {hp : Heap} {g : Array GenState} {d : Drawn} {t : Nat} {os : OsState} {K : Frag} {f : Str} {tk : Tok} {v : Value} {x C : Addr} {fv : Array Value}
    (X : K.In hp) (hx : hp.get? x = some { cls := .ref C, data := .fields fv }) (ho : excOver K C tl = true) (hh : hasDictIn K C = true) (ht : takerIn K C f = some none)
    (hq : ∀ h' tk' dx, (∀ b o, b ≠ x → hp.get? b = some o → h'.get? b = some o) → hp.objs.size ≤ dx → dx ≠ x → h'.get? x = some { cls := .ref C, dict := some dx, data := .fields fv } →
      h'.Ns1 dx (fun y => if y = f then some v else none) → R (.ok (.ret .none)) ⟨h', g, d, tk', os⟩) :
    codeAny (model prog w) A (.call (.builtin "object.__setattr__") ⟨[.ref x, .str f tk, v], []⟩) R ⟨hp, g, d, t, os⟩ := by
  have ne : x ≠ hp.objs.size := Nat.ne_of_lt (Heap.lt_size hx)
  refine osa_openX (od := none) (ox := { cls := .ref C, data := .fields fv }) F.store_Exception X ⟨hx, rfl, rfl, trivial⟩ ho ht fun b => ?_
  obtain ⟨cd, hc, hd⟩ := any_some hh
  have Lc : Looks (model prog w) hp (classData C) cd := looks_clsIn X hc
  obtain ⟨nm, bs, mro, ns, qn, hd', sn, sb, ab, col, del⟩ := cd
  dsimp only at hd
  subst hd
  show wpAny _ _ (Builtin.ObjectAttr.storeInOwnDict (.ref x) (.ref C) (.str f tk) f v b) _ _ _
  unfold Builtin.ObjectAttr.storeInOwnDict Builtin.ObjectAttr.ownDictForStores
  repeat (first | (with_reducible refine store_in_new ?_ ?_) | (with_reducible refine wpAny_loadPart_at hx ?_) | (with_reducible refine Lc.at ?_) | wp_step)
  · refine ⟨_, #[], _, (Heap.get?_update_ne _ _ _ _ (Ne.symm ne)).trans (Heap.get?_push_at rfl rfl), rfl, fun e he => ?_, fun _ => rfl⟩
    simp at he
  · intro h' tk' n1 sb'
    have hx1 : (hp.push { cls := .type "dict", data := .dict #[] }).get? x = some { cls := .ref C, data := .fields fv } := Heap.get?_push_of_some _ hx
    refine hq h' tk' hp.objs.size (fun c o hc ho' => ?_) (Nat.le_refl _) (Ne.symm ne) ?_ n1
    · rw [sb'.2 c (Nat.ne_of_lt (Heap.lt_size ho')), Heap.get?_update_ne _ _ _ _ hc]
      exact Heap.get?_push_of_some _ ho'
    · rw [sb'.2 x ne]
      exact Heap.get?_update_self _ hx1 rfl
end FX
namespace FX
open PySem PySem.W PySem.Calls PyProof.Rows PySem.HandSPX
/-- a local name is read -/
theorem local_read {M : Model} {s : Shared} {nm : Str} {sc : Scope} {L a : Addr} {cd : Value} {m : Str → Option Value} {y : Str} {pos : Pos} {v : Value} {Q : Value → Shared → Prop} {A : Around} {E : Value → Shared → Prop}
    (hn : s.heap.Ns L m) (hv : m y = some v) (h : Q v s) (hk : sc.kind = .function := by rfl) (hl : (envOfC nm sc L a cd).kindOf y = some .local := by rfl) (hd : (y == ("__debug__" : Str)) = false := by decide) :
    wpAny M A (eval (.Name y pos) (envOfC nm sc L a cd)) Q E s :=
  wpAny_Name (wpAny_loadName_local hk hl hn hv h) hd
/-- the error at a behind its __init__: its dict at dx holds f -/
structure Inited (h h' : Heap) (a C dx t1 : Addr) (f : Str) (v : Value) : Prop where
  stay : ∀ c o, c ≠ a → h.get? c = some o → h'.get? c = some o
  it : h'.get? a = some { cls := .ref C, dict := some dx, data := .fields #[.ref t1, .none, .none, .none, .bool false, .none] }
  up : h.objs.size ≤ dx
  ne : dx ≠ a
  has : h'.Ns1 dx (fun y => if y = f then some v else none)
section
variable {prog : Program} {w : World} {A : Around} {E : Value → Shared → Prop} {R : Result → Shared → Prop} {s : Shared} {K : Frag} {mg : Str → Option Value} {b x qn f : Str} {B C i : Addr}
theorem init_run (T : ErrTxt K mg B x C) (U : InitTxt K qn f C i) {a t0 : Addr} {v : Value} (X : K.In s.heap) (hlim : s.heap.NoLimit) (ha : s.heap.get? a = some (excO C t0)) (hroom : A.depth < recursionLimit)
    (hq : ∀ h' tk dx, Inited s.heap h' a C dx t0 f v → R (.ok (.ret .none)) { s with heap := h', toks := tk }) : codeAny (model prog w) A (.call (.ref i) ⟨[.ref a, v], []⟩) R s := by
  have hdict := T.dict
  have hover := T.over
  have htk := U.taker
  obtain ⟨oc, od, doc, pm, an, cdv, ct, osl, p1, p2, q1, q2, q3, q4, hfn, hcd⟩ := U.fn
  have hsa := U.sa
  rcases U.ff with e | e
  all_goals
    subst e
    refine Att.call_fn (binds := [("self", .ref a), (_, v)]) X hlim hfn hcd hroom (BindsTo.of_eq (by first | rfl | with_unfolding_all rfl)) (by first | rfl | decide | with_unfolding_all rfl) (fun s1 IC => ?_) rfl rfl rfl
    obtain ⟨h1, tk1, rfl⟩ := IC.toInCall.same
    have kp : ∀ c o, s.heap.get? c = some o → h1.get? c = some o := IC.toInCall.keep
    have ns := IC.toInCall.ns
    have X1 : K.In h1 := X.keeps kp
    have a1 := kp _ _ ha
    show wpAny _ _ (execs _ _) _ _ _
    refine wpAny_execs_cons (plainObj_wpAny_Assign_Attribute ?_)
    refine local_read (v := v) ns (by first | rfl | with_unfolding_all rfl | kernel_rfl) ?_
    refine local_read (v := .ref a) ns (by first | rfl | with_unfolding_all rfl | kernel_rfl) ?_
    refine set_plain X1 (ox := excO C t0) (od := none) ⟨a1, rfl, rfl, trivial⟩ hsa ?_
    refine store_first X1 a1 hover hdict htk (fun h3 tk3 dx k3 dn dne a3 n3 => ?_)
    show wpAny _ _ (execs _ _) _ _ _
    have lt : s.heap.objs.size < h1.objs.size := ns.lt
    exact wpAny_execs_nil (hq h3 tk3 dx ⟨fun c o hc e => k3 c o hc (kp c o e), a3, Nat.le_of_lt (Nat.lt_of_lt_of_le lt dn), dne, n3⟩)
/-- the error made -/
structure MadeErr (h h' : Heap) (e C d : Addr) (f : Str) (v : Value) : Prop where
  stay : ∀ c o, h.get? c = some o → h'.get? c = some o
  new : h.objs.size ≤ e
  it : ∃ oe vs, h'.get? e = some oe ∧ oe.cls = .ref C ∧ oe.dict = some d ∧ oe.data = .fields vs ∧ vs[1]? = some .none
  up : h.objs.size ≤ d
  ne : d ≠ e
  has : h'.Ns1 d (fun y => if y = f then some v else none)
theorem made_run (T : ErrTxt K mg B x C) (U : InitTxt K qn f C i) {v : Value} (X : K.In s.heap) (hlim : s.heap.NoLimit) (hroom : A.depth + 1 < recursionLimit)
    (hq : ∀ h' tk e d, MadeErr s.heap h' e C d f v → R (.ok (.ret (.ref e))) { s with heap := h', toks := tk }) : codeAny (model prog w) A (.call (.ref C) ⟨[v], []⟩) R s := by
  obtain ⟨q, N, bs, sn, sub, ab, col, dd, k0, k1, k2, k3, k5, hC⟩ := T.at_
  obtain ⟨hp, g, dr, tk, os⟩ := s
  have kp : ∀ c o, hp.get? c = some o → ((hp.push (kdv_tup [v])).push (excO C hp.objs.size)).get? c = some o := fun c o e => Heap.get?_push_of_some _ (Heap.get?_push_of_some _ e)
  have it : ((hp.push (kdv_tup [v])).push (excO C hp.objs.size)).get? (hp.objs.size + 1) = some (excO C hp.objs.size) := by heap_get
  refine call_own F.excBase_Exception (bm := .ref B :: tl) (fun Y => excTail_contains (bmB := tl) Y _ (by show excTail tl tl = true; decide +kernel)) (X _ _ hC) (looks_findIn X U.iC) (fun self => bind_fn X self U.tI)
    (by show 1 ≤ sizeLine; rw [sizeLine_eq]; omega) ?_
  refine init_run (s := ⟨(hp.push (kdv_tup [v])).push (excO C hp.objs.size), g, dr, tk, os⟩) T U (X.keeps kp) (hlim.keeps kp) it ?_ fun h' tk' dx ⟨st, hx, dn, dne, hns⟩ => ?_
  · show A.depth + 1 < recursionLimit
    exact hroom
  · have old : ∀ c o, hp.get? c = some o → h'.get? c = some o := fun c o e => st c o (Nat.ne_of_lt (Nat.lt_succ_of_lt (Heap.lt_size e))) (kp c o e)
    have z : hp.objs.size + 1 + 1 ≤ dx := by
      have q := dn
      rw [Heap.size_push, Heap.size_push] at q
      exact q
    refine ⟨rfl, hq h' tk' (hp.objs.size + 1) dx ⟨old, Nat.le_succ _, ⟨_, _, hx, rfl, rfl, rfl, rfl⟩, ?_, dne, hns⟩⟩
    show hp.objs.size ≤ dx
    omega
end
end FX
/-! The error made by a call with the field's name: x(f=v). -/
namespace FX
open PySem PySem.W PySem.Calls PyProof.Rows PySem.HandSPX
section
variable {prog : Program} {w : World} {A : Around} {E : Value → Shared → Prop} {R : Result → Shared → Prop} {s : Shared} {K : Frag} {mg : Str → Option Value} {b x qn f : Str} {B C i : Addr}
theorem init_kw (T : ErrTxt K mg B x C) (U : InitTxt K qn f C i) {a t0 : Addr} {v : Value} (X : K.In s.heap) (hlim : s.heap.NoLimit) (ha : s.heap.get? a = some (excO C t0)) (hroom : A.depth < recursionLimit)
    (hq : ∀ h' tk dx, Inited s.heap h' a C dx t0 f v → R (.ok (.ret .none)) { s with heap := h', toks := tk }) : codeAny (model prog w) A (.call (.ref i) ⟨[.ref a], [(f, v)]⟩) R s := by
  have hdict := T.dict
  have hover := T.over
  have htk := U.taker
  obtain ⟨oc, od, doc, pm, an, cdv, ct, osl, p1, p2, q1, q2, q3, q4, hfn, hcd⟩ := U.fn
  have hsa := U.sa
  rcases U.ff with e | e
  all_goals
    subst e
    refine Att.call_fn (binds := [("self", .ref a), (_, v)]) X hlim hfn hcd hroom (BindsTo.of_eq (by first | rfl | with_unfolding_all rfl)) (by first | rfl | decide | with_unfolding_all rfl) (fun s1 IC => ?_) rfl rfl rfl
    obtain ⟨h1, tk1, rfl⟩ := IC.toInCall.same
    have kp : ∀ c o, s.heap.get? c = some o → h1.get? c = some o := IC.toInCall.keep
    have ns := IC.toInCall.ns
    have X1 : K.In h1 := X.keeps kp
    have a1 := kp _ _ ha
    show wpAny _ _ (execs _ _) _ _ _
    refine wpAny_execs_cons (plainObj_wpAny_Assign_Attribute ?_)
    refine local_read (v := v) ns (by first | rfl | with_unfolding_all rfl | kernel_rfl) ?_
    refine local_read (v := .ref a) ns (by first | rfl | with_unfolding_all rfl | kernel_rfl) ?_
    refine set_plain X1 (ox := excO C t0) (od := none) ⟨a1, rfl, rfl, trivial⟩ hsa ?_
    refine store_first X1 a1 hover hdict htk (fun h3 tk3 dx k3 dn dne a3 n3 => ?_)
    show wpAny _ _ (execs _ _) _ _ _
    have lt : s.heap.objs.size < h1.objs.size := ns.lt
    exact wpAny_execs_nil (hq h3 tk3 dx ⟨fun c o hc e => k3 c o hc (kp c o e), a3, Nat.le_of_lt (Nat.lt_of_lt_of_le lt dn), dne, n3⟩)
end
section
variable {M : Model} {prog : Program} {w : World} {A : Around} {E : Value → Shared → Prop} {R : Result → Shared → Prop} {h : Heap} {g : Array GenState} {d : Drawn} {t : Nat} {os : OsState}
variable {nm q : Str} {C N : Addr} {bs bm : List Value} {hdct : Bool} {sn : List Str} {sub : List Value} {ab : Bool} {col : Option Bool} {dd : Option Addr} {k0 k1 k2 k3 k5 : Option Value}
/-- the base's own tail, told -/
structure TailIs (bm : List Value) : Prop where
  ex : bm.contains (.type "Exception") = true
  atr : bm.contains (.type "AttributeError") = false
  nme : bm.contains (.type "NameError") = false
theorem check_call_kw {kw : List (Str × Value)} {Q : Unit → Shared → Prop} (hC : h.get? C = some (excClassObj nm q C N bs bm hdct sn sub ab col dd k0 k1 k2 k3 k5 "Exception.__new__")) (hq : Q () ⟨h, g, d, t, os⟩) :
    wpAny M A (checkBuiltinCall "type.__call__" ⟨[.ref C], kw⟩) Q E ⟨h, g, d, t, os⟩ := by
  have f3 := tc_sub
  have hT : (⟨h, g, d, t, os⟩ : Shared).TypeIs (.ref C) "type" := ⟨_, hC, rfl⟩
  simp only [checkBuiltinCall, tc_kind, tc_split]
  repeat (any_goals (first | assumption | (with_reducible refine wpAny_loadPart_at hC ?_) | (with_reducible refine wpAny_onRaise ?_) | (with_reducible refine wpAny_map ?_) | wp_step))
theorem check_new_kw (T : TailIs bm) {kw : List (Str × Value)} {Q : Unit → Shared → Prop} (hC : h.get? C = some (excClassObj nm q C N bs bm hdct sn sub ab col dd k0 k1 k2 k3 k5 "Exception.__new__")) (hq : Q () ⟨h, g, d, t, os⟩) :
    wpAny M A (checkBuiltinCall "Exception.__new__" ⟨[.ref C], kw⟩) Q E ⟨h, g, d, t, os⟩ := by
  have FB := F.excBase_Exception
  have hc : (Value.ref C :: bm).contains (.type "Exception") = true := by rw [List.contains_cons, T.ex, Bool.or_true]
  have hstar := FB.noStar
  simp only [checkBuiltinCall, FB.newKind, FB.newSplit, FB.newRow]
  repeat (first | (refine wpAny_loadPart_at hC ?_) | (refine wpAny_isSubtype_exc hC ?_; rw [hc]) | (refine wpAny_staticBase_exc hC ?_) | (refine wpAny_madeBy_exc hC ?_) | (simp only [bne_self_eq_false, Bool.false_eq_true, if_false]) | wp_step)
  exact hq
theorem new_kw (T : TailIs bm) {kw : List (Str × Value)} (hC : h.get? C = some (excClassObj nm q C N bs bm hdct sn sub ab col dd k0 k1 k2 k3 k5 "Exception.__new__"))
    (hq : R (.ok (.ret (.ref (h.objs.size + 1)))) ⟨(h.push { cls := .type "tuple", data := .seq #[] }).push (excO C h.objs.size), g, d, t, os⟩) :
    codeAny (model prog w) A (.builtin "Exception.__new__" ⟨[.ref C], kw⟩) R ⟨h, g, d, t, os⟩ := by
  have FB := F.excBase_Exception
  have hends := FB.ends
  have c1 : (Value.ref C :: bm).contains (.type "Exception") = true := by rw [List.contains_cons, T.ex, Bool.or_true]
  have c2 : (Value.ref C :: bm).contains (.type "AttributeError") = false := by
    rw [List.contains_cons, T.atr]
    rfl
  have c3 : (Value.ref C :: bm).contains (.type "NameError") = false := by
    rw [List.contains_cons, T.nme]
    rfl
  refine codeAny_builtinAt FB.entry ?_
  unfold Builtin.«BaseException.__new__»
  refine PySem.wpAt_bind ?_
  show PySem.wpAt _ _ _ (stack >>= _) _ _ _
  refine PySem.wpAt_bind (PySem.wpAt_stack fun p below => PySem.wpAt_of_wpAny ?_)
  wp_walk
  refine PySem.wpAt_of_wpAny ?_
  rw [FB.owner]
  repeat (first | (with_reducible refine wpAny_madeHere_exc FB.canon hC ?_) | (with_reducible refine wpAny_loadPart_at hC ?_) | (with_reducible refine wpAny_isSubtype_exc hC ?_; first | rw [c1] | rw [c2] | rw [c3]) | wp_step)
  show R _ _
  rw [Heap.size_push]
  exact hq
theorem type_call_kw (T : TailIs bm) {kw : List (Str × Value)} {i : Addr} {Q : Fin → Shared → Prop} (hC : h.get? C = some (excClassObj nm q C N bs bm hdct sn sub ab col dd k0 k1 k2 k3 k5 "Exception.__new__"))
    (hi : Looks (model prog w) h (typeLookup (.ref C) "__init__") (some (.ref i))) (hb : ∀ self, Looks (model prog w) h (bindSpecial (.ref i) self) (.ref i, [self]))
    (hq : codeAny (model prog w) A (.call (.ref i) ⟨[.ref (h.objs.size + 1)], kw⟩)
      (fun r s' => match r with | .ok (.ret v) => v = .none ∧ Q (.done (.ret (.ref (h.objs.size + 1)))) s' | .ok _ => False | .error e => E e s')
      ⟨(h.push (kdv_tup [])).push (excO C h.objs.size), g, d, t, os⟩) :
    wpAny (model prog w) A (Builtin.«type.__call__» ⟨[.ref C], kw⟩) Q E ⟨h, g, d, t, os⟩ := by
  have FB := F.excBase_Exception
  repeat (first | (with_reducible refine wpAny_loadPart_at hC ?_) | (with_reducible refine wpAny_madeBy_exc hC ?_) | wp_step)
  refine codeAny_call_builtin_code (Code.quiet_builtin _ FB.quiet) (check_new_kw T hC ?_)
  refine new_kw T hC ?_
  show wpAny _ _ _ _ _ _
  have kp : ∀ c o, h.get? c = some o → ((h.push (kdv_tup [])).push (excO C h.objs.size)).get? c = some o := fun c o e => Heap.get?_push_of_some _ (Heap.get?_push_of_some _ e)
  have hC1 := kp _ _ hC
  have it : ((h.push (kdv_tup [])).push (excO C h.objs.size)).get? (h.objs.size + 1) = some (excO C h.objs.size) := by heap_get
  have cc : (Value.ref C :: bm).contains (.ref C) = true := by simp
  have i1 := hi.keeps kp
  have b1 := (hb (.ref (h.objs.size + 1))).keeps kp
  unfold isInstance
  repeat (first | (with_reducible refine wpAny_loadPart_at it ?_) | (with_reducible refine wpAny_isSubtype_exc hC1 ?_; rw [cc]) | wp_step)
  show wpAny _ _ (typeLookup (.ref C) _) _ _ _
  refine i1.at (wpAny_holding (wpAny_bind (b1.at (wpAny_bind (wpAny_call (codeAny_mono hq fun r s' z => ?_))))))
  rcases r with e | (v | _ | _ | _) <;> first | exact z | exact z.elim | skip
  obtain ⟨rfl, z⟩ := z
  first
    | exact wpAny_pure (wpAny_pure z)
    | (wp_walk; exact z)
theorem call_kw (T : TailIs bm) {kw : List (Str × Value)} {i : Addr} (hC : h.get? C = some (excClassObj nm q C N bs bm hdct sn sub ab col dd k0 k1 k2 k3 k5 "Exception.__new__"))
    (hi : Looks (model prog w) h (typeLookup (.ref C) "__init__") (some (.ref i))) (hb : ∀ self, Looks (model prog w) h (bindSpecial (.ref i) self) (.ref i, [self]))
    (hq : codeAny (model prog w) (A.under (.builtin "type.__call__" ⟨[.ref C], kw⟩)) (.call (.ref i) ⟨[.ref (h.objs.size + 1)], kw⟩) (InitBack (h.objs.size + 1) R)
      ⟨(h.push (kdv_tup [])).push (excO C h.objs.size), g, d, t, os⟩) :
    codeAny (model prog w) A (.call (.ref C) ⟨[], kw⟩) R ⟨h, g, d, t, os⟩ := by
  have f1 := tc_lookup
  have f2 := tc_bind (.ref C)
  have hT : (⟨h, g, d, t, os⟩ : Shared).TypeIs (.ref C) "type" := ⟨_, hC, rfl⟩
  refine codeAny_of_tree ?_
  show wpAny _ _ (callAny (.ref C) _) _ _ _
  repeat (any_goals (first | assumption | (with_reducible refine wpAny_loadPart_at hC ?_) | wp_step))
  refine ⟨rfl, ?_⟩
  refine codeAny_call_builtin_at (Code.quiet_builtin _ (by decide +kernel)) entry_typeCall (check_call_kw hC (type_call_kw T hC hi hb ?_))
  refine codeAny_mono hq fun r s' z => ?_
  rcases r with e | (v | _ | _ | _) <;> exact z
end
section
variable {prog : Program} {w : World} {A : Around} {E : Value → Shared → Prop} {R : Result → Shared → Prop} {s : Shared} {K : Frag} {mg : Str → Option Value} {b x qn f : Str} {B C i : Addr}
theorem made_kw (T : ErrTxt K mg B x C) (U : InitTxt K qn f C i) {v : Value} (X : K.In s.heap) (hlim : s.heap.NoLimit) (hroom : A.depth + 1 < recursionLimit)
    (hq : ∀ h' tk e d, MadeErr s.heap h' e C d f v → R (.ok (.ret (.ref e))) { s with heap := h', toks := tk }) : codeAny (model prog w) A (.call (.ref C) ⟨[], [(f, v)]⟩) R s := by
  obtain ⟨q, N, bs, sn, sub, ab, col, dd, k0, k1, k2, k3, k5, hC⟩ := T.at_
  obtain ⟨hp, g, dr, tk, os⟩ := s
  have kp : ∀ c o, hp.get? c = some o → ((hp.push (kdv_tup [])).push (excO C hp.objs.size)).get? c = some o := fun c o e => Heap.get?_push_of_some _ (Heap.get?_push_of_some _ e)
  have it : ((hp.push (kdv_tup [])).push (excO C hp.objs.size)).get? (hp.objs.size + 1) = some (excO C hp.objs.size) := by heap_get
  refine call_kw ⟨rfl, rfl, rfl⟩ (X _ _ hC) (looks_findIn X U.iC) (fun self => bind_fn X self U.tI) ?_
  refine init_kw (s := ⟨(hp.push (kdv_tup [])).push (excO C hp.objs.size), g, dr, tk, os⟩) T U (X.keeps kp) (hlim.keeps kp) it ?_ fun h' tk' dx ⟨st, hx, dn, dne, hns⟩ => ?_
  · show A.depth + 1 < recursionLimit
    exact hroom
  · have old : ∀ c o, hp.get? c = some o → h'.get? c = some o := fun c o e => st c o (Nat.ne_of_lt (Nat.lt_succ_of_lt (Heap.lt_size e))) (kp c o e)
    have z : hp.objs.size + 1 + 1 ≤ dx := by
      have q := dn
      rw [Heap.size_push, Heap.size_push] at q
      exact q
    refine ⟨rfl, hq h' tk' (hp.objs.size + 1) dx ⟨old, Nat.le_succ _, ⟨_, _, hx, rfl, rfl, rfl, rfl⟩, ?_, dne, hns⟩⟩
    show hp.objs.size ≤ dx
    omega
end
end FX
/-! The layer's rules for such errors. -/
namespace FX
open PySem PySem.Spec PyProof.Rows L2
/-- what a field's dict answers -/
theorem one_field {v : V} {u : Value} (r : RelV v u) (f g : Str) : RelO (List.lookup g [(f, v)]) (if g = f then some u else none) := by
  by_cases e : g = f
  · subst e
    have q : List.lookup g [(g, v)] = some v := by simp [List.lookup]
    rw [q, if_pos rfl]
    exact r
  · have q : List.lookup g [(f, v)] = none := by
      have z : (g == f) = false := by simpa using e
      simp [List.lookup, z]
    rw [q, if_neg e]
    exact True.intro
section
variable {X : Cx} {x b qn f : Str} {B C i : Addr}
/-- behind the making: the error is no object of ours, its dict is -/
theorem make_end {pins : List (Addr × Obj)} {σ : L2.St} {H1 : Hp} {s1 : Shared} {h' : Heap} {tk' : Nat} {e d : Addr} {v : V} {u : Value} (I1 : Inv X pins σ H1 s1) (rv : RelV v u) (M : MadeErr s1.heap h' e C d f u) :
    ∃ G : Heap, Inv X pins σ (upd H1 d (.xd [(f, v)])) { s1 with heap := G, toks := tk' } ∧ (∀ c o, G.get? c = some o → h'.get? c = some o) ∧ G.get? e = none ∧ (upd H1 d (.xd [(f, v)])) e = none ∧ H1 d = none := by
  obtain ⟨G, g1, g2⟩ := restrict h' fun c => decide (c ≠ e)
  have gk : ∀ c, c ≠ e → G.get? c = h'.get? c := fun c hc => g1 c (decide_eq_true hc)
  have ge : G.get? e = none := g2 e (by simp)
  have ob : ObjOk X.prog X.w (upd H1 d (.xd [(f, v)])) G d (.xd [(f, v)]) := ⟨_, M.has.at (fun o q => (gk d M.ne).trans q), fun g => one_field rv f g⟩
  refine ⟨G, I1.laid (fun c o q => ?_) M.up ob, fun c o q => ?_, ge, ?_, I1.hok.fresh M.up⟩
  · have hce : c ≠ e := Nat.ne_of_lt (Nat.lt_of_lt_of_le (Heap.lt_size q) M.new)
    rw [gk c hce]
    exact M.stay c o q
  · by_cases hce : c = e
    · subst hce
      rw [ge] at q
      cases q
    · rw [← gk c hce]
      exact q
  · rw [upd_ne (Ne.symm M.ne)]
    exact I1.hok.fresh M.new
/-- x(e), e's value kept under f -/
def tMk (C : Addr) (f : Str) (ta : TA) : L2.St → Hp → XK → Prop := fun σ H Q => ta σ H fun vs H1 => ∃ v, vs = [v] ∧ ∀ d, H1 d = none → Q (.ref C) (some d) (upd H1 d (.xd [(f, v)]))
theorem pmk_err {a : Expr} {ta : TA} {p pos : Pos} {k : Nat} (T : ErrTxt X.K X.mg B x C) (U : InitTxt X.K qn f C i) (hr : Room k X.A) (ha : PA X [a] ta) (hg : Gl X x := by rfl) (hdb : (x == ("__debug__" : Str)) = false := by decide)
    (he : starEach (a :: []) X.env = (false, eval a X.env) :: starEach [] X.env := by rfl) (hpl : (backTo pos (starEach [] X.env)).any (·.1) = false := by rfl) :
    PMk X (.Call (.Name x p) [a] [] pos) (tMk C f ta) := fun pins s σ H Q I h => by
  refine wpAny_Call_Name_kw (ld_glob I hg T.gC ?_ hdb)
  refine PySem.W.callWith_K (h₀ := X.base) I.ok.mod.kin T.kC (thn (ha.run pos pins s σ H _ I h) fun us s1 hh => ?_) he hpl
  obtain ⟨vs, H1, I1, r1, v, ev, q1⟩ := hh
  subst ev
  cases r1 with
  | @cons _ u _ us' rv rn =>
    cases rn
    refine ⟨I1.kIn, ?_⟩
    show wpAny _ _ (call (.ref C) [u]) _ _ _
    refine wpAny_call (made_run T U I1.kIn I1.nolimit (by have := hr.dp; omega) fun h' tk' e d M => ?_)
    obtain ⟨G, J, kG, ge, ne, nd⟩ := make_end (tk' := tk') I1 rv M
    obtain ⟨oe, fv, hoe, hc, hd, hdat, h1⟩ := M.it
    exact ⟨e, oe, fv, _, _, .ref C, some d, rfl, J, kG, ge, hoe, ⟨hc, hd⟩, hdat, h1, ne, rfl, I1.bare, raises_own T.sub T.ty, q1 d nd⟩
def tRaise (C : Addr) (f : Str) (W : WX) (ta : TA) : TS := fun _ σ H => tMk C f ta σ H fun cls d H' => W cls d σ H'
/-- raise x(e) -/
theorem ps_err {a : Expr} {ta : TA} {W : WX} {p pos pos2 : Pos} {k : Nat} (hc : X.calm = true) (T : ErrTxt X.K X.mg B x C) (U : InitTxt X.K qn f C i) (hr : Room k X.A) (tk : Takes X W) (ha : PA X [a] ta) (hg : Gl X x := by rfl) (hdb : (x == ("__debug__" : Str)) = false := by decide)
    (he : starEach (a :: []) X.env = (false, eval a X.env) :: starEach [] X.env := by rfl) (hpl : (backTo pos (starEach [] X.env)).any (·.1) = false := by rfl) :
    PS X (.Raise (some (.Call (.Name x p) [a] [] pos)) none pos2) (tRaise C f W ta) := ps_raise hc tk (pmk_err T U hr ha hg hdb he hpl)
/-- x() where no class over it has an __init__ of the program -/
theorem pmk_bare {bmB : List Value} {Bn newId initId : String} {p pos : Pos} (F : ExcBaseFacts Bn newId initId bmB) (q : PySem.W.excIn X.K C bmB newId = true) (gC : X.mg x = some (.ref C)) (kC : PySem.W.keepIn X.K (.ref C) = true) (r : Raises X (.ref C)) (hg : Gl X x := by rfl)
    (hdb : (x == ("__debug__" : Str)) = false := by decide) : PMk X (.Call (.Name x p) [] [] pos) (fun _ H Q => Q (.ref C) none H) := fun pins s σ H Q I h => by
  refine wpAny_Call_Name_kw (ld_glob I hg gC ?_ hdb)
  refine PySem.W.callWith_K0 (K := X.K) (Inv.kIn (I.tok _)) kC ?_
  show wpAny _ _ (call (.ref C) []) _ _ _
  obtain ⟨bm, N, nm, qn, bs, hdct, sn, sub, ab, col, dd, k0, k1, k2, k3, k5, mN, hC, hN, hni, T⟩ := exc_obj I.kIn q
  refine wpAny_call_exc_subT F T hC hN hni (fun h' e hm => ?_) (by show 0 ≤ sizeLine; exact Nat.zero_le _)
  exact mk_of (I.tok _) hm r h (I.hok.gone hm.new)
/-- x(f=e).f: the error is dropped -/
theorem pe_kwfield {e : Expr} {kp p2 p3 pos : Pos} {te : TE} {k : Nat} (T : ErrTxt X.K X.mg B x C) (U : InitTxt X.K qn f C i) (hr : Room k X.A) (he : PE X e te) (hg : Gl X x := by rfl) (hdb : (x == ("__debug__" : Str)) = false := by decide)
    (hb : attributeBase (.Call (.Name x p2) [] [{ arg := some f, value := e, pos := kp }] p3) f X.env (eval (.Call (.Name x p2) [] [{ arg := some f, value := e, pos := kp }] p3) X.env) = eval (.Call (.Name x p2) [] [{ arg := some f, value := e, pos := kp }] p3) X.env := by rfl) :
    PE X (.Attribute (.Call (.Name x p2) [] [{ arg := some f, value := e, pos := kp }] p3) f pos) te := by
  refine ⟨fun pins s σ H Q I h => attr_of hb ?_⟩
  refine wpAny_Call_Name_kw (ld_glob I hg T.gC ?_ hdb)
  refine PySem.W.callWith_KW0 (K := X.K) (h₀ := X.base) I.ok.mod.kin T.kC rfl ?_ rfl
  let Q1 : List V → Hp → Prop := fun vs H1 => match vs with
    | v :: _ => Q v H1
    | [] => False
  refine thn ((pk_cons (nm := some f) (kpos := kp) he pk_nil).run p3 pins _ σ H Q1 (I.tok _) h) fun us s1 hh => ?_
  obtain ⟨vs, H1, I1, r1, q1⟩ := hh
  cases r1 with
  | nil => exact q1.elim
  | @cons v u _ us' rv rn =>
    refine ⟨I1.kIn, ?_⟩
    show wpAny _ _ (call (.ref C) [] [(f, u)]) _ _ _
    refine wpAny_call (made_kw T U I1.kIn I1.nolimit (by have := hr.dp; omega) fun h' tk' e d M => ?_)
    obtain ⟨oe, fv, hoe, hc, hd, hdat, h1⟩ := M.it
    obtain ⟨od, ho, hl⟩ := lookIn_ns M.has
    have J : PySem.W.InstAt h' e oe C (some od) := ⟨hoe, hc, by unfold PySem.W.notCls; rw [hdat] <;> rfl, by rw [hd]; exact ho⟩
    refine HandSPX.exc_get (s := { s1 with heap := h', toks := tk' }) (I1.kIn.keeps M.stay) J U.ga U.gg T.sub (v := u) (PySem.W.findObj_own T.dict U.noF rfl (by rw [hl, if_pos rfl])) (handed_of rv) ?_
    exact ⟨v, H1, (I1.kept M.stay), rv, q1⟩
/-- what e.f reads off an error at a that a suite holds -/
def tFld (C : Addr) (f : Str) (a : Addr) (cls : Value) (d : Option Addr) (te : TE) : TE := fun σ H Q => te σ H fun z H1 => z = .ref a ∧ cls = .ref C ∧ ∃ (dd : Addr) (v : V), d = some dd ∧ H1 dd = some (.xd [(f, v)]) ∧ Q v H1
theorem pe_errfield {a : Addr} {oe : Obj} {cls : Value} {d : Option Addr} {pn : List (Addr × Obj)} {e : Expr} {te : TE} {pos : Pos} (T : ErrTxt X.K X.mg B x C) (U : InitTxt X.K qn f C i) (hz : Zc cls d oe) (hf : ∃ vs, oe.data = .fields vs) (he : PE (X.suite a ((a, oe) :: pn)) e te)
    (hb : attributeBase e f X.env (eval e X.env) = eval e X.env := by rfl) : PE (X.suite a ((a, oe) :: pn)) (.Attribute e f pos) (tFld C f a cls d te) := by
  refine ⟨fun pins s σ H Q I h => attr_of hb (thn (he.run pins s σ H _ I h) fun u s1 hh => ?_)⟩
  obtain ⟨z, H1, I1, rz, ez, ec, dd, v, ed, ea, q⟩ := hh
  subst ez ec ed
  obtain rfl : u = Value.ref a := rz
  obtain ⟨at_a, _⟩ := I1.pin (a, oe) (List.mem_append_left _ List.mem_cons_self)
  obtain ⟨vs, hd⟩ := hf
  obtain ⟨mA, hns, hrel⟩ : ObjOk X.prog X.w H1 s1.heap dd (.xd [(f, v)]) := I1.hok dd _ ea
  obtain ⟨od, ho, hl⟩ := lookIn_ns hns
  obtain ⟨w', hw, rw'⟩ := RelO.some_of (v := v) (o := mA f) (by
    have q := hrel f
    simpa [List.lookup] using q)
  have J : PySem.W.InstAt s1.heap a oe C (some od) := ⟨at_a, hz.1, by unfold PySem.W.notCls; rw [hd] <;> rfl, by rw [hz.2]; exact ho⟩
  exact HandSPX.exc_get I1.kIn J U.ga U.gg T.sub (PySem.W.findObj_own T.dict U.noF rfl (by rw [hl, hw])) (handed_of rw') ⟨v, H1, I1.tok _, rw', q⟩
end
end FX
/-! try: .. with several clauses, each with a name for the error or without one. -/
namespace FX
open PySem PySem.Spec PyProof.Rows L2
/-- a suite: the error's address, class, dict; then as a statement -/
abbrev Su := Addr → Value → Option Addr → TS
/-- behind a suite the slot i of the error's name is empty -/
def gone (i : Nat) (D : Ends) : Ends := { nx := fun σ H => D.nx (σ.set i none) H, rt := D.rt, bk := fun σ H => D.bk (σ.set i none) H, ct := fun σ H => D.ct (σ.set i none) H }
/-- what the clauses wish of the body's error; a clause: the class, the name's slot, the suite -/
def wCl (K : PySem.W.Frag) (Wout : WX) (D : Ends) : List (Value × Option Nat × Su) → WX
  | [] => Wout
  | (c, none, t) :: r => fun cls d σ H => ∃ y, PySem.W.exmOne K cls c = some y ∧ (y = true → ∀ a, H a = none → t a cls d D σ H) ∧ (y = false → wCl K Wout D r cls d σ H)
  | (c, some i, t) :: r => fun cls d σ H => ∃ y, PySem.W.exmOne K cls c = some y ∧ (y = true → ∀ a, H a = none → t a cls d (gone i D) (σ.set i (some (.ref a))) H) ∧ (y = false → wCl K Wout D r cls d σ H)
/-- the clauses' suites as terms of rules -/
inductive Cl (X : Cx) : List ExceptHandler → List (Value × Option Nat × Su) → Prop
  | nil : Cl X [] []
  | bare {x : Str} {c : Value} {t : Su} {b₀ : Stmt} {more : List Stmt} {np pos : Pos} {hds : List ExceptHandler} {l : List (Value × Option Nat × Su)} (hc : Names X x c)
      (hs : ∀ (a : Addr) (oe : Obj) (cls : Value) (d : Option Addr) (pn : List (Addr × Obj)), Zc cls d oe → (∃ vs, oe.data = .fields vs) → PSs (X.suite a ((a, oe) :: pn)) (b₀ :: more) (t a cls d)) (r : Cl X hds l) :
      Cl X (.ExceptHandler (some (.Name x np)) none (b₀ :: more) pos :: hds) ((c, none, t) :: l)
  | named {x n : Str} {i : Nat} {c : Value} {t : Su} {b₀ : Stmt} {more : List Stmt} {np pos : Pos} {hds : List ExceptHandler} {l : List (Value × Option Nat × Su)} (hi : X.N[i]? = some n) (hln : X.env.kindOf n = some .local) (hc : Names X x c)
      (hs : ∀ (a : Addr) (oe : Obj) (cls : Value) (d : Option Addr) (pn : List (Addr × Obj)), Zc cls d oe → (∃ vs, oe.data = .fields vs) → PSs (X.suite a ((a, oe) :: pn)) (b₀ :: more) (t a cls d)) (r : Cl X hds l) :
      Cl X (.ExceptHandler (some (.Name x np)) (some n) (b₀ :: more) pos :: hds) ((c, some i, t) :: l)
section
variable {X : Cx} {pins pins' : List (Addr × Obj)} {σ : L2.St} {H : Hp} {D : Ends} {Wout : WX} {a : Addr} {B : Heap} {sI s' : Shared} {cls : Value} {d : Option Addr}
/-- what is known when the clauses are asked -/
structure Asked (X : Cx) (pins : List (Addr × Obj)) (σ : L2.St) (H : Hp) (a : Addr) (B : Heap) (sI s' : Shared) (cls : Value) (d : Option Addr) (h3 : Heap) : Prop where
  J : Inv X pins σ H sI
  nb : ∀ b o, sI.heap.get? b = some o → b ∉ frs X.stack → B.get? b = some o
  up : sI.heap.UpToSlots h3
  fl : HandSPX.FlyingZ B (X.env :: X.outer) a (Zc cls d) h3
  na : H a = none
  os : s'.os = sI.os
  ag : AllBare s'.gens
theorem Asked.far (Z : Asked X pins σ H a B sI s' cls d h3) {h : Heap} {o : Obj} {vs : Array Value} (ff : h.FunFrames B (X.env :: X.outer)) (e : h.get? a = some o) (dd : o.data = .fields vs) : a ∉ frs (X.env :: X.outer) := fun hm => by
  obtain ⟨_, o', e', hnf⟩ := ff.mem hm
  rw [e] at e'
  cases e'
  exact hnf _ dd
theorem Asked.notL (Z : Asked X pins σ H a B sI s' cls d h3) (hf : X.env.frame = some X.env.locals) : a ≠ X.env.locals ∧ a ∉ X.fs := by
  obtain ⟨oe, vs, he, hz, hd⟩ := Z.fl.there
  have nfr := Z.far Z.fl.2.2.1 he hd
  refine ⟨fun z => nfr (List.mem_filterMap.mpr ⟨X.env, List.mem_cons_self, by rw [hf, z]⟩), fun hm => ?_⟩
  obtain ⟨e, q1, q2⟩ := List.mem_filterMap.mp hm
  exact nfr (List.mem_filterMap.mpr ⟨e, List.mem_cons_of_mem _ q1, q2⟩)
/-- the clauses, one behind another -/
theorem clauses (ok : X.Ok) (hs : X.stack = X.env :: X.outer) (hf : X.env.frame = some X.env.locals) (hN : X.N.Nodup) (tk : Takes X Wout) {h3 : Heap} (Z : Asked X pins σ H a B sI s' cls d h3) :
    ∀ {hds : List ExceptHandler} {l : List (Value × Option Nat × Su)}, Cl X hds l → wCl X.K Wout D l cls d σ H → wpAny (model X.prog X.w) X.A (handleBy (.ref a) X.env hds) (SP X pins D) X.xe { s' with heap := h3 } := by
  obtain ⟨nL, nF⟩ := Z.notL hf
  obtain ⟨oe3, vs3, he3, hz3, hd3⟩ := Z.fl.there
  have S3 := (Z.J.landed Z.nb Z.fl.1 (s' := { s' with heap := h3 }) Z.up Z.os Z.ag).suite he3 hd3 Z.na nL nF
  have kin : X.K.In h3 := (Z.J.landed Z.nb Z.fl.1 (s' := { s' with heap := h3 }) Z.up Z.os Z.ag).kIn
  have ask : ∀ {x : Str} {np : Pos} {c : Value} {Q : Value → Shared → Prop} {E : Value → Shared → Prop}, Names X x c → Q c { s' with heap := h3 } → wpAny (model X.prog X.w) (X.A.mark (some (.ref a))) (eval (.Name x np) X.env) Q E { s' with heap := h3 } := fun {x np c Q E} hc q => by
    obtain ⟨hg, hdbg, hm | ⟨hm, hv, hnn⟩⟩ := hc
    · exact ld_glob (X := X.suite a ((a, oe3) :: (X.pn ++ pins))) S3 hg hm q hdbg
    · exact ld_blt (X := X.suite a ((a, oe3) :: (X.pn ++ pins))) S3 hg hm hv q hnn hdbg
  have fits : ∀ {c : Value} {y : Bool}, PySem.W.exmOne X.K cls c = some y → PySem.W.Looks (model X.prog X.w) h3 (excMatches (.ref a) c) y := fun e =>
    PySem.W.exm_one (M := model X.prog X.w) kin (fun A Q E s k q => wpAny_typeOf_ref (k _ _ he3) (by rw [hz3.1]; exact q)) e
  intro hds l hk
  induction hk with
  | nil =>
    intro w
    refine wpAny_handleBy_nil ?_
    obtain ⟨k1, k2, k3, oe, vs, T, oT, ts', he, hz, hd, h1, hr⟩ := id Z.fl
    have fin : wpAny (model X.prog X.w) X.A (setFlight (.ref a) X.env.frame) (fun _ s4 => wpAny (model X.prog X.w) X.A (throw (.ref a) : Sem Flow) (SP X pins D) X.xe s4) X.xe { s' with heap := h3 } := by
      rw [hf]
      refine HandSPX.setFlight_upZ Z.fl fun h4 hh4 up4 => wpAny_throw (tk _ _ ?_)
      exact ⟨a, B, sI, pins, σ, H, cls, d, rfl, Z.J, Z.nb, Z.up.trans up4, .inr (.inr (by rw [hs]; exact hh4)), Z.na, Z.os, Z.ag, w⟩
    unfold PySem.passOn
    refine wpAny_bind (wpAny_field he hd h1 ?_)
    rw [if_neg (show ¬ ((Value.ref T == Value.none) = true) from by simp)]
    first
      | exact wpAny_bind (wpAny_pure (wpAny_bind fin))
      | exact wpAny_bind fin
  | @bare x c t b₀ more np pos hds2 l2 hc hsu r ih =>
    intro ⟨y, e, yes, no⟩
    refine wpAny_handleBy_cons (codeAny_handlers_test (ask hc ((fits e).here ?_))) (by intro q; cases q)
    cases y with
    | false => exact ih (no rfl)
    | true =>
      refine codeAny_handlers_suite (HandSPX.lands_againZ Z.fl fun h4 fl4 up4 => ?_)
      have J4 : Inv X pins σ H { s' with heap := h4 } := Z.J.landed Z.nb fl4.1 (Z.up.trans up4) Z.os Z.ag
      obtain ⟨oe4, vs4, he4, hz4, hd4⟩ := fl4.there
      refine wpAny_mono ((hsu a oe4 cls d (X.pn ++ pins) hz4 ⟨_, hd4⟩).run [] _ _ H _ (J4.suite he4 hd4 Z.na nL nF) (yes rfl a Z.na)) (fun f s6 hsp => ?_) (fun _ _ z => False.elim z)
      cases f with
      | ret u =>
        obtain ⟨v6, σ6, H6, S6, r6, q6⟩ := hsp
        exact ⟨_, _, _, S6.unsuite ok, r6, q6⟩
      | next | brk | cont =>
        obtain ⟨σ6, H6, S6, q6⟩ := hsp
        exact ⟨_, _, S6.unsuite ok, q6⟩
  | @named x n i c t b₀ more np pos hds2 l2 hi hln hc hsu r ih =>
    intro ⟨y, e, yes, no⟩
    refine wpAny_handleBy_cons (codeAny_handlers_test (ask hc ((fits e).here ?_))) (by intro q; cases q)
    cases y with
    | false => exact ih (no rfl)
    | true =>
      refine codeAny_handlers_suite_as (HandSPX.lands_againZ Z.fl fun h4 fl4 up4 => ?_)
      have J4 : Inv X pins σ H { s' with heap := h4 } := Z.J.landed Z.nb fl4.1 (Z.up.trans up4) Z.os Z.ag
      obtain ⟨oe4, vs4, he4, hz4, hd4⟩ := fl4.there
      refine store_ok (X := X.suite a ((a, oe4) :: (X.pn ++ pins))) (v := .ref a) (J4.suite he4 hd4 Z.na nL nF) hN hi (.inl hln) rfl (fun s5 S5 => ?_) (.inr hln)
      refine wpAny_mono ((hsu a oe4 cls d (X.pn ++ pins) hz4 ⟨_, hd4⟩).run [] s5 _ H _ S5 (yes rfl a Z.na)) (fun f s6 hsp => ?_) (fun _ _ z => False.elim z)
      cases f with
      | ret u =>
        obtain ⟨v6, σ6, H6, S6, r6, q6⟩ := hsp
        exact gone_ok (S6.unsuite ok) hN hi hln fun s7 J7 => ⟨_, _, _, J7, r6, q6⟩
      | next | brk | cont =>
        obtain ⟨σ6, H6, S6, q6⟩ := hsp
        exact gone_ok (S6.unsuite ok) hN hi hln fun s7 J7 => ⟨_, _, J7, q6⟩
end
/-- try: body, the clauses -/
theorem ps_tryCl {X : Cx} {body : List Stmt} {h₀ : ExceptHandler} {hds : List ExceptHandler} {l : List (Value × Option Nat × Su)} {pos : Pos} {tb : WX → TS} {Wout : WX} (hs : X.stack = X.env :: X.outer) (hf : X.env.frame = some X.env.locals) (hN : X.N.Nodup) (tk : Takes X Wout)
    (hb : ∀ (W : WX) (pn : List (Addr × Obj)) (xe : Value → Shared → Prop), Takes (X.tr pn xe) W → PassesOwn (model X.prog X.w) X.A X.env xe → PSs (X.tr pn xe) body (tb W)) (hh : Cl X (h₀ :: hds) l) :
    PS X (.Try body (h₀ :: hds) [] [] pos) (fun D σ H => tb (wCl X.K Wout D l) D σ H) := by
  refine ⟨fun pins s σ H D I h => ?_⟩
  have ok := I.ok
  have hfr : X.A.frames = some (X.env :: X.outer) := by rw [ok.frames, hs]
  refine wpAny_Try_except (wpAny_mono ((hb (wCl X.K Wout D l) (X.pn ++ pins) (fun e s1 => wpAny (model X.prog X.w) X.A (noteFrame e X.env) (fun _ s2 => wpAny (model X.prog X.w) X.A (setFlight e none) (fun _ s3 =>
    wpAny (model X.prog X.w) X.A (handleBy e X.env (h₀ :: hds)) (SP X pins D) X.xe s3) X.xe s2) X.xe s1) (fun u s' xx => ?_) PassesOwn.looking).run [] s σ H D (I.toTry _) h) (fun f s1 hsp => ?_) fun e s1 he => he)
  · obtain ⟨a, B, sI, pins', σ', H', cls, d, rfl, J', nb, up, sky, na, os, ag, w⟩ := xx
    have sky' : Sky B (X.env :: X.outer) a (Zc cls d) X.env.locals s'.heap := by rw [← hs]; exact sky
    exact Sky.land Zc.steady hfr hf sky' fun h3 fl3 up3 => clauses ok hs hf hN tk ⟨J'.ofTry ok, nb, up.trans up3, fl3, na, os, ag⟩ hh w
  · cases f with
    | next =>
      obtain ⟨σ', H', J', q⟩ := hsp
      exact wpAny_execs_nil ⟨σ', H', J'.ofTry ok, q⟩
    | ret u =>
      obtain ⟨v, σ', H', J', r, q⟩ := hsp
      exact ⟨v, σ', H', J'.ofTry ok, r, q⟩
    | brk | cont =>
      obtain ⟨σ', H', J', q⟩ := hsp
      exact ⟨σ', H', J'.ofTry ok, q⟩
end FX
namespace FX
open PySem PySem.Spec PyProof.Rows L2
theorem go_t {y : Bool} {A D : Prop} (h : y = true) (k : A) : if y = true then A else D := by
  rw [if_pos h]
  exact k
theorem go_f {y : Bool} {A D : Prop} (h : y = false) (k : D) : if y = true then A else D := by
  rw [if_neg (by rw [h]; decide)]
  exact k
/-- clauses told by numbers, each with a name for the error at the slot i -/
def byNo (C : Nat → Addr) (i : Nat) (su : Nat → Su) (js : List Nat) : List (Value × Option Nat × Su) := js.map fun j => (.ref (C j), some i, su j)
variable {K : PySem.W.Frag} {Wout : WX} {D : Ends} {C : Nat → Addr} {i n : Nat} {su : Nat → Su} {d : Option Addr} {σ : L2.St} {H : Hp} {l : List (Value × Option Nat × Su)}
theorem wCl_past (hno : ∀ j, j < 25 → j ≠ n → PySem.W.exmOne K (.ref (C n)) (.ref (C j)) = some false) (w : wCl K Wout D l (.ref (C n)) d σ H) :
    ∀ {js : List Nat}, (∀ j ∈ js, j < 25 ∧ j ≠ n) → wCl K Wout D (byNo C i su js ++ l) (.ref (C n)) d σ H
  | [], _ => w
  | j :: js, h => ⟨false, hno j (h j (List.mem_cons_self ..)).1 (h j (List.mem_cons_self ..)).2, fun z => (nomatch z), fun _ => wCl_past hno w fun y hy => h y (List.mem_cons_of_mem _ hy)⟩
theorem wCl_hit (hno : ∀ j, j < 25 → j ≠ n → PySem.W.exmOne K (.ref (C n)) (.ref (C j)) = some false) (hyes : PySem.W.exmOne K (.ref (C n)) (.ref (C n)) = some true)
    (w : ∀ a, H a = none → su n a (.ref (C n)) d (gone i D) (σ.set i (some (.ref a))) H) :
    ∀ {js : List Nat}, (∀ j ∈ js, j < 25) → n ∈ js → wCl K Wout D (byNo C i su js ++ l) (.ref (C n)) d σ H
  | [], _, h => by cases h
  | j :: js, h, hn => by
    by_cases e : j = n
    · subst e
      exact ⟨true, hyes, fun _ => w, fun z => (nomatch z)⟩
    · refine ⟨false, hno j (h j (List.mem_cons_self ..)) e, fun z => (nomatch z), fun _ => ?_⟩
      refine wCl_hit hno hyes w (fun y hy => h y (List.mem_cons_of_mem _ hy)) ?_
      rcases List.mem_cons.mp hn with q | q
      · exact absurd q.symm e
      · exact q
end FX
/-! The predicates over any value, told by data. -/
namespace K40
open PySem L2 FX
def top (i : Nat) : Stmt := PySem.Challenge.pw_foldsall_k40_whole_how_many_answers_are.main.body.getD i (.Pass ⟨0, 0, 0, 0⟩)
/-- a def of the module -/
structure At (K : PySem.W.Frag) (mg : Str → Option Value) (x : Str) (st : Stmt) (f : Addr) (fd : FuncData) (ps : List Str) : Prop where
  F : Fun K x x st f fd
  g : mg x = some (.ref f)
  b : Binds K fd ps []
/-- the built-ins' names are free -/
structure Bi (mg : Str → Option Value) : Prop where
  int : mg "int" = none
  bool : mg "bool" = none
  list : mg "list" = none
  tuple : mg "tuple" = none
  isinstance : mg "isinstance" = none
  len : mg "len" = none
  range : mg "range" = none
  zip : mg "zip" = none
  all : mg "all" = none
  enumerate : mg "enumerate" = none
  abs : mg "abs" = none
  max : mg "max" = none
  min : mg "min" = none
  set : mg "set" = none
  repr : mg "repr" = none
/-! ### data -/
abbrev D := PyData
def tyN : D → String
  | .none => "NoneType" | .bool _ => "bool" | .int _ => "int" | .str _ => "str" | .list _ => "list" | .tuple _ => "tuple" | .dict _ => "dict"
theorem ty_data {K : PySem.W.Frag} {H : Hp} {v : V} {d : D} (h : Dp K H v d) : TyX K H v (.type (tyN d)) := by
  cases h with
  | non => exact .base .non
  | bl b => exact .base (.bl b)
  | int i => exact .base (.int i)
  | str x => exact .base (.str x)
  | lst q _ =>
    rcases q with (q | ⟨o, q⟩) | ⟨o, its, n, q, c, _⟩
    · exact .base (.lst q)
    · exact .base (.frz q)
    · exact .kList q c
  | tup q _ =>
    rcases q with (q | ⟨o, q⟩) | ⟨o, its, n, q, c, _⟩
    · exact .base (.tup q)
    · exact .fTuple q
    · exact .kTuple q c
def isI : D → Bool | .int _ => true | _ => false
def isSq : D → Bool | .list _ => true | .tuple _ => true | _ => false
def items : D → List D | .list xs => xs | .tuple xs => xs | _ => []
def intV : D → Int | .int i => i | _ => 0
/-- one value, a bool comes back -/
def spB (K : PySem.W.Frag) (f : D → Bool) : Sp := fun vs H Q _ => ∃ v d, vs = [v] ∧ Dp K H v d ∧ ∀ H', Same H H' → Q (.bl (f d)) H'
section
variable {P : Program} {w : World} {K : PySem.W.Frag} {mg : Str → Option Value} {base : Heap}
abbrev sInteger : Stmt := top 1
theorem kInt {K : PySem.W.Frag} : ∀ d : D, PySem.W.kitOne K (.type (tyN d)) (.type "int") = some (match d with | .int _ => true | .bool _ => true | _ => false) := fun d => by
  cases d <;> (refine kit_ty ?_; dsimp only [tyN]; decide +kernel)
theorem kBool {K : PySem.W.Frag} : ∀ d : D, PySem.W.kitOne K (.type (tyN d)) (.type "bool") = some (match d with | .bool _ => true | _ => false) := fun d => by
  cases d <;> (refine kit_ty ?_; dsimp only [tyN]; decide +kernel)
theorem kList {K : PySem.W.Frag} : ∀ d : D, PySem.W.kitOne K (.type (tyN d)) (.type "list") = some (match d with | .list _ => true | _ => false) := fun d => by
  cases d <;> (refine kit_ty ?_; dsimp only [tyN]; decide +kernel)
theorem kTuple {K : PySem.W.Frag} : ∀ d : D, PySem.W.kitOne K (.type (tyN d)) (.type "tuple") = some (match d with | .tuple _ => true | _ => false) := fun d => by
  cases d <;> (refine kit_ty ?_; dsimp only [tyN]; decide +kernel)
theorem scInteger : FnScope ["value"] ["value"] (defScope sInteger) := ⟨rfl, rfl, rfl, by decide +kernel, rfl, by decide +kernel, by decide +kernel⟩
theorem ok_integer {f : Addr} {fd : FuncData} (F : Fun K "is_integer" "is_integer" sInteger f fd) (Z : Bi mg) : FnOk P w K mg base CX0 1 f fd ["value"] (spB K isI) := by
  refine F.ok scInteger (fun vs H Q E h => ?_) (fun cdv A outer s H vs Q E hr h => ?_)
  · obtain ⟨v, d, rfl, _⟩ := h
    rfl
  · obtain ⟨v, d, rfl, hd, k⟩ := h
    have k' : Q (.bl (isI d)) H := k H (Same.refl H)
    refine ⟨_, pss_one (ps_ret (pe_and (pe_callB call_isi (by rfl) Z.isinstance (by decide +kernel) (pa_cons (pv 0) (pa_cons (pe_bltn (v := .ty "int") (by rfl) Z.int (by decide +kernel) rfl) pa_nil)))
      (pe_one (pe_not (pe_callB call_isi (by rfl) Z.isinstance (by decide +kernel) (pa_cons (pv 0) (pa_cons (pe_bltn (v := .ty "bool") (by rfl) Z.bool (by decide +kernel) rfl) pa_nil))))))), ?_⟩
    refine ⟨_, rfl, v, _, _, _, _, rfl, .ty "int", ty_data hd, kInt d, _, rfl, ?_⟩
    cases d with
    | int i => refine iteT ⟨_, rfl, v, _, _, _, _, rfl, .ty "bool", ty_data hd, kBool (.int i), _, rfl, k'⟩
    | bool b => refine iteT ⟨_, rfl, v, _, _, _, _, rfl, .ty "bool", ty_data hd, kBool (.bool b), _, rfl, k'⟩
    | none | str _ | list _ | tuple _ | dict _ => exact iteF k'
end
end K40
namespace K40
open PySem L2 FX
theorem seqT {K : PySem.W.Frag} {H H' : Hp} {a : Addr} {xs : List V} (e : Same H H') (h : SqT K H a xs) : SqT K H' a xs := by
  rcases h with (h | ⟨o, h⟩) | h
  · exact .inl (.inl (e _ _ h))
  · exact .inl (.inr ⟨o, e _ _ h⟩)
  · exact .inr h
mutual
theorem dp_same {K : PySem.W.Frag} {H H' : Hp} (s : Same H H') : ∀ {v : V} {d : D}, Dp K H v d → Dp K H' v d
  | _, _, .non => .non
  | _, _, .bl b => .bl b
  | _, _, .int i => .int i
  | _, _, .str x => .str x
  | _, _, .lst q r => .lst (s.seq q) (dpAll_same s r)
  | _, _, .tup q r => .tup (seqT s q) (dpAll_same s r)
theorem dpAll_same {K : PySem.W.Frag} {H H' : Hp} (s : Same H H') : ∀ {vs : List V} {ds : List D}, DpAll K H vs ds → DpAll K H' vs ds
  | _, _, .nil => .nil
  | _, _, .cons h r => .cons (dp_same s h) (dpAll_same s r)
end
theorem dpAll_len {K : PySem.W.Frag} {H : Hp} : ∀ {vs : List V} {ds : List D}, DpAll K H vs ds → vs.length = ds.length
  | _, _, .nil => rfl
  | _, _, .cons _ r => congrArg Nat.succ (dpAll_len r)
theorem dpAll_at {K : PySem.W.Frag} {H : Hp} : ∀ {vs : List V} {ds : List D} {i : Nat} {d : D}, DpAll K H vs ds → ds[i]? = some d → ∃ v, vs[i]? = some v ∧ Dp K H v d
  | _, _, _, _, .nil, e => by simp at e
  | _, _, 0, _, .cons h _, e => by
    simp at e
    subst e
    exact ⟨_, rfl, h⟩
  | _, _, i + 1, _, .cons _ r, e => by
    obtain ⟨v, h1, h2⟩ := dpAll_at (i := i) r (by simpa using e)
    exact ⟨v, by simpa using h1, h2⟩
/-- a list or a tuple, told by its things -/
theorem dp_seq {K : PySem.W.Frag} {H : Hp} {v : V} {d : D} (h : Dp K H v d) (hs : isSq d = true) : ∃ a xs, v = .ref a ∧ (SqL K H a xs ∨ SqT K H a xs) ∧ DpAll K H xs (items d) := by
  cases h with
  | non => cases hs
  | bl b => cases hs
  | int i => cases hs
  | str x => cases hs
  | lst q r => exact ⟨_, _, rfl, .inl q, r⟩
  | tup q r => exact ⟨_, _, rfl, .inr q, r⟩
theorem dp_int {K : PySem.W.Frag} {H : Hp} {v : V} {d : D} (h : Dp K H v d) (hs : isI d = true) : ∃ i, v = .int i ∧ d = .int i := by
  cases h with
  | int i => exact ⟨i, rfl, rfl⟩
  | non => cases hs
  | bl b => cases hs
  | str x => cases hs
  | lst q r => cases hs
  | tup q r => cases hs
section
variable {P : Program} {w : World} {K : PySem.W.Frag} {mg : Str → Option Value} {base : Heap}
abbrev sNumber : Stmt := top 2
abbrev sBelow : Stmt := top 3
abbrev sBetween : Stmt := top 4
abbrev sPower : Stmt := top 5
def isN (d : D) : Bool := isI d && decide (0 ≤ intV d)
def isB (m : Int) (d : D) : Bool := isN d && decide (intV d < m)
def isBt (a b : Int) (d : D) : Bool := isI d && (decide (a ≤ intV d) && decide (intV d ≤ b))
def isRow (m : Int) (d : D) : Bool := isSq d && decide (((items d).length : Int) = m)
def spB1 (K : PySem.W.Frag) (f : Int → D → Bool) : Sp := fun vs H Q _ => ∃ m v d, vs = [.int m, v] ∧ Dp K H v d ∧ ∀ H', Same H H' → Q (.bl (f m d)) H'
def spB2 (K : PySem.W.Frag) (f : Int → Int → D → Bool) : Sp := fun vs H Q _ => ∃ m n v d, vs = [.int m, .int n, v] ∧ Dp K H v d ∧ ∀ H', Same H H' → Q (.bl (f m n d)) H'
theorem and_t {a b : Bool} (h : a = true) : (a && b) = b := by rw [h]; rfl
theorem and_f {a b : Bool} (h : a = false) : (a && b) = false := by rw [h]; rfl
theorem scNumber : FnScope ["value"] ["value"] (defScope sNumber) := ⟨rfl, rfl, rfl, by decide +kernel, rfl, by decide +kernel, by decide +kernel⟩
theorem ok_number {f fI : Addr} {fd fdI : FuncData} (F : Fun K "is_number" "is_number" sNumber f fd) (Z : Bi mg) (FI : At K mg "is_integer" sInteger fI fdI ["value"]) : FnOk P w K mg base CX0 2 f fd ["value"] (spB K isN) := by
  have GI : FnOk P w K mg base CX0 1 fI fdI ["value"] (spB K isI) := ok_integer FI.F Z
  refine F.ok scNumber (fun vs H Q E h => ?_) (fun cdv A outer s H vs Q E hr h => ?_)
  · obtain ⟨v, d, rfl, _⟩ := h
    rfl
  · obtain ⟨v, d, rfl, hd, k⟩ := h
    refine ⟨_, pss_one (ps_ret (pe_and (pe_call GI hr rfl FI.g FI.F.kp FI.b .nil pass0 (by exact (pa_cons (pv 0) pa_nil))) (pe_one (pe_cmpR op_ge (pv 0) pe_int (nomark _))))), ?_⟩
    refine ⟨_, rfl, v, d, rfl, hd, fun H1 s1 => ⟨_, rfl, ?_⟩⟩
    have kk := k H1 s1
    by_cases hi : isI d = true
    · refine go_t hi ?_
      obtain ⟨i, rfl, rfl⟩ := dp_int hd hi
      exact ⟨_, rfl, _, _, rfl, rfl, kk⟩
    · have hi' : isI d = false := by simpa using hi
      refine go_f hi' ?_
      rw [show isN d = false from and_f hi'] at kk
      exact kk
theorem scBelow : FnScope ["many", "value"] ["many", "value"] (defScope sBelow) := ⟨rfl, rfl, rfl, by decide +kernel, rfl, by decide +kernel, by decide +kernel⟩
theorem ok_below {f fN : Addr} {fd fdN : FuncData} (F : Fun K "is_below" "is_below" sBelow f fd) (FN : At K mg "is_number" sNumber fN fdN ["value"]) (GN : FnOk P w K mg base CX0 2 fN fdN ["value"] (spB K isN)) :
    FnOk P w K mg base CX0 3 f fd ["many", "value"] (spB1 K isB) := by
  refine F.ok scBelow (fun vs H Q E h => ?_) (fun cdv A outer s H vs Q E hr h => ?_)
  · obtain ⟨m, v, d, rfl, _⟩ := h
    rfl
  · obtain ⟨m, v, d, rfl, hd, k⟩ := h
    refine ⟨_, pss_one (ps_ret (pe_and (pe_call GN hr rfl FN.g FN.F.kp FN.b .nil pass0 (by exact (pa_cons (pv 1) pa_nil))) (pe_one (pe_cmpR op_lt (pv 1) (pv 0) (nomark _))))), ?_⟩
    refine ⟨_, rfl, v, d, rfl, hd, fun H1 s1 => ⟨_, rfl, ?_⟩⟩
    have kk := k H1 s1
    by_cases hi : isN d = true
    · refine go_t hi ?_
      obtain ⟨i, rfl, rfl⟩ := dp_int hd (by
        unfold isN at hi
        simp only [Bool.and_eq_true] at hi
        exact hi.1)
      rw [show isB m (.int i) = decide (i < m) from and_t hi] at kk
      exact ⟨_, rfl, _, rfl, _, _, rfl, rfl, kk⟩
    · have hi' : isN d = false := by simpa using hi
      refine go_f hi' ?_
      rw [show isB m d = false from and_f hi'] at kk
      exact kk
theorem scBetween : FnScope ["least", "most", "value"] ["least", "most", "value"] (defScope sBetween) := ⟨rfl, rfl, rfl, by decide +kernel, rfl, by decide +kernel, by decide +kernel⟩
theorem ok_between {f fI : Addr} {fd fdI : FuncData} (F : Fun K "is_between" "is_between" sBetween f fd) (FI : At K mg "is_integer" sInteger fI fdI ["value"]) (GI : FnOk P w K mg base CX0 1 fI fdI ["value"] (spB K isI)) :
    FnOk P w K mg base CX0 2 f fd ["least", "most", "value"] (spB2 K isBt) := by
  refine F.ok scBetween (fun vs H Q E h => ?_) (fun cdv A outer s H vs Q E hr h => ?_)
  · obtain ⟨m, n, v, d, rfl, _⟩ := h
    rfl
  · obtain ⟨m, n, v, d, rfl, hd, k⟩ := h
    refine ⟨_, pss_one (ps_ret (pe_and (pe_call GI hr rfl FI.g FI.F.kp FI.b .nil pass0 (by exact (pa_cons (pv 2) pa_nil))) (pe_one (pe_chain op_le op_le (pv 0) (pv 2) (pv 1))))), ?_⟩
    refine ⟨_, rfl, v, d, rfl, hd, fun H1 s1 => ⟨_, rfl, ?_⟩⟩
    have kk := k H1 s1
    by_cases hi : isI d = true
    · refine go_t hi ?_
      obtain ⟨i, rfl, rfl⟩ := dp_int hd hi
      refine ⟨_, rfl, _, rfl, _, _, rfl, rfl, _, rfl, ?_⟩
      rw [show isBt m n (.int i) = (decide (m ≤ i) && decide (i ≤ n)) from rfl] at kk
      by_cases h1 : m ≤ i
      · refine go_t (decide_eq_true h1) ?_
        rw [and_t (decide_eq_true h1)] at kk
        exact ⟨_, rfl, _, _, rfl, rfl, kk⟩
      · refine go_f (decide_eq_false h1) ?_
        rw [and_f (decide_eq_false h1)] at kk
        exact kk
    · have hi' : isI d = false := by simpa using hi
      refine go_f hi' ?_
      rw [show isBt m n d = false from and_f hi'] at kk
      exact kk
def pow' (b : Int) : Nat → Int
  | 0 => 1
  | n + 1 => pow' b n * b
def spPower : Sp := fun vs H Q _ => ∃ (b : Int) (n : Nat), vs = [.int b, .int n] ∧ 0 ≤ b ∧ b < 100 ∧ n < 100 ∧ Q (.int (pow' b n)) H
theorem scPower : FnScope ["base", "times", "product_now", "_"] ["base", "times"] (defScope sPower) := ⟨rfl, rfl, rfl, by decide +kernel, rfl, by decide +kernel, by decide +kernel⟩
theorem ok_power {f : Addr} {fd : FuncData} (F : Fun K "power" "power" sPower f fd) (Z : Bi mg) : FnOk P w K mg base CX0 1 f fd ["base", "times"] spPower := by
  refine F.ok scPower (fun vs H Q E h => ?_) (fun cdv A outer s H vs Q E hr h => ?_)
  · obtain ⟨m, v, rfl, _⟩ := h
    rfl
  · obtain ⟨b, n, rfl, b0, b1, hn, k⟩ := h
    refine ⟨_, pss_cons (ps_set (i := 2) scPower.nd rfl (Or.inl rfl) pe_int)
      (pss_cons (ps_for PassesOwn.never rfl (pi_range1 rfl Z.range (pa_cons (pv 1) pa_nil)) (pg_name (i := 3) scPower.nd rfl (Or.inl rfl))
        (pss_one (ps_aug (i := 2) scPower.nd rfl (Or.inl rfl) (pv 0) iop_mul)))
      (pss_one (ps_ret (pv 2)))), ?_⟩
    refine ⟨_, rfl, n, rfl, by omega, by omega, ?_⟩
    have e0 : ((n : Int)).toNat = n := by omega
    rw [e0]
    refine for_range (n := n) (fun i σ H' => ∃ u : Option V, σ = [some (.int b), some (.int n), some (.int (pow' b i)), u] ∧ H' = H) ⟨none, rfl, rfl⟩ ?_ ?_
    · rintro i σ H' hi ⟨u, rfl, rfl⟩
      exact ⟨_, rfl, _, rfl, _, _, rfl, rfl, .inr ⟨by omega, by omega⟩, _, rfl, rfl⟩
    · rintro σ H' ⟨u, rfl, rfl⟩
      exact ⟨_, rfl, k⟩
end
end K40
/-! Walks over lists and tuples alike: zip of any two. -/
namespace SQ
open PySem PySem.Spec PyProof.Rows L2
/-- a list or a tuple -/
inductive Kd | L | T
def SqK (K : PySem.W.Frag) (H : Hp) : Kd → Addr → List V → Prop
  | .L => SqL K H
  | .T => SqT K H
def AtK (h : Heap) : Kd → Addr → Array Value → Prop
  | .L => h.IsList
  | .T => h.IsTuple
def ItK (h : Heap) : Kd → Addr → Addr → Nat → Prop
  | .L => h.IsListIter
  | .T => h.IsTupleIter
def itO : Kd → Addr → Obj
  | .L, a => { cls := .type "list_iterator", data := .fields #[.ref a, .int 0 0] }
  | .T, a => { cls := .type "tuple_iterator", data := .fields #[.ref a, .int 0 0] }
theorem draws {prog : Program} {w : World} {A : Around} (hh : A.handled = none) (it a : Addr) (hne : a ≠ it) (its : Array Value) : ∀ k : Kd, Draws prog w A it [it, a] its.size (fun i v => its[i]? = some v) (fun i h => ItK h k it a i ∧ AtK h k a its)
  | .L => Draws.list hh it a hne its
  | .T => Draws.tuple hh it a hne its
theorem begins (a : Addr) (its : Array Value) : ∀ k : Kd, Begins (.ref a) (itO k a) fun h => AtK h k a its
  | .L => begins_list a its
  | .T => begins_tuple a its
theorem it_obj {h : Heap} {it a : Addr} {i : Nat} : ∀ {k : Kd}, ItK h k it a i → ∃ o, h.get? it = some o ∧ ∀ v, o.data ≠ .cell v
  | .L, x => by
    obtain ⟨o, e, _, d⟩ := x
    exact ⟨o, e, fun v q => by rw [d] at q; cases q⟩
  | .T, x => by
    obtain ⟨o, e, _, d⟩ := x
    exact ⟨o, e, fun v q => by rw [d] at q; cases q⟩
theorem it_keep {h h' : Heap} {it a : Addr} {i : Nat} (kp : ∀ o, h.get? it = some o → h'.get? it = some o) : ∀ {k : Kd}, ItK h k it a i → ItK h' k it a i
  | .L, x => x.at kp
  | .T, x => x.at kp
theorem it_new {h : Heap} {it a : Addr} : ∀ {k : Kd}, h.get? it = some (itO k a) → ItK h k it a 0
  | .L, e => ⟨_, e, rfl, rfl⟩
  | .T, e => ⟨_, e, rfl, rfl⟩
section
variable {X : Cx} {pins : List (Addr × Obj)} {σ : L2.St} {H : Hp} {s : Shared}
theorem there (I : Inv X pins σ H s) {a : Addr} {xs : List V} : ∀ {k : Kd}, SqK X.K H k a xs → ∃ its : List Value, Vals xs its ∧ AtK s.heap k a its.toArray ∧ a < s.heap.objs.size
  | .L, q => by
    obtain ⟨its, r, p, _⟩ := I.list q
    exact ⟨its, r, p.isList, p.lt⟩
  | .T, q => by
    obtain ⟨its, r, p, _⟩ := I.tuple q
    obtain ⟨o, e, _⟩ := id p
    exact ⟨its, r, p, Heap.lt_size e⟩
theorem one (I : Inv X pins σ H s) {a : Addr} {xs ys : List V} : ∀ {k : Kd}, SqK X.K H k a xs → SqK X.K H k a ys → xs = ys
  | .L, q, q' => I.list_inj q q'
  | .T, q, q' => I.tuple_inj q q'
end
/-- the two as they stand at each turn, the items in new pairs -/
def Itz2 (K : PySem.W.Frag) (k k' : Kd) (a b : Addr) : It :=
  ⟨fun i H => ∃ (xs ys : List V) (x y : V), SqK K H k a xs ∧ SqK K H k' b ys ∧ xs[i]? = some x ∧ ys[i]? = some y,
    fun i H v H' => ∃ T x y, v = .ref T ∧ H T = none ∧ H' = upd H T (.tup [x, y]) ∧ (∀ xs, SqK K H k a xs → xs[i]? = some x) ∧ ∀ ys, SqK K H k' b ys → ys[i]? = some y,
    fun i H => ∃ xs ys : List V, SqK K H k a xs ∧ SqK K H k' b ys ∧ i = min xs.length ys.length⟩
theorem walk_zip2 {K : PySem.W.Frag} {k k' : Kd} {a b : Addr} {xs ys : List V} {n : Nat} (hn : n = min xs.length ys.length) : Walk (Itz2 K k k' a b) n (fun H => SqK K H k a xs ∧ SqK K H k' b ys) (YPair (fun i => xs[i]?) (fun i => ys[i]?)) := by
  subst hn
  refine ⟨fun i _ hi q => ?_, fun _ q => ⟨xs, ys, q.1, q.2, rfl⟩, fun i H v H' _ q y => ?_⟩
  · have h1 : i < xs.length := by omega
    have h2 : i < ys.length := by omega
    exact ⟨xs, ys, xs[i], ys[i], q.1, q.2, by simp [h1], by simp [h2]⟩
  · obtain ⟨T, x, z, h1, h2, h3, h4, h5⟩ := y
    exact ⟨T, x, z, h1, h2, h3, h4 xs q.1, h5 ys q.2⟩
theorem turn_zip2 {P : Program} {w : World} {K : PySem.W.Frag} {elts : List Expr} {kk : Nat} {tpos : Pos} {k k' : Kd} {a b z TI TO i1 i2 : Addr} (S : ZipSep2 z TI TO i1 i2 [i1, a] [i2, b]) (ne1 : a ≠ i1) (ne2 : b ≠ i2) :
    Turn P w K (.Tuple elts kk tpos) (Itz2 K k k' a b) [z, TI, TO, i1, i2] z (fun i h => IsZip h z TI TO .none ∧ IsTupOf2 h TI (.ref i1) (.ref i2) ∧ (∃ x y, IsTupOf2 h TO x y) ∧ ItK h k i1 a i ∧ ItK h k' i2 b i) where
  mem := by simp
  obj := fun i h st c hc => by
    obtain ⟨hz, hTI, ⟨x, y, hTO⟩, h1, h2⟩ := st
    have e' : c = z ∨ c = TI ∨ c = TO ∨ c = i1 ∨ c = i2 := by simpa using hc
    rcases e' with q | q | q | q | q
    · subst q
      exact ⟨_, hz, fun v q => nomatch q⟩
    · subst q
      exact ⟨_, hTI, fun v q => nomatch q⟩
    · subst q
      exact ⟨_, hTO, fun v q => nomatch q⟩
    · subst q
      exact it_obj h1
    · subst q
      exact it_obj h2
  keep := fun i h h' st kp => by
    obtain ⟨hz, hTI, ⟨x, y, hTO⟩, h1, h2⟩ := st
    exact ⟨kp z (by simp) _ hz, kp TI (by simp) _ hTI, ⟨x, y, kp TO (by simp) _ hTO⟩, it_keep (kp i1 (by simp)) h1, it_keep (kp i2 (by simp)) h2⟩
  item := by
    intro X hP hw hK hc i pins s σ H E I hf st hg
    subst hP hw hK
    obtain ⟨hz, hTI, hTO, h1, h2⟩ := st
    obtain ⟨xs, ys, x, y, qx, qy, hx, hy⟩ := hg
    obtain ⟨its, rv, p, _⟩ := there I qx
    obtain ⟨its2, rv2, p2, _⟩ := there I qy
    obtain ⟨u, hu, ru⟩ := rv.get hx
    obtain ⟨u2, hu2, ru2⟩ := rv2.get hy
    have hh : X.A.in1.handled = none := I.ok.hd hc
    have G := GoesN.zip2 (prog := X.prog) (w := X.w) (A := X.A) (elts := elts) (x1 := kk) (pos := tpos) S (draws hh i1 a ne1 its.toArray k) (draws hh i2 b ne2 its2.toArray k')
    have sm : ∀ c ∈ [z, TI, TO, i1, i2], c < s.heap.objs.size := fun c hc' => by
      have e' : c = z ∨ c = TI ∨ c = TO ∨ c = i1 ∨ c = i2 := by simpa using hc'
      rcases e' with q | q | q | q | q
      · subst q
        exact Heap.lt_size hz
      · subst q
        exact Heap.lt_size hTI
      · subst q
        obtain ⟨_, _, e⟩ := hTO
        exact Heap.lt_size e
      · subst q
        obtain ⟨_, e, _⟩ := it_obj h1
        exact Heap.lt_size e
      · subst q
        obtain ⟨_, e, _⟩ := it_obj h2
        exact Heap.lt_size e
    have l1 : i < its.length := (List.getElem?_eq_some_iff.mp hu).1
    have l2 : i < its2.length := (List.getElem?_eq_some_iff.mp hu2).1
    refine G.goes i s (fun u s2 => ∃ x H', Inv X pins σ H' s2 ∧ RelV x u ∧ (Itz2 X.K k k' a b).yld i H x H' ∧ (IsZip s2.heap z TI TO .none ∧ IsTupOf2 s2.heap TI (.ref i1) (.ref i2) ∧ (∃ x y, IsTupOf2 s2.heap TO x y) ∧ ItK s2.heap k i1 a (i + 1) ∧ ItK s2.heap k' i2 b (i + 1)) ∧ ∀ b ∈ [z, TI, TO, i1, i2], H' b = none) E
      (by simp; omega) ⟨hz, hTI, hTO, ⟨h1, p⟩, h2, p2⟩ fun v h' tk hY st' keep _ => ?_
    obtain ⟨T, x', y', rfl, hT, ex, ey, hnew⟩ := hY
    have ex' : its[i]? = some x' := by simpa using ex
    have ey' : its2[i]? = some y' := by simpa using ey
    rw [hu] at ex'
    rw [hu2] at ey'
    cases ex'
    cases ey'
    have new : ObjOk X.prog X.w (upd H T (.tup [x, y])) h' T (.tup [x, y]) := ⟨by show 2 ≤ sizeLine; decide, [u, u2], .cons ru (.cons ru2 .nil), hnew⟩
    have I1 : Inv X pins σ (upd H T (.tup [x, y])) { s with heap := h', toks := tk } := I.turnedNew (t' := tk) (ch := [z, TO, i1, i2]) keep (fun c hc' => hf c (by simp at hc' ⊢; rcases hc' with q | q | q | q <;> simp [q])) hT new
    obtain ⟨g1, g2, g3, g4, g5⟩ := st'
    refine ⟨.ref T, _, I1, rfl, ⟨T, x, y, rfl, I.hok.fresh hT, rfl, fun l hl => by rw [one I hl qx]; exact hx, fun l hl => by rw [one I hl qy]; exact hy⟩, ⟨g1, g2, g3, g4.1, g5.1⟩, fun c hc' => ?_⟩
    rw [upd_ne (Nat.ne_of_lt (Nat.lt_of_lt_of_le (sm c hc') hT))]
    exact (hf c hc').1
  done := by
    intro X hP hw hK hc i pins s σ H E I hf st hg
    subst hP hw hK
    obtain ⟨hz, hTI, hTO, h1, h2⟩ := st
    obtain ⟨xs, ys, qx, qy, hn⟩ := hg
    obtain ⟨its, rv, p, _⟩ := there I qx
    obtain ⟨its2, rv2, p2, _⟩ := there I qy
    have hh : X.A.in1.handled = none := I.ok.hd hc
    have G := GoesN.zip2 (prog := X.prog) (w := X.w) (A := X.A) (elts := elts) (x1 := kk) (pos := tpos) S (draws hh i1 a ne1 its.toArray k) (draws hh i2 b ne2 its2.toArray k')
    have en : i = min its.toArray.size its2.toArray.size := by
      rw [hn, rv.length, rv2.length]
      simp
    subst en
    exact G.stops s (fun s1 => Inv X pins σ H s1) E ⟨hz, hTI, hTO, ⟨h1, p⟩, h2, p2⟩ fun h' tk keep _ =>
      I.turnedL (t' := tk) (ch := [z, TO, i1, i2]) keep (fun c hc' => hf c (by simp at hc' ⊢; rcases hc' with q | q | q | q <;> simp [q]))
  self := fun A i s Q E st h => wpAny_pyIter_zip st.1 h
def iZip2 (K : PySem.W.Frag) (ta : TA) : TI := fun σ H R => ta σ H fun vs H1 => ∃ a b xs ys k k', vs = [.ref a, .ref b] ∧ SqK K H1 k a xs ∧ SqK K H1 k' b ys ∧ R (Itz2 K k k' a b) H1
theorem pi_zip2 {X : Cx} {e e2 : Expr} {ta : TA} {p pos tpos : Pos} {elts : List Expr} {kk : Nat} (hg : Gl X "zip") (hm : X.mg "zip" = none) (ha : PA X [e, e2] ta)
    (hs : starEach [e, e2] X.env = (false, eval e X.env) :: starEach [e2] X.env := by rfl) (hpl : (backTo pos (starEach [e2] X.env)).any (·.1) = false := by rfl) :
    PI X (.Tuple elts kk tpos) (.Call (.Name "zip" p) [e, e2] [] pos) (iZip2 X.K ta) := by
  refine ⟨fun pins s σ H R I h => Call_ (ld_blt I hg hm PyProof.Rows.boot_zip (PyProof.Rows.callWith_type1 (thn (ha.run pos pins s σ H _ I h) fun us s1 ⟨vs, H1, I1, r1, q1⟩ => ?_) hs hpl))⟩
  obtain ⟨a, b, xs, ys, k, k', ex, qx, qy, q⟩ := q1
  subst ex
  cases r1 with
  | cons r rr =>
    cases rr with
    | cons r' rr =>
      cases rr
      cases r
      cases r'
      obtain ⟨its, rv, p1, la⟩ := there I1 qx
      obtain ⟨its2, rv2, p2, lb⟩ := there I1 qy
      refine zip_begins2 (begins a its.toArray k) (begins b its2.toArray k') p1 p2 fun h' hz hTI hTO h1 h2 hsz hk => wpAny_pyIter_zip hz ?_
      have I2 : Inv X pins σ H1 { s1 with heap := h' } := I1.kept (t' := s1.toks) hk
      have S : ZipSep2 (s1.heap.objs.size + 4) (s1.heap.objs.size + 2) (s1.heap.objs.size + 3) s1.heap.objs.size (s1.heap.objs.size + 1) [s1.heap.objs.size, a] [s1.heap.objs.size + 1, b] :=
        zip_sep2 (N := s1.heap.objs.size) (fp1 := [a]) (fp2 := [b]) (fun c hc => by rw [List.mem_singleton.mp hc]; exact la) (fun c hc => by rw [List.mem_singleton.mp hc]; exact lb)
      refine ⟨s1.heap.objs.size + 4, [s1.heap.objs.size + 4, s1.heap.objs.size + 2, s1.heap.objs.size + 3, s1.heap.objs.size, s1.heap.objs.size + 1], _, _, H1, rfl, I2, turn_zip2 S (Nat.ne_of_lt la) (Nat.ne_of_lt (Nat.lt_succ_of_lt lb)), ⟨hz, hTI, ⟨_, _, hTO⟩, it_new h1, it_new h2⟩, fun c hcm => ?_, q⟩
      have hle : s1.heap.objs.size ≤ c := by
        have e' : c = s1.heap.objs.size + 4 ∨ c = s1.heap.objs.size + 2 ∨ c = s1.heap.objs.size + 3 ∨ c = s1.heap.objs.size ∨ c = s1.heap.objs.size + 1 := by simpa using hcm
        rcases e' with q | q | q | q | q
        · rw [q]; exact Nat.le_add_right _ _
        · rw [q]; exact Nat.le_add_right _ _
        · rw [q]; exact Nat.le_add_right _ _
        · rw [q]; exact Nat.le_refl _
        · rw [q]; exact Nat.le_add_right _ _
      exact I1.fpOk hle (I1.hok.fresh hle)
end SQ
/-! enumerate of a list or a tuple; a for over either. -/
namespace SQ
open PySem PySem.Spec PyProof.Rows L2
theorem meets_enum1 {v : Value} {o : Obj} {G : Heap → Prop} (B : Begins v o G) :
    Meets (Builtin.«enumerate.__new__» ⟨[.type "enumerate", v], []⟩) (fun _ R s => G s.heap ∧
      R (.ok (.ret (.ref (s.heap.push o).objs.size))) { s with heap := (s.heap.push o).push { cls := .type "enumerate", data := .fields #[.none, .bool false, .ref s.heap.objs.size, rawInt 0, .none, .none] } }) :=
  .of_wp fun prog w A R s h => by
    obtain ⟨hp, g, d, tk, os⟩ := s
    obtain ⟨h1, h⟩ := h
    have hsub := sub_enumerate
    have q1 : ∀ {A' : Around} {E : Value → Shared → Prop} {Q : Value → Shared → Prop}, Q (.ref hp.objs.size) ⟨hp.push o, g, d, tk, os⟩ → wpAny (model prog w) A' (pyIter v) Q E ⟨hp, g, d, tk, os⟩ := fun q => B.iter prog w _ _ ⟨hp, g, d, tk, os⟩ _ h1 q
    wp_walk using q1
    refine wpAny_stack_any fun st => wpAny_pure ?_
    split
    · rename_i c _ _ _ _ _
      cases (c == Value.type "enumerate")
      all_goals
        wp_walk using q1
        exact ⟨_, rfl, h⟩
    · wp_walk using q1
      exact ⟨_, rfl, h⟩
theorem enum1 {prog : Program} {w : World} {A : Around} {E : Value → Shared → Prop} {s : Shared} {v : Value} {o : Obj} {G : Heap → Prop} {Q : Value → Shared → Prop} (B : Begins v o G) (h1 : G s.heap)
    (h : ∀ h', IsEnum h' (s.heap.objs.size + 1) s.heap.objs.size 0 .none → h'.get? s.heap.objs.size = some o → h'.objs.size = s.heap.objs.size + 2 → (∀ b o, s.heap.get? b = some o → h'.get? b = some o) → Q (.ref (s.heap.objs.size + 1)) { s with heap := h' }) :
    wpAny (model prog w) A (call (.type "enumerate") [v]) Q E s := by
  refine callType_new F.called_enumerate (by decide) (F.typeCall_enumerate_1 _) (F.newCall_enumerate_1 _) (fun obj => F.args_object_init_2 obj _) F.entry_enumerate_new (meets_enum1 B) ⟨h1, ?_⟩
  have hz : (s.heap.push o).objs.size = s.heap.objs.size + 1 := Heap.size_push ..
  show _ ∧ _
  rw [hz]
  have he : IsEnum ((s.heap.push o).push { cls := .type "enumerate", data := .fields #[.none, .bool false, .ref s.heap.objs.size, rawInt 0, .none, .none] }) (s.heap.objs.size + 1) s.heap.objs.size 0 .none := by
    have q := Heap.get?_push_size (s.heap.push o) (o := { cls := .type "enumerate", data := .fields #[.none, .bool false, .ref s.heap.objs.size, rawInt 0, .none, .none] }) rfl
    rw [hz] at q
    exact q
  refine ⟨⟨_, he, rfl⟩, h _ he (Heap.get?_push_of_some _ (Heap.get?_push_size _ B.free)) (by rw [Heap.size_push, hz]) fun b o' q => Heap.get?_push_of_some _ (Heap.get?_push_of_some _ q)⟩
/-- the number and the thing at each turn, in a new pair -/
def Ite2 (K : PySem.W.Frag) (k : Kd) (a : Addr) : It :=
  ⟨fun i H => ∃ (xs : List V) (x : V), SqK K H k a xs ∧ xs[i]? = some x,
    fun i H v H' => ∃ T x, v = .ref T ∧ H T = none ∧ H' = upd H T (.tup [.int (i : Nat), x]) ∧ ∀ xs, SqK K H k a xs → xs[i]? = some x,
    fun i H => ∃ xs : List V, SqK K H k a xs ∧ i = xs.length⟩
theorem walk_enum2 {K : PySem.W.Frag} {k : Kd} {a : Addr} {xs : List V} {n : Nat} (hn : n = xs.length) : Walk (Ite2 K k a) n (fun H => SqK K H k a xs) (YPair (fun i => some (.int (i : Nat))) (fun i => xs[i]?)) := by
  subst hn
  refine ⟨fun i _ hi q => ⟨xs, xs[i], q, by simp [hi]⟩, fun _ q => ⟨xs, q, rfl⟩, fun i H v H' _ q y => ?_⟩
  obtain ⟨T, x, h1, h2, h3, h4⟩ := y
  exact ⟨T, _, x, h1, h2, h3, rfl, h4 xs q⟩
theorem turn_enum2 {P : Program} {w : World} {K : PySem.W.Frag} {elts : List Expr} {kk : Nat} {tpos : Pos} {k : Kd} {a e it : Addr} (ne : a ≠ it) (ne1 : e ≠ it) (ne2 : e ≠ a) :
    Turn P w K (.Tuple elts kk tpos) (Ite2 K k a) [e, it] e (fun i h => (∃ old, IsEnum h e it i old) ∧ ItK h k it a i) where
  mem := by simp
  obj := fun i h st c hc => by
    obtain ⟨⟨old, he⟩, h1⟩ := st
    have e' : c = e ∨ c = it := by simpa using hc
    rcases e' with q | q
    · subst q
      exact ⟨_, he, fun v q => nomatch q⟩
    · subst q
      exact it_obj h1
  keep := fun i h h' st kp => by
    obtain ⟨⟨old, he⟩, h1⟩ := st
    exact ⟨⟨old, kp e (by simp) _ he⟩, it_keep (kp it (by simp)) h1⟩
  item := by
    intro X hP hw hK hc i pins s σ H E I hf st hg
    subst hP hw hK
    obtain ⟨⟨old, he⟩, h1⟩ := st
    obtain ⟨xs, x, qx, hx⟩ := hg
    obtain ⟨its, rv, p, _⟩ := there I qx
    obtain ⟨u, hu, ru⟩ := rv.get hx
    have hh : X.A.in1.handled = none := I.ok.hd hc
    have G := GoesN.enumFrom (prog := X.prog) (w := X.w) (A := X.A) (elts := elts) (x1 := kk) (pos := tpos) 0 (draws hh it a ne its.toArray k) e ne1 (by simp [ne1, ne2]) (by simp)
    have sm : ∀ c ∈ [e, it], c < s.heap.objs.size := fun c hc' => by
      have e' : c = e ∨ c = it := by simpa using hc'
      rcases e' with q | q
      · subst q
        exact Heap.lt_size he
      · subst q
        obtain ⟨_, e, _⟩ := it_obj h1
        exact Heap.lt_size e
    have l1 : i < its.length := (List.getElem?_eq_some_iff.mp hu).1
    refine G.goes i s (fun u s2 => ∃ x H', Inv X pins σ H' s2 ∧ RelV x u ∧ (Ite2 X.K k a).yld i H x H' ∧ ((∃ old, IsEnum s2.heap e it ((i + 1 : Nat) : Int) old) ∧ ItK s2.heap k it a (i + 1)) ∧ ∀ b ∈ [e, it], H' b = none) E
      (by simpa using l1) ⟨⟨old, by rw [Int.zero_add]; exact he⟩, h1, p⟩ fun v h' tk hY st' keep _ => ?_
    obtain ⟨T, t, x', rfl, hT, ex, hnew⟩ := hY
    have ex' : its[i]? = some x' := by simpa using ex
    rw [hu] at ex'
    cases ex'
    have new : ObjOk X.prog X.w (upd H T (.tup [.int (i : Nat), x])) h' T (.tup [.int (i : Nat), x]) := ⟨by show 2 ≤ sizeLine; decide, [.int (0 + (i : Int)) t, u], .cons (show L2.RelV (.int (i : Nat)) (.int (0 + (i : Int)) t) from ⟨t, by rw [Int.zero_add]⟩) (.cons ru .nil), hnew⟩
    have I1 : Inv X pins σ (upd H T (.tup [.int (i : Nat), x])) { s with heap := h', toks := tk } := I.turnedNew (t' := tk) (ch := [e, it]) keep (fun c hc' => hf c hc') hT new
    obtain ⟨⟨old', g1⟩, g2⟩ := st'
    rw [Int.zero_add] at g1
    refine ⟨.ref T, _, I1, rfl, ⟨T, x, rfl, I.hok.fresh hT, rfl, fun l hl => by rw [one I hl qx]; exact hx⟩, ⟨⟨old', g1⟩, g2.1⟩, fun c hc' => ?_⟩
    rw [upd_ne (Nat.ne_of_lt (Nat.lt_of_lt_of_le (sm c hc') hT))]
    exact (hf c hc').1
  done := by
    intro X hP hw hK hc i pins s σ H E I hf st hg
    subst hP hw hK
    obtain ⟨⟨old, he⟩, h1⟩ := st
    obtain ⟨xs, qx, hn⟩ := hg
    obtain ⟨its, rv, p, _⟩ := there I qx
    have hh : X.A.in1.handled = none := I.ok.hd hc
    have G := GoesN.enumFrom (prog := X.prog) (w := X.w) (A := X.A) (elts := elts) (x1 := kk) (pos := tpos) 0 (draws hh it a ne its.toArray k) e ne1 (by simp [ne1, ne2]) (by simp)
    have en : i = its.toArray.size := by
      rw [hn, rv.length]
      simp
    subst en
    exact G.stops s (fun s1 => Inv X pins σ H s1) E ⟨⟨old, by rw [Int.zero_add]; exact he⟩, h1, p⟩ fun h' tk keep _ =>
      I.turnedL (t' := tk) (ch := [e, it]) keep (fun c hc' => hf c hc')
  self := fun A i s Q E st h => by
    obtain ⟨⟨old, he⟩, _⟩ := st
    exact wpAny_pyIter_enum he h
def iEnum2 (K : PySem.W.Frag) (ta : TA) : TI := fun σ H R => ta σ H fun vs H1 => ∃ a xs k, vs = [.ref a] ∧ SqK K H1 k a xs ∧ R (Ite2 K k a) H1
theorem pi_enum2 {X : Cx} {e : Expr} {ta : TA} {p pos tpos : Pos} {elts : List Expr} {kk : Nat} (hg : Gl X "enumerate") (hm : X.mg "enumerate" = none) (ha : PA X [e] ta) (hs : starEach [e] X.env = [(false, eval e X.env)] := by rfl) :
    PI X (.Tuple elts kk tpos) (.Call (.Name "enumerate" p) [e] [] pos) (iEnum2 X.K ta) := by
  refine ⟨fun pins s σ H R I h => Call_ (ld_blt I hg hm PyProof.Rows.boot_enumerate (PyProof.Rows.callWith_type1 (thn (ha.run pos pins s σ H _ I h) fun us s1 ⟨vs, H1, I1, r1, q1⟩ => ?_) hs rfl))⟩
  obtain ⟨a, xs, k, ex, qx, q⟩ := q1
  subst ex
  cases r1 with
  | cons r rr =>
    cases rr
    cases r
    obtain ⟨its, rv, p1, la⟩ := there I1 qx
    refine enum1 (begins a its.toArray k) p1 fun h' he h1 hsz hk => wpAny_pyIter_enum he ?_
    have I2 : Inv X pins σ H1 { s1 with heap := h' } := I1.kept (t' := s1.toks) hk
    refine ⟨s1.heap.objs.size + 1, [s1.heap.objs.size + 1, s1.heap.objs.size], _, _, H1, rfl, I2, turn_enum2 (e := s1.heap.objs.size + 1) (it := s1.heap.objs.size) (Nat.ne_of_lt la) (Nat.succ_ne_self _) (Nat.ne_of_gt (Nat.lt_succ_of_lt la)), ⟨⟨_, he⟩, it_new h1⟩, fun c hcm => ?_, q⟩
    have hle : s1.heap.objs.size ≤ c := by
      have e' : c = s1.heap.objs.size + 1 ∨ c = s1.heap.objs.size := by simpa using hcm
      rcases e' with q | q
      · rw [q]; exact Nat.le_add_right _ _
      · rw [q]; exact Nat.le_refl _
    exact I1.fpOk hle (I1.hok.fresh hle)
end SQ
/-! one of two readings; a walk over either kind; count; tuples without a dict. -/
namespace SQ
open PySem PySem.Spec PyProof.Rows L2
def tOr (t u : TE) : TE := fun σ H Q => t σ H Q ∨ u σ H Q
def iOr (t u : TI) : TI := fun σ H R => t σ H R ∨ u σ H R
section
variable {X : Cx}
theorem pe_or2 {e : Expr} {t u : TE} (h1 : PE X e t) (h2 : PE X e u) : PE X e (tOr t u) :=
  ⟨fun pins s σ H Q I h => h.elim (h1.run pins s σ H Q I) (h2.run pins s σ H Q I)⟩
theorem pi_or2 {tg e : Expr} {t u : TI} (h1 : PI X tg e t) (h2 : PI X tg e u) : PI X tg e (iOr t u) :=
  ⟨fun pins s σ H Q I h => h.elim (h1.run pins s σ H Q I) (h2.run pins s σ H Q I)⟩
def It2 (K : PySem.W.Frag) : Kd → Addr → It
  | .L => Itl K
  | .T => Itt K
def iSq (K : PySem.W.Frag) (tl : TE) : TI := iOr (iList K tl) (iTup K tl)
theorem pi_sq {tg l : Expr} {tl : TE} (h : PE X l tl) : PI X tg l (iSq X.K tl) := pi_or2 (pi_list h) (pi_tup h)
theorem walk_sq {K : PySem.W.Frag} {a : Addr} {xs : List V} {n : Nat} : ∀ {k : Kd}, n = xs.length → Walk (It2 K k a) n (fun H => SqK K H k a xs) (YAt xs)
  | .L, e => e ▸ walk_list
  | .T, e => e ▸ walk_tup
/-- the value is there at once -/
theorem iSq_var {K : PySem.W.Frag} {i : Nat} {σ : L2.St} {H : Hp} {R : It → Hp → Prop} {a : Addr} {xs : List V} : ∀ {k : Kd}, σ[i]? = some (some (.ref a)) → SqK K H k a xs → R (It2 K k a) H → iSq K (tVar i) σ H R
  | .L, e, q, r => .inl ⟨_, e, a, rfl, ⟨xs, q⟩, r⟩
  | .T, e, q, r => .inr ⟨_, e, a, rfl, ⟨xs, q⟩, r⟩
/-- a tuple without a dict of its own -/
def Nd (K : PySem.W.Frag) (H : Hp) (x : V) : Prop := ∃ a, x = .ref a ∧ ((∃ o u, H a = some (.frz o (.tup u)) ∧ o.dict = none) ∨ ∃ o, K.lookup a = some o ∧ o.cls = .type "tuple" ∧ o.dict = none)
theorem Nd.same {K : PySem.W.Frag} {H H' : Hp} {x : V} (s : Same H H') (h : Nd K H x) : Nd K H' x := by
  obtain ⟨a, e, h⟩ := h
  refine ⟨a, e, ?_⟩
  rcases h with ⟨o, u, h, d⟩ | h
  · exact .inl ⟨o, u, s _ _ h, d⟩
  · exact .inr h
theorem nd_is {pins : List (Addr × Obj)} {σ : L2.St} {H : Hp} {s : Shared} {x : V} {v : Value} (I : Inv X pins σ H s) (r : L2.RelV x v) (h : Nd X.K H x) : s.TypeIs v "tuple" ∧ ∀ a, v = .ref a → ∃ ob, s.heap.get? a = some ob ∧ ob.dict = none := by
  obtain ⟨a, rfl, h⟩ := h
  rcases h with ⟨o, u, h, d⟩ | ⟨o, h, c, d⟩
  · obtain rfl : v = .ref a := r
    obtain ⟨e, _, its, _, o', e', hc, _⟩ := I.hok a _ h
    rw [e] at e'
    cases e'
    refine ⟨⟨o, e, hc⟩, fun b hb => ?_⟩
    cases hb
    exact ⟨o, e, d⟩
  · exact tyV_is I r (T := "tuple") (x := .ref a) (.inr (.inl ⟨rfl, o, h, c, d⟩))
def tBMT (K : PySem.W.Frag) (r : V → List V → Hp → VK → Prop) (to : TE) (t : TA) : TE := fun σ H Q => to σ H fun x H1 => Nd K H1 x ∧ t σ H1 fun xs H2 => r x xs H2 Q
variable {o e : Expr} {es : List Expr} {to : TE} {t : TA} {name : Str} {apos cpos : Pos} {id : String} {r : V → List V → Hp → VK → Prop}
theorem pe_bmT (slot : Slot "tuple" name id) (hty : typeOf (.builtin id) = pure (.type "method_descriptor")) (hm : MtR X id r) (ho : PE X o to) (ha : PA X (e :: es) t)
    (hbase : attributeBase o name X.env (eval o X.env) = eval o X.env := by rfl)
    (hfew : ((backTo cpos (starEach (e :: es) X.env)).all (fun x => !x.1) && (backToKw cpos (keywordEach [] X.env)).all (fun x => x.1.isSome)
      && decide ((e :: es).length + ([] : List Keyword).length + (if ([] : List Keyword).isEmpty then 0 else 1) < 30)) = true := by rfl)
    (hline : (apos.endLine == cpos.line) = true := by rfl) (hs : starEach (e :: es) X.env = (false, eval e X.env) :: starEach es X.env := by rfl) (hplain : (backTo cpos (starEach es X.env)).any (·.1) = false := by rfl) :
    PE X (.Call (.Attribute o name apos) (e :: es) [] cpos) (tBMT X.K r to t) := by
  refine ⟨fun pins s σ H Q I h => ?_⟩
  refine wpAny_Call_method_late hbase hfew hline rfl (thn (ho.run pins s σ H _ I h) fun v s1 ⟨x, H1, I1, r1, ty, q1⟩ => ?_)
  obtain ⟨h1, h2⟩ := nd_is I1 r1 ty
  refine ⟨"tuple", id, PySem.F.plainAttrs_tuple, slot, hty, h1, h2, ?_⟩
  have hA := ha.run cpos pins s1 σ H1 _ I1 q1
  rw [hs] at hA ⊢
  refine Calls.callWith_builtin (by show (false || (backTo cpos (starEach es X.env)).any (·.1)) = false; rw [hplain] <;> rfl) (Calls.evalArgs_plain ?_)
  exact thn hA fun us s2 ⟨vs, H2, I2, r2, q2⟩ => hm pins s2 σ H2 x vs v us Q I2 r1 r2 q2
/-- xs.count(y), data of any depth -/
def rCntD (K : PySem.W.Frag) (mk : List PyData → PyData) : V → List V → Hp → VK → Prop := fun x xs H Q => ∃ (y : V) (d : PyData) (ds : List PyData), xs = [y] ∧ Dp K H x (mk ds) ∧ Dp K H y d ∧
  PyData.canLayAll0 ds = true ∧ SeqAt.shaped d = true ∧ Q (.int ((ds.countP fun z => PyData.eqv z d : Nat) : Int)) H
theorem shaped_room {A : Around} {ds : List PyData} {d : PyData} (sd : SeqAt.shaped d = true) (hu : A.units + 65 < cLine) : A.units + 1 + min (PyData.depthAll ds) d.depth < cLine := room_in_shaped sd hu
theorem mt_lcountD (hu : X.A.units + 65 < cLine) : MtR X "list.count" (rCntD X.K .list) := by
  intro pins s σ H x xs v us Q I rx rxs h
  obtain ⟨y, d, ds, rfl, hl, hy, sl, sd, q⟩ := h
  cases rxs with
  | cons ry rt =>
    rename_i uy ut
    cases rt
    obtain ⟨bs, r1⟩ := Dp.reads I d y uy hy ry
    have hroom : X.A.units + 1 + min (PyData.depthAll ds) d.depth < cLine := shaped_room sd hu
    cases hl with
    | lst hs ha =>
      rename_i a xs
      obtain rfl : v = .ref a := rx
      obtain ⟨its, rv, ⟨⟨cls, dd, data, sls⟩, n, ho, hc, hdn, hdt⟩, hlen⟩ := I.list hs
      simp only at hc hdt
      subst hc hdt
      obtain ⟨as, h4⟩ := Dp.readsAll I ds _ its ha rv
      have hmap : its.map (SeqAt.readOf s.heap) = ds := SeqAt.readsAll_map ds its as sl h4
      refine call_meets PySem.F.slot_list_count ⟨_, ho, rfl⟩ PySem.F.entry_list_count (PySem.F.args_list_count_2 _ _)
        (SeqAt.list_countAt a its.toArray n dd sls uy (fun u => PyData.eqv (SeqAt.readOf s.heap u) d)) ⟨ho, SeqAt.items_eqAt (vs := its.toArray) (show ReadsAll s.heap its.toArray.toList ds as from h4) r1 sl (SeqAt.canLay_of_shaped sd) hroom, ?_⟩
      have ec : its.toArray.toList.countP (fun u => PyData.eqv (SeqAt.readOf s.heap u) d) = ds.countP fun z => PyData.eqv z d := by
        rw [← hmap, List.countP_map]
        rfl
      rw [ec]
      exact ⟨.int _, H, I.tok _, ⟨s.toks, rfl⟩, q⟩
theorem mt_tcountD (hu : X.A.units + 65 < cLine) : MtR X "tuple.count" (rCntD X.K .tuple) := by
  intro pins s σ H x xs v us Q I rx rxs h
  obtain ⟨y, d, ds, rfl, hl, hy, sl, sd, q⟩ := h
  cases rxs with
  | cons ry rt =>
    rename_i uy ut
    cases rt
    obtain ⟨bs, r1⟩ := Dp.reads I d y uy hy ry
    have hroom : X.A.units + 1 + min (PyData.depthAll ds) d.depth < cLine := shaped_room sd hu
    cases hl with
    | tup hs ha =>
      rename_i a xs
      obtain rfl : v = .ref a := rx
      obtain ⟨its, rv, ⟨⟨cls, dd, data, sls⟩, ho, hc, n, hdt⟩, hlen⟩ := I.tuple hs
      simp only at hc hdt
      subst hc hdt
      obtain ⟨as, h4⟩ := Dp.readsAll I ds _ its ha rv
      have hmap : its.map (SeqAt.readOf s.heap) = ds := SeqAt.readsAll_map ds its as sl h4
      refine call_meets PySem.F.slot_tuple_count ⟨_, ho, rfl⟩ PySem.F.entry_tuple_count (PySem.F.args_tuple_count_2 _ _)
        (SeqAt.tuple_countAt a its.toArray n dd sls uy (fun u => PyData.eqv (SeqAt.readOf s.heap u) d)) ⟨ho, SeqAt.items_eqAt (vs := its.toArray) (show ReadsAll s.heap its.toArray.toList ds as from h4) r1 sl (SeqAt.canLay_of_shaped sd) hroom, ?_⟩
      have ec : its.toArray.toList.countP (fun u => PyData.eqv (SeqAt.readOf s.heap u) d) = ds.countP fun z => PyData.eqv z d := by
        rw [← hmap, List.countP_map]
        rfl
      rw [ec]
      exact ⟨.int _, H, I.tok _, ⟨s.toks, rfl⟩, q⟩
/-- tuple(x) of a list: a new tuple without a dict -/
def kTupF (K : PySem.W.Frag) (x : V) (H : Hp) (Q : VK) : Prop := ∃ p xs, x = .ref p ∧ SqL K H p xs ∧ ∀ q o, H q = none → o.dict = none → Q (.ref q) (upd H q (.frz o (.tup xs)))
theorem rl_tupleF (pins : List (Addr × Obj)) (s : Shared) (σ : L2.St) (H : Hp) (x : V) (v : Value) (Q : VK) (I : Inv X pins σ H s) (r : L2.RelV x v) (h : kTupF X.K x H Q) :
    wpAny (model X.prog X.w) X.A (call (.type "tuple") [v]) (EP X pins σ Q) X.xe s := by
  obtain ⟨p, xs, rfl, hs, q⟩ := h
  obtain rfl : v = .ref p := r
  obtain ⟨its, rv, pl, hz⟩ := I.list hs
  refine call_tuple_list pl.isList (fun h' hk => ?_) (by rw [List.size_toArray, ← rv.length]; exact hz)
  have I1 : Inv X pins σ H { s with heap := h' } := I.kept (t' := s.toks) hk
  have I2 : Inv X pins σ (upd H h'.objs.size (.frz { cls := .type "tuple", data := .seq its.toArray } (.tup xs))) { s with heap := h'.push { cls := .type "tuple", data := .seq its.toArray } } :=
    I1.laid (t' := s.toks) (fun b o e => Heap.get?_push_of_some _ e) (Nat.le_refl _) (show ObjOk X.prog X.w _ _ _ (.frz _ (.tup xs)) from ⟨Heap.get?_push_size _ rfl, hz, its, rv, IsTup.new _ _⟩)
  exact ⟨.ref h'.objs.size, _, I2, rfl, q _ _ (I1.hok.fresh (Nat.le_refl _)) rfl⟩
theorem pe_tupleF {a : Expr} {ta : TE} {p pos : Pos} (hg : Gl X "tuple") (hm : X.mg "tuple" = none) (ha : PE X a ta) (na : starEach [a] X.env = (false, eval a X.env) :: starEach [] X.env := by rfl) :
    PE X (.Call (.Name "tuple" p) [a] [] pos) (tThen ta (kTupF X.K)) := by
  refine ⟨fun pins s σ H Q I h => ?_⟩
  exact Call_ (ld_blt I hg hm boot_tuple (PyProof.Rows.callWith_type1 (one_arg ha I h (fun v s2 x H2 I2 r q => rl_tupleF pins s2 σ H2 x v Q I2 r q) na) na))
end
end SQ
/-! A written tuple: it has no dict. -/
namespace SQ
open PySem PySem.Spec PyProof.Rows L2
def tTupZ (t : TA) : TE := fun σ H Q => t σ H fun xs H1 => xs.length ≤ sizeLine ∧ ∀ q o, H1 q = none → o.dict = none → Q (.ref q) (upd H1 q (.frz o (.tup xs)))
theorem pe_tupZ {X : Cx} {es : List Expr} {t : TA} {k : Nat} {pos : Pos} (ha : PA X es t) : PE X (.Tuple es k pos) (tTupZ t) := by
  refine ⟨fun pins s σ H Q I h => Tuple_ (thn (ha.run _ pins s σ H _ I h) ?_)⟩
  rintro us s1 ⟨vs, H1, I1, r, hz, q⟩
  have hl : us.toArray.size ≤ sizeLine := by rw [List.size_toArray, ← r.length]; exact hz
  refine wpAny_newObj_type ?_ hl
  have I2 : Inv X pins σ (upd H1 s1.heap.objs.size (.frz { cls := .type "tuple", data := .seq us.toArray } (.tup vs))) { s1 with heap := s1.heap.push { cls := .type "tuple", data := .seq us.toArray } } :=
    I1.laid (t' := s1.toks) (fun _ _ e => Heap.get?_push_of_some _ e) (Nat.le_refl _) (show ObjOk X.prog X.w _ _ _ (.frz _ (.tup vs)) from ⟨Heap.get?_push_size _ rfl, hz, us, r, IsTup.new _ _⟩)
  exact ⟨.ref s1.heap.objs.size, _, I2, rfl, q _ _ (I1.hok.fresh (Nat.le_refl _)) rfl⟩
end SQ
namespace K40
open PySem L2 FX SQ
/-- the loop of a walk, whatever a turn does -/
theorem walk_it {J : It} {n : Nat} {G : Hp → Prop} {Y : Nat → Hp → V → Hp → Prop} (w : Walk J n G Y) {H0 : Hp} {B : V → Hp → (Hp → Prop) → Prop} {Qd : Hp → Prop} (Pv : Nat → Hp → Prop) (h0 : Pv 0 H0) (hG : ∀ i H, i ≤ n → Pv i H → G H)
    (hs : ∀ i x H H', i < n → Pv i H → Y i H x H' → B x H' (Pv (i + 1))) (hd : ∀ H, Pv n H → Qd H) :
    ∃ W : Nat → Nat → Hp → Prop, (∃ m, W 0 m H0) ∧ ∀ i m H, W i m H → (J.stop i H ∧ Qd H) ∨ (J.go i H ∧ ∃ Nx : Hp → Prop, (∀ H', Nx H' → ∃ m', m' < m ∧ W (i + 1) m' H') ∧ ∀ x H', J.yld i H x H' → B x H' Nx) := by
  refine ⟨fun i m H => m = n - i ∧ i ≤ n ∧ Pv i H, ⟨n, by simp, Nat.zero_le _, h0⟩, ?_⟩
  rintro i m H ⟨rfl, hi, p⟩
  by_cases hlt : i < n
  · exact .inr ⟨w.goes i H hlt (hG i H hi p), Pv (i + 1), fun H' p' => ⟨n - (i + 1), by omega, rfl, hlt, p'⟩, fun x H' y => hs i x H H' hlt p (w.yields i H x H' hlt (hG i H hi p) y)⟩
  · have e : i = n := by omega
    subst e
    exact .inl ⟨w.stops H (hG _ H hi p), hd H p⟩
/-! ### a list in the making -/
def off (H : Hp) (a : Addr) : Hp := fun b => if b = a then none else H b
theorem off_ne {H : Hp} {a b : Addr} (h : b ≠ a) : off H a b = H b := if_neg h
theorem off_same {H : Hp} {a : Addr} : off H a a = none := if_pos rfl
theorem off_upd {H : Hp} {a : Addr} {o : HO} : off (upd H a o) a = off H a := by
  funext b
  by_cases h : b = a
  · rw [h, off_same, off_same]
  · rw [off_ne h, off_ne h, upd_ne h]
theorem off_le {H : Hp} {a : Addr} : Same (off H a) H := fun c o e => by
  by_cases h : c = a
  · rw [h, off_same] at e
    cases e
  · rw [off_ne h] at e
    exact e
theorem off_mono {H H' : Hp} {a : Addr} (s : ∀ c o, c ≠ a → H c = some o → H' c = some o) : Same (off H a) (off H' a) := fun c o e => by
  by_cases h : c = a
  · rw [h, off_same] at e
    cases e
  · rw [off_ne h] at e ⊢
    exact s c o h e
/-- at a stands a list that is still filled: its things don't hang on it -/
def Grow (K : PySem.W.Frag) (H : Hp) (a : Addr) (ds : List D) : Prop := ∃ vs, H a = some (.lst vs) ∧ DpAll K (off H a) vs ds
theorem Grow.nil {K : PySem.W.Frag} {H : Hp} {a : Addr} : Grow K (upd H a (.lst [])) a [] := ⟨[], upd_same, .nil⟩
theorem Grow.dp {K : PySem.W.Frag} {H : Hp} {a : Addr} {ds : List D} (g : Grow K H a ds) : Dp K H (.ref a) (.list ds) := by
  obtain ⟨vs, e, r⟩ := g
  exact .lst (SqL.of e) (dpAll_same off_le r)
theorem Grow.keep {K : PySem.W.Frag} {H H' : Hp} {a : Addr} {ds : List D} (g : Grow K H a ds) (s : Same H H') : Grow K H' a ds := by
  obtain ⟨vs, e, r⟩ := g
  exact ⟨vs, s _ _ e, dpAll_same (off_mono fun c o _ q => s c o q) r⟩
theorem dpAll_snoc {K : PySem.W.Frag} {H : Hp} : ∀ {vs : List V} {ds : List D} {v : V} {d : D}, DpAll K H vs ds → Dp K H v d → DpAll K H (vs ++ [v]) (ds ++ [d])
  | _, _, _, _, .nil, h => .cons h .nil
  | _, _, _, _, .cons h r, q => .cons h (dpAll_snoc r q)
theorem dpAll_app {K : PySem.W.Frag} {H : Hp} : ∀ {vs ws : List V} {ds es : List D}, DpAll K H vs ds → DpAll K H ws es → DpAll K H (vs ++ ws) (ds ++ es)
  | _, _, _, _, .nil, h => h
  | _, _, _, _, .cons h r, q => .cons h (dpAll_app r q)
/-- a thing is put behind all: it doesn't hang on the list -/
theorem Grow.put {K : PySem.W.Frag} {H : Hp} {a : Addr} {ds : List D} {acc : List V} {v : V} {d : D} (g : Grow K H a ds) (e : H a = some (.lst acc)) (h : Dp K (off H a) v d) : Grow K (upd H a (.lst (acc ++ [v]))) a (ds ++ [d]) := by
  obtain ⟨vs, e', r⟩ := g
  rw [e] at e'
  cases e'
  refine ⟨_, upd_same, ?_⟩
  rw [off_upd]
  exact dpAll_snoc r h
theorem Grow.len {K : PySem.W.Frag} {H : Hp} {a : Addr} {ds : List D} {acc : List V} (g : Grow K H a ds) (e : H a = some (.lst acc)) : acc.length = ds.length := by
  obtain ⟨vs, e', r⟩ := g
  rw [e] at e'
  cases e'
  exact dpAll_len r
/-- what stood ahead of the list doesn't hang on it -/
theorem dp_off {K : PySem.W.Frag} {H0 H : Hp} {a : Addr} {v : V} {d : D} (h : Dp K H0 v d) (s : Same H0 H) (n : H0 a = none) : Dp K (off H a) v d :=
  dp_same (fun c o e => by
    rw [off_ne (ne_of_none e n)]
    exact s c o e) h
theorem same_new {H : Hp} {l : Addr} {o : HO} (h : H l = none) : Same H (upd H l o) := fun c u e => by
  rw [upd_ne (ne_of_none e h)]
  exact e
/-- H, but for a, is kept by a change of a alone -/
theorem same_of {H0 H : Hp} {a : Addr} {o : HO} (s : Same H0 H) (n : H0 a = none) : Same H0 (upd H a o) := fun c u e => by
  rw [upd_ne (ne_of_none e n)]
  exact s c u e
/-! ### all rows of choices -/
def stepRows (acc : List (List D)) (c : List D) : List (List D) := acc.flatMap fun r => c.map fun x => r ++ [x]
def rowsOf (css : List (List D)) : List (List D) := css.foldl stepRows [[]]
theorem flat_len {α β : Type} {f : α → List β} {m : Nat} (h : ∀ r, (f r).length ≤ m) : ∀ l : List α, (l.flatMap f).length ≤ m * l.length
  | [] => by simp
  | r :: l => by
    have h1 := flat_len h l
    have h2 := h r
    rw [List.flatMap_cons, List.length_append, List.length_cons, Nat.mul_add, Nat.mul_one]
    omega
theorem rows_len (css : List (List D)) : ∀ (acc : List (List D)) (n : Nat), (∀ r ∈ acc, r.length = n) → ∀ r ∈ css.foldl stepRows acc, r.length = n + css.length := by
  induction css with
  | nil => exact fun acc n h r hr => h r hr
  | cons c css ih =>
    intro acc n h r hr
    have q := ih (stepRows acc c) (n + 1) (fun r' hr' => by
      obtain ⟨r0, h0, hm⟩ := List.mem_flatMap.mp hr'
      obtain ⟨x, _, rfl⟩ := List.mem_map.mp hm
      rw [List.length_append, h r0 h0]
      rfl) r hr
    rw [q, List.length_cons]
    omega
theorem rows_many (css : List (List D)) (hc : ∀ c ∈ css, c.length ≤ 20) : ∀ acc : List (List D), (css.foldl stepRows acc).length ≤ 20 ^ css.length * acc.length := by
  induction css with
  | nil => exact fun acc => by simp
  | cons c css ih =>
    intro acc
    have h1 := ih (fun c' h' => hc c' (List.mem_cons_of_mem _ h')) (stepRows acc c)
    have h2 : (stepRows acc c).length ≤ 20 * acc.length := flat_len (fun r => by rw [List.length_map]; exact hc c (List.mem_cons_self ..)) acc
    have h3 : 20 ^ css.length * (stepRows acc c).length ≤ 20 ^ css.length * (20 * acc.length) := Nat.mul_le_mul_left _ h2
    rw [List.foldl_cons, List.length_cons, Nat.pow_succ, Nat.mul_assoc]
    exact Nat.le_trans h1 h3
theorem take_more {α : Type} : ∀ {l : List α} {i : Nat} {x : α}, l[i]? = some x → l.take (i + 1) = l.take i ++ [x]
  | [], i, x, h => by simp at h
  | a :: l, 0, x, h => by
    simp at h
    subst h
    rfl
  | a :: l, i + 1, x, h => by
    have ih := take_more (l := l) (i := i) (x := x) (by simpa using h)
    show a :: l.take (i + 1) = a :: l.take i ++ [x]
    rw [ih]
    rfl
abbrev rowD (r : List D) : D := .tuple r
/-- a list whose things are tuples without a dict -/
def NdL (K : PySem.W.Frag) (H : Hp) (v : V) (ds : List D) : Prop := ∃ a xs, v = .ref a ∧ H a = some (.lst xs) ∧ DpAll K H xs ds ∧ ∀ x ∈ xs, Nd K H x
def GrowN (K : PySem.W.Frag) (H : Hp) (a : Addr) : Prop := ∃ xs, H a = some (.lst xs) ∧ ∀ x ∈ xs, Nd K (off H a) x
theorem GrowN.nil {K : PySem.W.Frag} {H : Hp} {a : Addr} : GrowN K (upd H a (.lst [])) a := ⟨[], upd_same, fun x hx => by cases hx⟩
theorem GrowN.keep {K : PySem.W.Frag} {H H' : Hp} {a : Addr} (g : GrowN K H a) (s : Same H H') : GrowN K H' a := by
  obtain ⟨xs, e, h⟩ := g
  exact ⟨xs, s _ _ e, fun x hx => (h x hx).same (off_mono fun c o _ q => s c o q)⟩
theorem GrowN.put {K : PySem.W.Frag} {H : Hp} {a : Addr} {acc : List V} {x : V} (g : GrowN K H a) (e : H a = some (.lst acc)) (h : Nd K (off H a) x) : GrowN K (upd H a (.lst (acc ++ [x]))) a := by
  obtain ⟨xs, e', q⟩ := g
  rw [e] at e'
  cases e'
  refine ⟨_, upd_same, fun y hy => ?_⟩
  rw [off_upd]
  rcases List.mem_append.mp hy with hy | hy
  · exact q y hy
  · rw [List.mem_singleton] at hy
    rw [hy]
    exact h
theorem GrowN.list {K : PySem.W.Frag} {H : Hp} {a : Addr} {ds : List D} (g : GrowN K H a) (g2 : Grow K H a ds) : NdL K H (.ref a) ds := by
  obtain ⟨xs, e, h⟩ := g
  obtain ⟨xs', e', h'⟩ := g2
  rw [e] at e'
  cases e'
  exact ⟨a, xs, rfl, e, dpAll_same off_le h', fun x hx => (h x hx).same off_le⟩
section
variable {P : Program} {w : World} {K : PySem.W.Frag} {mg : Str → Option Value} {base : Heap}
abbrev sRows : Stmt := top 6
/-- choices: a list of lists -/
def spRows (K : PySem.W.Frag) : Sp := fun vs H Q _ => ∃ (v : V) (css : List (List D)), vs = [v] ∧ Dp K H v (.list (css.map .list)) ∧ css.length ≤ 4 ∧ (∀ c ∈ css, c.length ≤ 20) ∧
  ∀ H' w, Same H H' → Dp K H' w (.list ((rowsOf css).map rowD)) → NdL K H' w ((rowsOf css).map rowD) → Q w H'
theorem dp_list {K : PySem.W.Frag} {H : Hp} {v : V} {ds : List D} (h : Dp K H v (.list ds)) : ∃ a xs, v = .ref a ∧ SqL K H a xs ∧ DpAll K H xs ds := by
  cases h with
  | lst q r => exact ⟨_, _, rfl, q, r⟩
theorem dp_tup {K : PySem.W.Frag} {H : Hp} {v : V} {ds : List D} (h : Dp K H v (.tuple ds)) : ∃ a xs, v = .ref a ∧ SqT K H a xs ∧ DpAll K H xs ds := by
  cases h with
  | tup q r => exact ⟨_, _, rfl, q, r⟩
theorem dpAll_get {K : PySem.W.Frag} {H : Hp} : ∀ {vs : List V} {ds : List D} {i : Nat} {v : V}, DpAll K H vs ds → vs[i]? = some v → ∃ d, ds[i]? = some d ∧ Dp K H v d
  | _, _, _, _, .nil, e => by simp at e
  | _, _, 0, _, .cons h _, e => by
    simp at e
    subst e
    exact ⟨_, rfl, h⟩
  | _, _, i + 1, _, .cons _ r, e => by
    obtain ⟨d, h1, h2⟩ := dpAll_get (i := i) r (by simpa using e)
    exact ⟨d, by simpa using h1, h2⟩
abbrev NRows : List Str := ["choices", "rows", "things", "row", "thing"]
theorem scRows : FnScope NRows ["choices"] (defScope sRows) := ⟨rfl, rfl, rfl, by decide +kernel, rfl, by decide +kernel, by decide +kernel⟩
theorem ok_rows {f : Addr} {fd : FuncData} (F : Fun K "all_rows" "all_rows" sRows f fd) : FnOk P w K mg base CX0 1 f fd ["choices"] (spRows K) := by
  refine F.ok scRows (fun vs H Q E h => ?_) (fun cdv A outer s H vs Q E hr h => ?_)
  · obtain ⟨v, css, rfl, _⟩ := h
    rfl
  · obtain ⟨v, css, rfl, hd, h4, h8, k⟩ := h
    obtain ⟨a, xs, rfl, q, r⟩ := dp_list hd
    refine ⟨_, pss_cons (ps_set (i := 1) scRows.nd rfl (Or.inl rfl) (pe_lst (by exact (pa_cons (pe_tupZ pa_nil) pa_nil))))
      (pss_cons (ps_for PassesOwn.never rfl (pi_list (pv 0)) (pg_name (i := 2) scRows.nd rfl (Or.inr rfl))
        (pss_one (ps_setLc2 (i := 1) (own := [("row", 3), ("thing", 4)]) (vs1 := [4]) (g := gName 3) (tt := tYes) (g1 := gName 4) (tt1 := tYes) (wi1 := iList K (tVar 2)) (te := tTupZ (StX.tStar K (tVar 3) (tCons (tVar 4) tNil))) rfl scRows.nd rfl rfl (sw_true rfl rfl rfl (by decide +kernel)) (pi_list (pv 1)) (blkOk_by (N := NRows) (sc := defScope sRows) (by decide +kernel)) (by decide)
          (fun _ _ _ _ _ => pg_name (i := 3) scRows.nd rfl (Or.inl rfl)) (fun _ _ _ _ _ => pts_nil) (fun _ _ _ _ _ => pi_list (pv 2)) (fun _ _ _ _ _ => pg_name (i := 4) scRows.nd rfl (Or.inl rfl)) (fun _ _ _ _ _ => pts_nil)
          (fun _ _ _ _ _ => pe_tupZ (StX.pa_star (pv 3) (pa_cons (pv 4) pa_nil))))))
      (pss_one (ps_ret (pv 1)))), ?_⟩
    refine ⟨(by show 0 ≤ sizeLine; decide), fun t o0 ht hn0 => ⟨(by show 1 ≤ sizeLine; decide), fun L hL => ?_⟩⟩
    have s0 : Same H (upd (upd H t (.frz o0 (.tup []))) L (.lst [.ref t])) := (same_new ht).trans (same_new hL)
    have d0 : Dp K (upd (upd H t (.frz o0 (.tup []))) L (.lst [.ref t])) (.ref L) (.list ([[]].map rowD)) := .lst (SqL.of upd_same) (.cons (.tup (.inl (.inr ⟨o0, (same_new hL) _ _ upd_same⟩)) .nil) .nil)
    have n0 : NdL K (upd (upd H t (.frz o0 (.tup []))) L (.lst [.ref t])) (.ref L) ([[]].map rowD) := ⟨L, _, rfl, upd_same, .cons (.tup (.inl (.inr ⟨o0, (same_new hL) _ _ upd_same⟩)) .nil) .nil, fun x hx => by
      rw [List.mem_singleton] at hx
      rw [hx]
      exact ⟨t, rfl, .inl ⟨o0, _, (same_new hL) _ _ upd_same, hn0⟩⟩⟩
    refine ⟨_, rfl, a, rfl, ⟨_, s0.seq q⟩, for_list (K := K) (a := a) (xs := xs) (fun i σ H' => ∃ (Li : V) (u : Option V), σ = [some (.ref a), some Li, u, none, none] ∧ Same H H' ∧ Dp K H' Li (.list (((css.take i).foldl stepRows [[]]).map rowD)) ∧ NdL K H' Li (((css.take i).foldl stepRows [[]]).map rowD))
      ⟨_, none, rfl, s0, d0, n0⟩ (fun i σ H' _ ⟨_, _, _, s1, _⟩ => s1.seq q) ?_ ?_⟩
    · rintro i y σ H1 hi ⟨Li, u, rfl, s1, dL, _⟩
      obtain ⟨dc, hc, hy⟩ := dpAll_get r hi
      obtain ⟨c, hcc, rfl⟩ : ∃ c, css[i]? = some c ∧ dc = .list c := by
        rw [List.getElem?_map] at hc
        cases e : css[i]? with
        | none =>
          rw [e] at hc
          cases hc
        | some c =>
          rw [e] at hc
          exact ⟨c, rfl, (Option.some.inj hc).symm⟩
      have hil : i < css.length := (List.getElem?_eq_some_iff.mp hcc).1
      have hc8 : c.length ≤ 20 := h8 c (List.mem_of_getElem? hcc)
      obtain ⟨ac, xc, rfl, qc, rc⟩ := dp_list (dp_same s1 hy)
      obtain ⟨aL, xL, rfl, qL, rL⟩ := dp_list dL
      generalize hrows : (css.take i).foldl stepRows [[]] = rows at rL dL
      have many : rows.length ≤ 20 ^ 4 := by
        have h1 := rows_many (css.take i) (fun c' h' => h8 c' (List.mem_of_mem_take h')) [[]]
        rw [hrows, List.length_take, List.length_singleton, Nat.mul_one] at h1
        exact Nat.le_trans h1 (Nat.pow_le_pow_right (by decide) (by omega))
      have long : ∀ r' ∈ rows, r'.length ≤ 4 := fun r' h' => by
        have h1 := rows_len (css.take i) [[]] 0 (fun r'' h'' => by
          rw [List.mem_singleton] at h''
          subst h''
          rfl) r' (by rw [hrows]; exact h')
        rw [h1, List.length_take]
        omega
      have fl : ∀ r' : List D, (c.map fun x => rowD (r' ++ [x])).length ≤ 20 := fun r' => by
        rw [List.length_map]
        exact hc8
      refine ⟨_, rfl, aL, rfl, ⟨_, qL⟩, fun D hD => walk_it walk_list (fun j H2 => Same H1 H2 ∧ Grow K H2 D ((rows.take j).flatMap fun r' => c.map fun x => rowD (r' ++ [x])) ∧ GrowN K H2 D) ⟨same_new hD, Grow.nil, GrowN.nil⟩ (fun _ _ _ p => p.1.seq qL) ?_ ?_⟩
      · rintro j x _ H2 hj ⟨s2, g2, gn2⟩ ⟨rfl, hx⟩
        refine ⟨rfl, ?_⟩
        obtain ⟨dr, hr', hxd⟩ := dpAll_get rL hx
        obtain ⟨r', hrr, rfl⟩ : ∃ r', rows[j]? = some r' ∧ dr = rowD r' := by
          rw [List.getElem?_map] at hr'
          cases e : rows[j]? with
          | none =>
            rw [e] at hr'
            cases hr'
          | some c =>
            rw [e] at hr'
            exact ⟨c, rfl, (Option.some.inj hr').symm⟩
        obtain ⟨ar, xr, rfl, qr, rr⟩ := dp_tup hxd
        have lr := long r' (List.mem_of_getElem? hrr)
        refine ⟨_, rfl, ac, rfl, ⟨_, s2.seq qc⟩, walk_it walk_list (fun k H3 => Same H1 H3 ∧ Grow K H3 D (((rows.take j).flatMap fun r' => c.map fun x => rowD (r' ++ [x])) ++ (c.take k).map fun x => rowD (r' ++ [x])) ∧ GrowN K H3 D)
          ⟨s2, by simpa using g2, gn2⟩ (fun _ _ _ p => p.1.seq qc) ?_ ?_⟩
        · rintro k z _ H3 hk ⟨s3, g3, gn3⟩ ⟨rfl, hz⟩
          refine ⟨rfl, ?_⟩
          obtain ⟨dz, hz1, hzd⟩ := dpAll_get rc hz
          refine ⟨_, rfl, ar, xr, rfl, .inl (seqT s3 qr), _, rfl, ?_⟩
          refine ⟨by
            have := dpAll_len rr
            rw [List.length_append, this]
            show r'.length + 1 ≤ sizeLine
            rw [sizeLine_eq]
            omega, fun t2 o2 ht2 hn2 => ?_⟩
          obtain ⟨acc, eD, _⟩ := id g3
          have nt : D ≠ t2 := ne_of_none eD ht2
          have eD2 : upd H3 t2 (.frz o2 (.tup (xr ++ [z]))) D = some (.lst acc) := by
            rw [upd_ne nt]
            exact eD
          have lacc := g3.len eD
          refine ⟨acc, eD2, ?_, same_of (s3.trans (same_new ht2)) hD, ?_⟩
          · have h1 := flat_len fl (rows.take j)
            rw [List.length_append, List.length_map] at lacc
            rw [List.length_take] at h1 lacc
            rw [lacc, sizeLine_eq]
            omega
          · have e1 : ((rows.take j).flatMap fun r' => c.map fun x => rowD (r' ++ [x])) ++ (c.take (k + 1)).map (fun x => rowD (r' ++ [x])) = (((rows.take j).flatMap fun r' => c.map fun x => rowD (r' ++ [x])) ++ (c.take k).map fun x => rowD (r' ++ [x])) ++ [rowD (r' ++ [dz])] := by
              rw [take_more hz1, List.map_append, ← List.append_assoc]
              rfl
            rw [e1]
            have et2 : off (upd H3 t2 (.frz o2 (.tup (xr ++ [z])))) D t2 = some (.frz o2 (.tup (xr ++ [z]))) := by rw [off_ne (Ne.symm nt), upd_same]
            refine ⟨(g3.keep (same_new ht2)).put eD2 ?_, (gn3.keep (same_new ht2)).put eD2 ⟨t2, rfl, .inl ⟨o2, _, et2, hn2⟩⟩⟩
            have sd := same_new (o := .frz o2 (.tup (xr ++ [z]))) ht2
            refine .tup (.inl (.inr ⟨o2, et2⟩)) (dpAll_snoc ?_ ?_)
            · exact dpAll_same (fun c' o' e' => by
                rw [off_ne (ne_of_none e' hD)]
                exact sd _ _ (s3 _ _ e')) rr
            · exact dp_off hzd (s3.trans sd) hD
        · rintro H3 ⟨s3, g3, gn3⟩
          refine ⟨s3, ?_, gn3⟩
          have e1 : (rows.take (j + 1)).flatMap (fun r' => c.map fun x => rowD (r' ++ [x])) = ((rows.take j).flatMap fun r' => c.map fun x => rowD (r' ++ [x])) ++ (c.map fun x => rowD (r' ++ [x])) := by
            rw [take_more hrr, List.flatMap_append]
            simp
          rw [e1]
          have lc : xc.length = c.length := dpAll_len rc
          rw [lc, List.take_length] at g3
          exact g3
      · rintro H2 ⟨s2, g2, gn2⟩
        refine ⟨.ref D, _, rfl, s1.trans s2, ?_⟩
        have lL : xL.length = rows.length := by
          rw [dpAll_len rL, List.length_map]
        rw [lL, List.take_length] at g2
        have e1 : ((css.take (i + 1)).foldl stepRows [[]]).map rowD = rows.flatMap fun r' => c.map fun x => rowD (r' ++ [x]) := by
          rw [take_more hcc, List.foldl_append, hrows]
          show (stepRows rows c).map rowD = _
          unfold stepRows
          rw [List.map_flatMap]
          simp only [List.map_map]
          rfl
        rw [e1]
        exact ⟨g2.dp, gn2.list g2⟩
    · rintro σ H' ⟨Li, u, rfl, s1, dL, nL⟩
      have lx : xs.length = css.length := by
        rw [dpAll_len r, List.length_map]
      rw [lx, List.take_length] at dL nL
      exact ⟨_, rfl, k _ _ s1 dL nL⟩
end
end K40
/-! The draws. -/
namespace K40
open PySem L2 FX
section
variable {P : Program} {w : World} {K : PySem.W.Frag} {mg : Str → Option Value} {base : Heap}
abbrev sBox : Stmt := top 31
abbrev sTake : Stmt := top 32
abbrev sPick : Stmt := top 33
/-- three ints at p -/
def Box (H : Hp) (p : Addr) : Prop := ∃ x y z : Int, H p = some (.lst [.int x, .int y, .int z])
/-- all but p as it was -/
def But (p : Addr) (H H' : Hp) : Prop := ∀ c o, H c = some o → c ≠ p → H' c = some o
theorem But.refl (p : Addr) (H : Hp) : But p H H := fun _ _ e _ => e
theorem But.trans {p : Addr} {H H1 H2 : Hp} (a : But p H H1) (b : But p H1 H2) : But p H H2 := fun c o e n => b c o (a c o e n) n
theorem But.put {p : Addr} {H H1 : Hp} {o : HO} (a : But p H H1) : But p H (upd H1 p o) := fun c u e n => by
  rw [upd_ne n]
  exact a c u e n
def spTake : Sp := fun vs H Q _ => ∃ (p : Addr) (m : Int), vs = [.ref p, .int m] ∧ 0 < m ∧ m < 1000 ∧ Box H p ∧ ∀ (H' : Hp) (d : Int), But p H H' → Box H' p → 0 ≤ d → d < m → Q (.int d) H'
theorem scT : FnScope ["box", "many", "digit", "raw"] ["box", "many"] (defScope sTake) := ⟨rfl, rfl, rfl, by decide +kernel, rfl, by decide +kernel, by decide +kernel⟩
theorem ok_take {f : Addr} {fd : FuncData} (F : Fun K "_law_take" "_law_take" sTake f fd) (Z : Bi mg) : FnOk P w K mg base CX0 1 f fd ["box", "many"] spTake := by
  refine F.ok scT (fun vs H Q E h => ?_) (fun cdv A outer s H vs Q E hr h => ?_)
  · obtain ⟨p, m, rfl, _⟩ := h
    rfl
  · obtain ⟨p, m, rfl, m0, m1, ⟨x, y, z, hb⟩, k⟩ := h
    refine ⟨_, pss_cons (ps_if (pt_cmpR op_gt (pe_ix ix_list (pv 0) pe_int (fun _ _ => rfl)) pe_int (nomark _))
        (pss_cons (ps_set (i := 2) scT.nd rfl (Or.inl rfl) (pe_op op_mod (pe_callTy call_int1 (by rfl) Z.int (by decide +kernel) (pa_cons (pe_ix ix_list (pv 0) pe_int (fun _ _ => rfl)) pa_nil)) (pv 1)))
        (pss_cons (ps_asg (pe_op op_fdiv (pe_ix ix_list (pv 0) pe_int (fun _ _ => rfl)) (pv 1)) (pg_sub (pv 0) pe_int set_list))
        (pss_one (ps_ret (pv 2))))) pss_nil)
      (pss_cons (ps_asg (pe_op op_add (pe_ix ix_list (pv 0) pe_int (fun _ _ => rfl)) pe_int) (pg_sub (pv 0) pe_int set_list))
      (pss_cons (ps_set (i := 3) scT.nd rfl (Or.inl rfl) (pe_op op_mod (pe_callTy call_int1 (by rfl) Z.int (by decide +kernel) (pa_cons
          (pe_op op_add (pe_op op_mul (pe_op op_add (pe_ix ix_list (pv 0) pe_int (fun _ _ => rfl)) (pe_op op_mul pe_int (pe_ix ix_list (pv 0) pe_int (fun _ _ => rfl)))) pe_int) pe_int) pa_nil)) pe_int))
      (pss_cons (ps_asg (pe_op op_add (pe_op op_mod (pe_callTy call_int1 (by rfl) Z.int (by decide +kernel) (pa_cons (pe_op op_add (pe_op op_mul (pv 3) pe_int) pe_int) pa_nil)) pe_int) pe_int) (pg_sub (pv 0) pe_int set_list))
      (pss_one (ps_ret (pe_op op_mod (pe_callTy call_int1 (by rfl) Z.int (by decide +kernel) (pa_cons
          (pe_op op_fdiv (pe_op op_add (pe_op op_mul (pv 3) pe_int) (pe_ix ix_list (pv 0) pe_int (fun _ _ => rfl))) pe_int) pa_nil)) (pv 1))))))), ?_⟩
    refine ⟨_, rfl, p, _, _, _, rfl, rfl, SqL.of hb, atI_nat (j := 0) rfl, _, _, rfl, rfl, _, rfl, ?_⟩
    by_cases hx : 0 < x
    · refine go_t (decide_eq_true hx) ?_
      refine ⟨_, rfl, p, _, _, _, rfl, rfl, SqL.of hb, atI_nat (j := 0) rfl, .inl ⟨_, rfl, ?_⟩⟩
      refine ⟨_, rfl, _, _, rfl, rfl, m0, ?_⟩
      refine ⟨_, rfl, p, _, _, _, rfl, rfl, SqL.of hb, atI_nat (j := 0) rfl, _, rfl, _, _, rfl, rfl, ⟨m0, by omega⟩, ?_⟩
      refine ⟨_, rfl, p, _, _, 0, rfl, rfl, hb, rfl, ?_⟩
      exact ⟨_, rfl, k _ _ (But.refl p H).put ⟨_, _, _, upd_same⟩ (Int.emod_nonneg _ (by omega)) (Int.emod_lt_of_pos _ m0)⟩
    · refine go_f (decide_eq_false hx) ?_
      refine ⟨_, rfl, p, _, _, _, rfl, rfl, SqL.of hb, atI_nat (j := 2) rfl, _, _, rfl, rfl, ?_⟩
      refine ⟨_, rfl, p, _, _, 2, rfl, rfl, hb, rfl, ?_⟩
      have hb2 : upd H p (.lst [.int x, .int y, .int (z + 1)]) p = some (.lst [.int x, .int y, .int (z + 1)]) := upd_same
      refine ⟨_, rfl, p, _, _, _, rfl, rfl, SqL.of hb2, atI_nat (j := 1) rfl, ?_⟩
      refine ⟨_, rfl, p, _, _, _, rfl, rfl, SqL.of hb2, atI_nat (j := 2) rfl, ?_⟩
      refine ⟨_, _, rfl, rfl, .inl ⟨by decide, by decide⟩, _, _, rfl, rfl, _, _, rfl, rfl, .inr ⟨by decide, by decide⟩, _, _, rfl, rfl, .inl ⟨_, rfl, ?_⟩⟩
      refine ⟨_, _, rfl, rfl, (by show (0 : Int) < 2147483563; decide), ?_⟩
      refine ⟨_, rfl, _, _, rfl, rfl, .inr ⟨by decide, by decide⟩, _, _, rfl, rfl, .inl ⟨_, rfl, ?_⟩⟩
      refine ⟨_, _, rfl, rfl, (by show (0 : Int) < 2147483629; decide), _, _, rfl, rfl, ?_⟩
      refine ⟨_, rfl, p, _, _, 1, rfl, rfl, hb2, rfl, ?_⟩
      refine ⟨_, rfl, _, _, rfl, rfl, .inr ⟨by decide, by decide⟩, _, rfl, p, _, _, _, rfl, rfl, SqL.of upd_same, atI_nat (j := 1) rfl, _, _, rfl, rfl, ?_⟩
      refine ⟨_, _, rfl, rfl, ⟨by decide, by decide⟩, .inl ⟨_, rfl, ?_⟩⟩
      exact ⟨_, rfl, _, _, rfl, rfl, m0, k _ _ ((But.refl p H).put).put ⟨_, _, _, upd_same⟩ (Int.emod_nonneg _ (by omega)) (Int.emod_lt_of_pos _ m0)⟩
/-- one of the things of a list, of a tuple -/
def spPick (K : PySem.W.Frag) : Sp := fun vs H Q _ => ∃ (p l : Addr) (kd : SQ.Kd) (xs : List V), vs = [.ref p, .ref l] ∧ l ≠ p ∧ Box H p ∧ SQ.SqK K H kd l xs ∧ 0 < xs.length ∧ xs.length < 1000 ∧ ∀ (H' : Hp) (v : V), But p H H' → Box H' p → v ∈ xs → Q v H'
theorem scP : FnScope ["box", "some"] ["box", "some"] (defScope sPick) := ⟨rfl, rfl, rfl, by decide +kernel, rfl, by decide +kernel, by decide +kernel⟩
theorem sqK_but {K : PySem.W.Frag} {H H' : Hp} {p l : Addr} {xs : List V} (b : But p H H') (n : l ≠ p) : ∀ {kd : SQ.Kd}, SQ.SqK K H kd l xs → SQ.SqK K H' kd l xs
  | .L, q => by
    rcases q with (h | ⟨o, h⟩) | h
    · exact .inl (.inl (b l _ h n))
    · exact .inl (.inr ⟨o, b l _ h n⟩)
    · exact .inr h
  | .T, q => by
    rcases q with (h | ⟨o, h⟩) | h
    · exact .inl (.inl (b l _ h n))
    · exact .inl (.inr ⟨o, b l _ h n⟩)
    · exact .inr h
theorem ok_pick {f ft : Addr} {fd fdt : FuncData} (F : Fun K "_law_pick" "_law_pick" sPick f fd) (Z : Bi mg) (Ft : At K mg "_law_take" sTake ft fdt ["box", "many"]) : FnOk P w K mg base CX0 2 f fd ["box", "some"] (spPick K) := by
  have Gt : FnOk P w K mg base CX0 1 ft fdt ["box", "many"] spTake := ok_take Ft.F Z
  refine F.ok scP (fun vs H Q E h => ?_) (fun cdv A outer s H vs Q E hr h => ?_)
  · obtain ⟨p, l, kd, xs, rfl, _⟩ := h
    rfl
  · obtain ⟨p, l, kd, xs, rfl, npl, hb, hl, n0, n1, k⟩ := h
    refine ⟨_, pss_one (ps_ret (pe_ix ix_seq (pv 1) (pe_call Gt hr rfl Ft.g Ft.F.kp Ft.b .nil pass0 (by exact (pa_cons (pv 0) (pa_cons (pe_callB call_len_seq (by rfl) Z.len PySem.boot_len (pa_cons (pv 1) pa_nil)) pa_nil)))) (fun _ _ => rfl))), ?_⟩
    have hlS : SqL K H l xs ∨ SqT K H l xs := by
      cases kd with
      | L => exact .inl hl
      | T => exact .inr hl
    refine ⟨_, rfl, _, rfl, _, rfl, l, xs, rfl, hlS, p, _, rfl, by omega, by omega, hb, fun H' d bt hb' d0 d1 => ?_⟩
    obtain ⟨j, rfl⟩ : ∃ j : Nat, d = (j : Int) := ⟨d.toNat, by omega⟩
    have hj : j < xs.length := by omega
    have kk := k H' _ bt hb' (List.getElem_mem hj)
    have q := sqK_but bt npl hl
    cases kd with
    | L => exact .inl ⟨l, xs, _, _, rfl, rfl, q, atI_nat (List.getElem?_eq_getElem hj), kk⟩
    | T => exact .inr (.inl ⟨l, xs, _, _, rfl, rfl, q, atI_nat (List.getElem?_eq_getElem hj), kk⟩)
def spBox (K : PySem.W.Frag) : Sp := fun vs H Q _ => ∃ (a : Addr) (k : Int) (ns : List Int), vs = [.ref a, .int k] ∧ 0 ≤ k ∧ SqL K H a (ns.map V.int) ∧ ∀ (H' : Hp) (p : Addr), Same H H' → H p = none → Box H' p → Q (.ref p) H'
theorem get_int {ns : List Int} {j : Nat} (h : j < ns.length) : (ns.map V.int)[j]? = some (V.int ns[j]) := by
  rw [List.getElem?_map, List.getElem?_eq_getElem h]
  rfl
theorem pick2 (c : Int) (y : Bool) : atI [V.int 0, V.int c] (if y = true then 1 else 0) = some (V.int (if y = true then c else 0)) := by
  cases y <;> rfl
theorem upd_gone {H : Hp} {l p : Addr} {o : HO} (h : upd H l o p = none) : H p = none := by
  by_cases e : p = l
  · rw [e, upd_same] at h
    cases h
  · rw [upd_ne e] at h
    exact h
theorem scB : FnScope ["script", "k", "cell"] ["script", "k"] (defScope sBox) := ⟨rfl, rfl, rfl, by decide +kernel, rfl, by decide +kernel, by decide +kernel⟩
theorem ok_box {f : Addr} {fd : FuncData} (F : Fun K "_law_box" "_law_box" sBox f fd) (Z : Bi mg) : FnOk P w K mg base CX0 1 f fd ["script", "k"] (spBox K) := by
  refine F.ok scB (fun vs H Q E h => ?_) (fun cdv A outer s H vs Q E hr h => ?_)
  · obtain ⟨a, k, ns, rfl, _⟩ := h
    rfl
  · obtain ⟨a, k, ns, rfl, k0, hS, kk⟩ := h
    refine ⟨_, pss_cons (ps_set (i := 2) scB.nd rfl (Or.inl rfl) (pe_op op_add (pe_op op_mul pe_int (pv 1)) pe_int))
      (pss_cons (ps_if (pt_cmpR op_lt (pv 1) (pe_callB call_len_seq (by rfl) Z.len PySem.boot_len (pa_cons (pv 0) pa_nil)) (nomark _))
        (pss_one (ps_set (i := 2) scB.nd rfl (Or.inl rfl) (pe_callB call_abs (by rfl) Z.abs (by decide +kernel) (pa_cons (pe_ix ix_list (pv 0) (pv 1) (fun _ _ => rfl)) pa_nil))))
        (pss_one (ps_if (pt_cmpR op_gt (pe_callB call_len_seq (by rfl) Z.len PySem.boot_len (pa_cons (pv 0) pa_nil)) pe_int (nomark _))
          (pss_one (ps_set (i := 2) scB.nd rfl (Or.inl rfl) (pe_op op_add (pv 2) (pe_op op_mul (pe_op op_mod (pe_callTy call_int1 (by rfl) Z.int (by decide +kernel) (pa_cons
            (pe_callB call_abs (by rfl) Z.abs (by decide +kernel) (pa_cons (pe_ix ix_list (pv 0) (pe_op op_mod (pe_callTy call_int1 (by rfl) Z.int (by decide +kernel) (pa_cons (pv 1) pa_nil))
              (pe_callB call_len_seq (by rfl) Z.len PySem.boot_len (pa_cons (pv 0) pa_nil))) (fun _ _ => rfl)) pa_nil)) pa_nil)) pe_int) pe_int)))) pss_nil)))
      (pss_one (ps_ret (pe_lst (by exact (pa_cons (pe_ix ix_list (pe_lst (by exact (pa_cons pe_int (pa_cons (pv 2) pa_nil)))) (pe_callTy call_int1 (by rfl) Z.int (by decide +kernel) (pa_cons (pe_cmpR op_ge (pv 2) (pe_op op_pow pe_int pe_int) (nomark _)) pa_nil)) (fun _ _ => rfl))
        (pa_cons (pe_op op_add (pe_op op_mod (pe_callTy call_int1 (by rfl) Z.int (by decide +kernel) (pa_cons (pe_op op_add (pe_op op_mul (pe_op op_mod (pe_callTy call_int1 (by rfl) Z.int (by decide +kernel) (pa_cons (pv 2) pa_nil)) pe_int) pe_int)
          (pe_op op_mul pe_int (pv 1))) pa_nil)) pe_int) pe_int) (pa_cons pe_int pa_nil)))))))), ?_⟩
    refine ⟨_, rfl, _, _, rfl, rfl, .inl ⟨by decide, by decide⟩, _, _, rfl, rfl, ?_⟩
    refine ⟨_, rfl, _, rfl, a, _, rfl, .inl hS, _, _, rfl, rfl, _, rfl, ?_⟩
    rw [List.length_map]
    by_cases h1 : k < (ns.length : Int)
    · refine go_t (decide_eq_true h1) ?_
      obtain ⟨j, rfl⟩ : ∃ j : Nat, k = (j : Int) := ⟨k.toNat, by omega⟩
      refine ⟨_, rfl, _, rfl, a, _, _, _, rfl, rfl, hS, atI_nat (get_int (by omega)), _, rfl, ?_⟩
      refine ⟨_, rfl, (by show 2 ≤ sizeLine; decide), fun l hl => ?_⟩
      refine ⟨_, rfl, _, _, rfl, rfl, ⟨by decide, by decide, by decide⟩, _, _, rfl, rfl, .inr ⟨_, rfl, ?_⟩⟩
      refine ⟨l, _, _, _, rfl, rfl, SqL.of upd_same, pick2 _ _, ?_⟩
      refine ⟨_, rfl, .inl ⟨_, rfl, _, _, rfl, rfl, (by show (0 : Int) < 2147483629; decide), _, _, rfl, rfl, .inr ⟨by decide, by decide⟩, ?_⟩⟩
      refine ⟨_, rfl, _, _, rfl, rfl, .inl ⟨by decide, by decide⟩, _, _, rfl, rfl, .inl ⟨_, rfl, ?_⟩⟩
      refine ⟨_, _, rfl, rfl, (by show (0 : Int) < 2147483629; decide), _, _, rfl, rfl, (by show 3 ≤ sizeLine; decide), fun p hp => ?_⟩
      exact kk _ p ((same_new hl).trans (same_new hp)) (upd_gone hp) ⟨_, _, _, upd_same⟩
    · refine go_f (decide_eq_false h1) ?_
      refine ⟨_, rfl, a, _, rfl, .inl hS, _, _, rfl, rfl, _, rfl, ?_⟩
      rw [List.length_map]
      by_cases h2 : (0 : Int) < (ns.length : Int)
      · refine go_t (decide_eq_true h2) ?_
        refine ⟨_, rfl, _, rfl, _, rfl, .inl ⟨_, rfl, _, rfl, a, _, rfl, .inl hS, ?_⟩⟩
        rw [List.length_map]
        have r0 := Int.emod_nonneg k (show (ns.length : Int) ≠ 0 by omega)
        have r1 := Int.emod_lt_of_pos k h2
        obtain ⟨j, hj⟩ : ∃ j : Nat, k % (ns.length : Int) = (j : Int) := ⟨(k % (ns.length : Int)).toNat, by omega⟩
        refine ⟨_, _, rfl, rfl, h2, a, _, _, _, rfl, rfl, hS, (by show atI _ (k % (ns.length : Int)) = _; rw [hj]; exact atI_nat (get_int (by omega))), _, rfl, .inl ⟨_, rfl, ?_⟩⟩
        refine ⟨_, _, rfl, rfl, (by show (0 : Int) < 2147483629; decide), _, _, rfl, rfl, .inr ⟨by decide, by decide⟩, _, _, rfl, rfl, ?_⟩
        refine ⟨_, rfl, (by show 2 ≤ sizeLine; decide), fun l hl => ?_⟩
        refine ⟨_, rfl, _, _, rfl, rfl, ⟨by decide, by decide, by decide⟩, _, _, rfl, rfl, .inr ⟨_, rfl, ?_⟩⟩
        refine ⟨l, _, _, _, rfl, rfl, SqL.of upd_same, pick2 _ _, ?_⟩
        refine ⟨_, rfl, .inl ⟨_, rfl, _, _, rfl, rfl, (by show (0 : Int) < 2147483629; decide), _, _, rfl, rfl, .inr ⟨by decide, by decide⟩, ?_⟩⟩
        refine ⟨_, rfl, _, _, rfl, rfl, .inl ⟨by decide, by decide⟩, _, _, rfl, rfl, .inl ⟨_, rfl, ?_⟩⟩
        refine ⟨_, _, rfl, rfl, (by show (0 : Int) < 2147483629; decide), _, _, rfl, rfl, (by show 3 ≤ sizeLine; decide), fun p hp => ?_⟩
        exact kk _ p ((same_new hl).trans (same_new hp)) (upd_gone hp) ⟨_, _, _, upd_same⟩
      · refine go_f (decide_eq_false h2) ?_
        refine ⟨_, rfl, (by show 2 ≤ sizeLine; decide), fun l hl => ?_⟩
        refine ⟨_, rfl, _, _, rfl, rfl, ⟨by decide, by decide, by decide⟩, _, _, rfl, rfl, .inr ⟨_, rfl, ?_⟩⟩
        refine ⟨l, _, _, _, rfl, rfl, SqL.of upd_same, pick2 _ _, ?_⟩
        refine ⟨_, rfl, .inl ⟨_, rfl, _, _, rfl, rfl, (by show (0 : Int) < 2147483629; decide), _, _, rfl, rfl, .inr ⟨by decide, by decide⟩, ?_⟩⟩
        refine ⟨_, rfl, _, _, rfl, rfl, .inl ⟨by decide, by decide⟩, _, _, rfl, rfl, .inl ⟨_, rfl, ?_⟩⟩
        refine ⟨_, _, rfl, rfl, (by show (0 : Int) < 2147483629; decide), _, _, rfl, rfl, (by show 3 ≤ sizeLine; decide), fun p hp => ?_⟩
        exact kk _ p ((same_new hl).trans (same_new hp)) (upd_gone hp) ⟨_, _, _, upd_same⟩
end
end K40
/-! How many unlike ones a tuple of ints has; what None and an int are written as. -/
namespace SQ
open PySem PySem.Spec PyProof.Rows L2
theorem one_iff {ns : List Int} {ks : List Int} (nd : ks.Nodup) (he : ∀ k, k ∈ ns ↔ k ∈ ks) (ne : ns ≠ []) : ks.length = 1 ↔ ∀ y ∈ ns, y = ns.headD 0 := by
  cases ns with
  | nil => exact absurd rfl ne
  | cons a r =>
    constructor
    · intro h y hy
      match ks, h with
      | [k], _ =>
        have h1 := (he y).mp hy
        have h2 := (he a).mp (List.mem_cons_self ..)
        rw [List.mem_singleton] at h1 h2
        rw [h1]
        exact h2.symm
    · intro h
      match ks, nd, he with
      | [], _, he => exact absurd ((he a).mp (List.mem_cons_self ..)) (by simp)
      | [k], _, _ => rfl
      | k :: k2 :: t, nd, he =>
        have e1 := h k ((he k).mpr (List.mem_cons_self ..))
        have e2 := h k2 ((he k2).mpr (List.mem_cons_of_mem _ (List.mem_cons_self ..)))
        rw [List.nodup_cons] at nd
        exact absurd (by rw [e1, e2]; exact List.mem_cons_self ..) nd.1
def tLenSetT (K : PySem.W.Frag) (ta : TE) : TE := fun σ H Q => ta σ H fun x H1 => ∃ (l : Addr) (ns : List Int), x = .ref l ∧ SqT K H1 l (ns.map V.int) ∧ ns.length ≤ 4000 ∧ ∀ m : Nat, (ns ≠ [] → (m = 1 ↔ ∀ y ∈ ns, y = ns.headD 0)) → Q (.int (m : Nat)) H1
theorem pe_lenSetT {X : Cx} {a : Expr} {ta : TE} {p p2 q pos : Pos} (hg : Gl X "len") (hm : X.mg "len" = none) (hg2 : Gl X "set") (hm2 : X.mg "set" = none) (ha : PE X a ta) (hc : X.calm = true := by rfl)
    (na : starEach [a] X.env = (false, eval a X.env) :: starEach [] X.env := by rfl) : PE X (.Call (.Name "len" p) [.Call (.Name "set" p2) [a] [] q] [] pos) (tLenSetT X.K ta) := by
  refine ⟨fun pins s σ H Q I h => Call_ (ld_blt I hg hm boot_len (PyProof.Rows.callWith_builtin1 (PyProof.Rows.args_cons ?_ rfl) rfl rfl))⟩
  refine Call_ (ld_blt I hg2 hm2 boot_set (PyProof.Rows.callWith_type1 (PyProof.Rows.args_cons (thn (ha.run pins s σ H _ I h) ?_) na) na rfl))
  rintro v s1 ⟨x, H1, I1, r1, l, ns, rfl, hq, few, k⟩
  refine PyProof.Rows.args_nil ?_
  obtain rfl : v = Value.ref l := r1
  obtain ⟨its, r, pl, hz⟩ := I1.tuple hq
  refine call_set_tupI ns (I1.ok.hd hc) pl (by simpa using ints_of_vals r) (by unfold scanBound; omega) ?_
  intro h' tk c R hc' hk
  refine PyProof.Rows.args_nil ?_
  obtain ⟨o, es, ep, t, ho, hex, hd, _, nd, mem, _, hf, hn, _⟩ := R
  have I2 : Inv X pins σ H1 { s1 with heap := h', toks := tk } := I1.kept hk
  refine call_len_set ho hex hd hf (by omega) ⟨.int es.size, H1, I2.tok _, ⟨_, rfl⟩, k es.size fun ne => ?_⟩
  have := one_iff (ns := ns) (ks := es.toList.map keyOf) nd (fun k => by
    rw [← mem k]
    simp) ne
  rw [List.length_map, Array.length_toList] at this
  exact this
/-- what None, an int are written as -/
def reprV : V → Option Str
  | .non => some "None"
  | .int i => some (toString i)
  | _ => none
def rRepr : List V → Hp → VK → Prop := fun vs H Q => (vs = [.non] ∧ Q (.str "None") H) ∨ ∃ i : Int, vs = [.int i] ∧ i.natAbs.log2 < 1920 ∧ Q (.str (toString i)) H
theorem cr_repr {X : Cx} : CallR X (.builtin "repr") rRepr := by
  intro pins s σ H vs us Q I r h
  rcases h with ⟨rfl, q⟩ | h
  · obtain ⟨u, rfl, ru⟩ := vals1 r
    obtain rfl : u = Value.none := ru
    exact PySem.P.repr_of_none ⟨.str _, H, I.tok _, ⟨_, rfl⟩, q⟩
  · obtain ⟨i, rfl, hz, q⟩ := h
    obtain ⟨u, rfl, t, rfl⟩ := vals1 r
    exact PySem.P.repr_of_int hz ⟨.str _, H, I.tok _, ⟨_, rfl⟩, q⟩
end SQ
/-! sorted of a list of tuples of ints, any number of them. -/
namespace SQ
open PySem PySem.Spec PyProof.Rows L2
theorem swo_rk (r : Value → Int) : SrtO.Swo fun v u => decide (r v < r u) := ⟨fun x y h => by
  have := of_decide_eq_true h
  exact decide_eq_false (by omega), fun x y z h1 h2 => by
  have a := of_decide_eq_false h1
  have b := of_decide_eq_false h2
  exact decide_eq_false (by omega)⟩
section
variable {prog : Program} {w : World} {A : Around} {s : Shared}
theorem tups_sortable {r : Value → Int} {a : Addr} {vs : List Value} {d : Nat} {B : Int} (h2 : 2 ≤ vs.length) (hd : 1 ≤ d) (x : TS.TupsOk s.heap d B vs) (hr : ∀ v ∈ vs, ∀ ns, TS.TupInts s.heap v ns → r v = TS.code B ns) (ha : ∀ o, s.heap.get? a = some o → o.cls ≠ .type "tuple") :
    SrtO.SortableO prog w A s a vs fun v u => decide (r v < r u) := by
  intro h' keep
  have st : ∀ b o, s.heap.get? b = some o → o.cls = .type "tuple" → h'.get? b = some o := fun b o e c => keep b o (fun z => by
    subst z
    exact ha o e c) e
  obtain ⟨fs, kt, hl, hi⟩ := TS.firsts_of hd vs (x.keeps st)
  refine ⟨PyProof.Rows.tuples' true, fun Q E hq => ?_, fun p q hp hq => ?_⟩
  · refine PySem.W.kat_kind (T := .type "int") kt (by omega) (fun f hf => ?_) (by rfl) hq
    obtain ⟨n, t, rfl⟩ := hi f hf
    exact PySem.W.Looks.now
  · obtain ⟨ns, tp, lp, bp⟩ := x _ hp
    obtain ⟨ms, tq, lq, bq⟩ := x _ hq
    have r1 := hr _ hp _ tp
    have r2 := hr _ hq _ tq
    obtain ⟨b1, xs, e1, ⟨o1, ho1, _, n1, hd1⟩, i1⟩ := tp.keeps st
    obtain ⟨b2, ys, e2, ⟨o2, ho2, _, n2, hd2⟩, i2⟩ := tq.keeps st
    show wpAny (model prog w) A (keyLt' (PyProof.Rows.tuples' true) p.1 q.1) (fun u s' => s' = { s with heap := h' } ∧ u = decide (r p.1 < r q.1)) (fun _ _ => False) { s with heap := h' }
    rw [r1, r2, e1, e2]
    refine PySem.W.kat_lt ho1 hd1 ho2 hd2 ?_
    have l1 := i1.length
    have l2 := i2.length
    rw [Array.length_toList] at l1 l2
    rw [show decide (xs.size < ys.size) = false from decide_eq_false (by omega)]
    exact TS.lex_ints 0 i1 i2 (by omega) bp bq ⟨rfl, rfl⟩
end
def rSortedTN (K : PySem.W.Frag) (d : Nat) (B : Int) : List V → Hp → VK → Prop := fun vs H Q => ∃ (a : Addr) (xs : List V), vs = [V.ref a] ∧ SqL K H a xs ∧ (∀ x ∈ xs, ∃ ns, TupI K H x ns ∧ ns.length = d ∧ TS.Bd B ns) ∧
  ∀ (ys : List V) (p : Addr), ys.Perm xs → ys.Pairwise (fun x y => ∀ n m, TupI K H x n → TupI K H y m → TS.code B n ≤ TS.code B m) → H p = none → Q (.ref p) (upd H p (.lst ys))
theorem cr_sortedTN {X : Cx} {d : Nat} {B : Int} (hd : 1 ≤ d) : CallR X (.builtin "sorted") (rSortedTN X.K d B) := by
  intro pins s σ H vs us Q I r h
  obtain ⟨a, xs, rfl, hs, hx, q⟩ := h
  obtain ⟨its, rv, hl, hz⟩ := I.list hs
  rw [Vals.ref1 r]
  obtain ⟨e1, e2⟩ := bkV_refs rv fun x m => by
    obtain ⟨ns, ⟨t, e, _⟩, _⟩ := hx x m
    exact ⟨t, e⟩
  have ok : TS.TupsOk s.heap d B its := fun v hv => by
    obtain ⟨t, rfl⟩ := e2 v hv
    have hm : V.ref t ∈ xs := by
      rw [e1]
      exact List.mem_map.mpr ⟨_, hv, rfl⟩
    obtain ⟨ns, ⟨t', e, ht⟩, hn, hb⟩ := hx _ hm
    cases e
    exact ⟨ns, tupI_raw I ht, hn, hb⟩
  refine SrtO.sorted_ord (swo_rk fun v => TS.code B (TS.intsOf s.heap v)) hl.isList (by rw [← rv.length]; exact hz) (fun h2 h₁ a' ha' keep => ?_) fun out h1 h2 => ?_
  · refine tups_sortable h2 hd (ok.keeps fun b o e _ => (keep b o e).2) (fun v hv ns t => ?_) (fun o e => ?_)
    · obtain ⟨ns0, t0, _⟩ := ok v hv
      have e : ns = ns0 := t.ints.symm.trans (t0.keeps fun b o e _ => (keep b o e).2).ints
      rw [e]
      show TS.code B (TS.intsOf s.heap v) = _
      rw [t0.ints]
    · have e' : some o = some (seqObj "list" its.toArray 0) := e.symm.trans ha'
      cases e'
      intro c
      exact absurd (Value.type.inj c) (by decide)
  · obtain ⟨ep, he'⟩ := PyProof.Rows.sortedAll_at s.heap its out.toArray
    have h3 : ∀ u ∈ out, ∃ a, u = Value.ref a := fun u hu => e2 u (h2.perm.mem_iff.mp hu)
    have hp : (out.map bkV).Perm xs := by
      rw [e1]
      exact h2.perm.map bkV
    refine ⟨.ref _, upd H (s.heap.objs.size + 1) (.lst (out.map bkV)), I.laid (t' := s.toks) (fun _ _ => PyProof.Rows.sortedAll_old) (Nat.le_succ _) ⟨by rw [hp.length_eq]; exact hz, out, ep, bkV_vals h3, he'⟩, rfl, q _ _ hp ?_ (I.hok.fresh (Nat.le_succ _))⟩
    rw [List.pairwise_map]
    refine List.Pairwise.imp (fun {u v} huv n m hn hm => ?_) h1
    obtain ⟨t, et, ht⟩ := hn
    obtain ⟨t', et', ht'⟩ := hm
    have i1 : TS.intsOf s.heap u = n := by
      rw [bkV_ref et]
      exact (tupI_raw I ht).ints
    have i2 : TS.intsOf s.heap v = m := by
      rw [bkV_ref et']
      exact (tupI_raw I ht').ints
    have huv' : decide (TS.code B (TS.intsOf s.heap v) < TS.code B (TS.intsOf s.heap u)) = false := huv
    rw [i1, i2] at huv'
    have := of_decide_eq_false huv'
    omega
end SQ
/-! the least, the greatest, the sum of a tuple of ints. -/
namespace SQ
open PySem PySem.Spec PyProof.Rows L2
theorem alikeI : ∀ ns : List Int, PySem.W.AlikeAll (ns.map PyData.int) := fun ns =>
  ⟨fun x hx y hy => by
    obtain ⟨a, _, rfl⟩ := List.mem_map.mp hx
    obtain ⟨b, _, rfl⟩ := List.mem_map.mp hy
    rfl, fun x hx => by
    obtain ⟨a, _, rfl⟩ := List.mem_map.mp hx
    intro z
    cases z⟩
theorem depthI : ∀ ns : List Int, PyData.depthAll (ns.map PyData.int) ≤ 1
  | [] => by decide
  | n :: r => by
    have := depthI r
    simp [PyData.depthAll, PyData.depth]
    omega
theorem dpI {K : PySem.W.Frag} {H : Hp} : ∀ ns : List Int, DpAll K H (ns.map V.int) (ns.map PyData.int)
  | [] => .nil
  | n :: r => .cons (.int n) (dpI r)
def rPickT (K : PySem.W.Frag) (f : Int → Int → Int) : List V → Hp → VK → Prop := fun vs H Q => ∃ (a : Addr) (n : Int) (ns : List Int), vs = [.ref a] ∧ SqT K H a ((n :: ns).map V.int) ∧ Q (.int (ns.foldl f n)) H
theorem cr_minTI {X : Cx} (hc : X.calm = true) (hu : X.A.units + 65 < cLine) : CallR X (.builtin "min") (rPickT X.K min) := by
  intro pins s σ H vs us Q I r h
  obtain ⟨a, n, ns, rfl, hs, q⟩ := h
  obtain ⟨its, rv, hl, _⟩ := I.tuple hs
  rw [Vals.ref1 r]
  obtain ⟨as, hr⟩ := Dp.readsAll I _ _ its (dpI (n :: ns)) rv
  have hd := depthI (n :: ns)
  refine PySem.W.min_tuple_data (x := .int n) (xs := ns.map PyData.int) (as := as) (I.ok.hd hc) hl hr (alikeI (n :: ns)) (by
    have : PyData.depthAll (PyData.int n :: ns.map PyData.int) ≤ 1 := hd
    omega) fun i v h' tk bs hv hrd hk => ?_
  rw [PySem.W.minD_ints] at hrd
  obtain ⟨t, rfl⟩ : ∃ t, v = .int (ns.foldl min n) t := by
    cases hrd
    exact ⟨_, rfl⟩
  exact ⟨.int _, H, I.kept hk, ⟨t, rfl⟩, q⟩
theorem cr_maxTI {X : Cx} (hc : X.calm = true) (hu : X.A.units + 65 < cLine) : CallR X (.builtin "max") (rPickT X.K max) := by
  intro pins s σ H vs us Q I r h
  obtain ⟨a, n, ns, rfl, hs, q⟩ := h
  obtain ⟨its, rv, hl, _⟩ := I.tuple hs
  rw [Vals.ref1 r]
  obtain ⟨as, hr⟩ := Dp.readsAll I _ _ its (dpI (n :: ns)) rv
  have hd := depthI (n :: ns)
  refine PySem.W.max_tuple_data (x := .int n) (xs := ns.map PyData.int) (as := as) (I.ok.hd hc) hl hr (alikeI (n :: ns)) (by
    have : PyData.depthAll (PyData.int n :: ns.map PyData.int) ≤ 1 := hd
    omega) fun i v h' tk bs hv hrd hk => ?_
  rw [PySem.W.maxD_ints] at hrd
  obtain ⟨t, rfl⟩ : ∃ t, v = .int (ns.foldl max n) t := by
    cases hrd
    exact ⟨_, rfl⟩
  exact ⟨.int _, H, I.kept hk, ⟨t, rfl⟩, q⟩
def rSumT (K : PySem.W.Frag) : List V → Hp → VK → Prop := fun vs H Q => ∃ (a : Addr) (ns : List Int), vs = [.ref a] ∧ SqT K H a (ns.map V.int) ∧ Q (.int ns.sum) H
theorem cr_sumT {X : Cx} (hc : X.calm = true) : CallR X (.builtin "sum") (rSumT X.K) := by
  intro pins s σ H vs us Q I r h
  obtain ⟨a, ns, rfl, hs, q⟩ := h
  obtain ⟨its, rv, hl, _⟩ := I.tuple hs
  rw [Vals.ref1 r]
  obtain ⟨xs, e⟩ := rv.ints.allInts.items
  have hn : numsOf (intItems xs).toList = ns := by rw [← e]; exact rv.ints.numsOf
  rw [nums_intItems] at hn
  rw [e] at hl
  refine PySem.W.ktm_sumG (I.ok.hd hc) hl fun h' tk t' hk => ⟨.int ns.sum, H, I.kept hk, ⟨t', ?_⟩, q⟩
  rw [preSum_eq, List.take_of_length_le (by simp), hn]
end SQ
/-! A comprehension whose tests and thing may use what its def knows when the block is entered. -/
namespace SQ
open PySem PySem.Spec PyProof.Rows L2
/-- the reading: the turns are told for each state in which the block may be entered -/
def tAt (X : Cx) (wi : TI) (g : TG) (tt : Shared → Hp → TT) (te : Shared → Hp → TE) (own : List Nat) : TE := fun σ H Q => wi σ H fun J Hi => ∀ D, Hi D = none → ∀ (sb : Shared) (pb : List (Addr × Obj)), Inv X pb σ (upd Hi D (.lst [])) sb →
  ∃ W : Nat → Nat → Hp → Prop, (∃ m, W 0 m (upd Hi D (.lst []))) ∧ ∀ i m Hc, W i m Hc → (J.stop i Hc ∧ Q (.ref D) Hc) ∨ (J.go i Hc ∧ ∃ Nx : Hp → Prop, (∀ H', Nx H' → ∃ m', m' < m ∧ W (i + 1) m' H') ∧
    ∀ x H', J.yld i Hc x H' → g x (wipe σ own) H' fun σ2 H2 => wipe σ2 own = wipe σ own ∧ tt sb (upd Hi D (.lst [])) σ2 H2 fun b H3 =>
      if b = true then te sb (upd Hi D (.lst [])) σ2 H3 fun y H4 => ∃ acc, H4 D = some (.lst acc) ∧ acc.length < sizeLine ∧ Nx (upd H4 D (.lst (acc ++ [y]))) else Nx H3)
section
variable {X : Cx}
/-- the block's own cells are free from the def's: all is there for the closure -/
theorem free_there {scope : Scope} {own : List (Str × Nat)} {pins : List (Addr × Obj)} {σ : L2.St} {H : Hp} {s : Shared} (I : Inv X pins σ H s) (ok : BlkOk X.N X.env.scope scope own) : ∀ y ∈ scope.names, y.2 = .free → ∃ c, X.env.cells.lookup y.1 = some c := by
  intro y hy e
  exact I.ok.has _ ((ok.free y hy e).imp id id)
theorem fp_still {Y : Cx} {fp : List Addr} {σ : L2.St} {H : Hp} {s : Shared} (I : Inv Y [] σ H s) (hx : Y.ex = fp) (hp : Y.pn = []) (hn : ∀ b ∈ fp, H b = none) : ∀ b ∈ fp, FpOk Y [] H b := by
  intro b hb
  have hb' : b ∈ Y.ex := by rw [hx]; exact hb
  refine ⟨hn b hb, (I.ok.exf b hb').1, I.ok.exfs b hb', .inl hb', fun x c e => (I.ok.exf b hb').2 x c e, fun p q => ?_⟩
  rw [hp] at q
  cases q
theorem pe_lcAt {elt tg iter : Expr} {ifs : List Expr} {scope : Scope} {own : List (Str × Nat)} {pos : Pos} {wi : TI} {g : TG} {tt : Shared → Hp → TT} {te : Shared → Hp → TE} (hc : X.calm = true) (hN : X.N.Nodup) (hi : PI X tg iter wi) (ok : BlkOk X.N X.env.scope scope own)
    (hb : ∀ (s : Shared) (H : Hp) (pins : List (Addr × Obj)) (σ : L2.St) (C : Addr) (cl : List (Str × Addr)) (fp : List Addr), Inv X pins σ H s → (∀ b ∈ fp, FpOk X pins H b) →
      PG (X.blk s H scope (compEnvC scope cl C X.env) fp) tg g ∧ PTs (X.blk s H scope (compEnvC scope cl C X.env) fp) ifs (tt s H) ∧ PE (X.blk s H scope (compEnvC scope cl C X.env) fp) elt (te s H))
    (hs : ∀ x, foldedSetIterable iter X.env x = pure x := by intro _; rfl) :
    PE X (.ListComp elt [⟨tg, iter, ifs, 0⟩] scope pos) (tAt X wi g tt te (own.map (·.2))) := by
  refine ⟨fun pins s σ H Q I h => ?_⟩
  rw [eval_ListComp]
  have fr := free_there I ok
  refine wpAny_comprehension_free (use := none) rfl hs (closure_ok fr) ok.kind (fun y hy e => by rw [ok.uniq y hy, e]) (thn (hi.run pins s σ H _ I h) fun _ _ hx => thn hx fun _ sI hI => ?_)
  obtain ⟨it, fp, tn, J, Hi, rfl, II, T, stI, fI, q⟩ := hI
  refine wpAny_newObj_type (newEnv_comp ?_) (by show 0 ≤ sizeLine; decide)
  have nD : Hi sI.heap.objs.size = none := II.hok.fresh (Nat.le_refl _)
  have IL : Inv X pins σ (upd Hi sI.heap.objs.size (.lst [])) { sI with heap := sI.heap.push { cls := .type "list", data := .seq ([] : List Value).toArray } } :=
    II.laid (t' := sI.toks) (fun _ _ e => Heap.get?_push_of_some _ e) (Nat.le_refl _) ⟨Nat.zero_le _, [], 0, .nil, Heap.get?_push_size _ rfl⟩
  obtain ⟨W, ⟨m0, w0⟩, turn⟩ := q _ nD _ _ IL
  have fL : ∀ b ∈ fp, FpOk X pins (upd Hi sI.heap.objs.size (.lst [])) b ∧ b < (sI.heap.push { cls := .type "list", data := .seq ([] : List Value).toArray }).objs.size := by
    intro b hbm
    obtain ⟨o, e, _⟩ := T.obj _ _ stI b hbm
    have lt := Heap.lt_size e
    exact ⟨⟨by rw [upd_ne (Nat.ne_of_lt lt)]; exact (fI b hbm).1, (fI b hbm).2⟩, by rw [Heap.size_push]; exact Nat.lt_succ_of_lt lt⟩
  have stL : tn 0 (sI.heap.push { cls := .type "list", data := .seq ([] : List Value).toArray }) := T.keep _ _ _ stI fun _ _ _ e => Heap.get?_push_of_some _ e
  generalize sI.heap.objs.size = D at *
  generalize hsb : ({ sI with heap := sI.heap.push { cls := .type "list", data := .seq ([] : List Value).toArray } } : Shared) = sb at *
  have eb : sb.heap = sI.heap.push { cls := .type "list", data := .seq ([] : List Value).toArray } := by rw [← hsb]
  rw [← eb] at fL stL
  generalize upd Hi D (.lst []) = Hb at *
  have IB := block_start IL ok hN fL
  obtain ⟨pg, pt, pe⟩ := hb sb Hb pins σ sb.heap.objs.size (cellsFrom (sb.heap.objs.size + 1) scope.names (cloFrom X.env.cells scope.names [])) fp IL fun b hbm => (fL b hbm).1
  have stB : tn 0 (pushCells (sb.heap.push { cls := .type "dict", data := .dict #[] }) scope.names) := T.keep _ _ _ stL fun _ _ _ e => pushCells_keeps _ _ _ _ (Heap.get?_push_of_some _ e)
  have nfp : ∀ b ∈ fp, Hb b = none := fun b hbm => (fL b hbm).1.1
  generalize hce : compEnvC scope (cellsFrom (sb.heap.objs.size + 1) scope.names (cloFrom X.env.cells scope.names [])) sb.heap.objs.size X.env = ce at IB pg pt pe
  have ceq : ce.locals = sb.heap.objs.size := by rw [← hce]; rfl
  show codeAny _ _ (.compStart (.ListComp elt [⟨tg, iter, ifs, 0⟩] scope pos) 0 (.ref it) (.ref D) (compEnvC scope (cellsFrom (sb.heap.objs.size + 1) scope.names (cloFrom X.env.cells scope.names [])) sb.heap.objs.size X.env)) (compPost (model X.prog X.w) X.A X.xe none (EP X pins σ Q) (.ref D) sb.heap.objs.size) { sb with heap := pushCells (sb.heap.push { cls := .type "dict", data := .dict #[] }) scope.names }
  rw [hce]
  suffices loop : codeAny (model X.prog X.w) X.A (.compLoop (.ListComp elt [⟨tg, iter, ifs, 0⟩] scope pos) 0 (.ref it) (.ref D) ce) (compPost (model X.prog X.w) X.A X.xe none (EP X pins σ Q) (.ref D) sb.heap.objs.size) { sb with heap := pushCells (sb.heap.push { cls := .type "dict", data := .dict #[] }) scope.names } from
    codeAny_compStart_list loop (T.self X.A 0 _ _ _ stB loop)
  refine compLoop_any (fun n s' => ∃ i H', tn i s'.heap ∧ W i n H' ∧ Inv (X.blk sb Hb scope ce fp) [] (wipe σ (own.map (·.2))) H' s' ∧ ∀ b ∈ fp, H' b = none) ?_ m0 ⟨0, Hb, stB, w0, IB, nfp⟩
  rintro n sT ⟨i, HT, stT, wT, IT, nT⟩
  have okT := fp_still IT rfl rfl nT
  rcases turn i n HT wT with ⟨stop, fin⟩ | ⟨go, Nx, less, step⟩
  · -- no turn is left: back in the def
    refine thnF (T.done (X.blk sb Hb scope ce fp) rfl rfl rfl hc i [] sT _ HT (fun _ _ => False) IT okT stT stop) ?_
    rintro _ sE ⟨rfl, IE⟩
    have back : Inv X pins σ HT sE := IL.call' (ch := fp) IE.os IE.base IE.hok IE.bare fun b hbm => by
      obtain ⟨_, l1, _, l3, l4, l5⟩ := (fL b hbm).1
      exact ⟨l3, l1, l4, l5⟩
    have nC : HT sb.heap.objs.size = none := by
      have z : HT ce.locals = none := IE.free
      rw [ceq] at z
      exact z
    obtain ⟨m, nsE, _⟩ := IE.loc
    have nsE : sE.heap.Ns ce.locals m := nsE
    rw [ceq] at nsE
    refine ⟨m, nsE, fun hZ same => ?_⟩
    obtain ⟨c0, c1, _, c3, c4, c5⟩ := IL.fpOk (H' := HT) (Nat.le_refl _) nC
    exact ⟨.ref D, HT, back.turned (t' := sE.toks) (fun b o nb e => (same.2 b nb).trans e) c0 c1 c3 c4 c5, rfl, fin⟩
  · -- one turn
    refine thnF (T.item (X.blk sb Hb scope ce fp) rfl rfl rfl hc i [] sT _ HT (fun _ _ => False) IT okT stT go) ?_
    rintro _ s1 ⟨u, rfl, h1⟩
    refine thnF h1 ?_
    rintro _ s2 ⟨x, H2, I2, r2, y2, st2, n2⟩
    have P2 := I2.pinned (fp_still I2 rfl rfl n2) (T.obj _ _ st2)
    refine thnF (pg.run _ s2 _ H2 x u _ P2 r2 (step x H2 y2)) ?_
    rintro _ s3 ⟨σ3, H3, I3, same, q3⟩
    have ends : ∀ {s' : Shared} {H' : Hp}, Nx H' → Inv (X.blk sb Hb scope ce fp) ([] ++ pinsAt fp s2.heap) σ3 H' s' → ∃ m, m < n ∧ ∃ i H', tn i s'.heap ∧ W i m H' ∧ Inv (X.blk sb Hb scope ce fp) [] (wipe σ (own.map (·.2))) H' s' ∧ ∀ b ∈ fp, H' b = none := by
      intro s' H' nx I'
      obtain ⟨m, lt, w'⟩ := less H' nx
      have held : ∀ b ∈ fp, ∀ o, s2.heap.get? b = some o → s'.heap.get? b = some o ∧ H' b = none := by
        intro b hbm o e
        obtain ⟨z1, z2, _⟩ := I'.pin (b, o) (List.mem_append_right _ (List.mem_append_right _ (mem_pinsAt hbm e)))
        exact ⟨z1, z2⟩
      refine ⟨m, lt, i + 1, H', T.keep _ _ _ st2 fun b hbm o e => (held b hbm o e).1, w', (I'.unpinned (pins := [])).weak ?_ fun j v e => ?_, fun b hbm => ?_⟩
      · rw [← same, wipe_length]
      · rw [← same] at e
        exact (wipe_some e).1
      · obtain ⟨o, e, _⟩ := T.obj _ _ st2 b hbm
        exact (held b hbm o e).2
    refine thnF (pt.run _ s3 σ3 H3 _ I3 q3) ?_
    rintro b s4 ⟨H4, I4, q4⟩
    cases b
    · exact ends (by simpa using q4) I4
    · refine thnF (pe.run _ s4 σ3 H4 _ I4 (by simpa using q4)) ?_
      rintro z s5 ⟨yv, H5, I5, r5, acc, eD, few, nx⟩
      exact app_ok (X := X.blk sb Hb scope ce fp) I5 eD few r5 fun s6 I6 => ends nx I6
end
end SQ
/-! A dict comprehension whose keys are tuples. -/
namespace SQ
open PySem PySem.Spec PyProof.Rows L2
/-- a tuple's pair is stored in the new dict -/
theorem set_tup {X : Cx} {pins : List (Addr × Obj)} {σ : L2.St} {H : Hp} {s : Shared} {E : Value → Shared → Prop} {D b : Addr} {kvs : List (List L2.Key × V)} {k : List L2.Key} {v : V} {u : Value} {Q : Unit → Shared → Prop} (hu : X.A.units + 1 < cLine) (I : Inv X pins σ H s)
    (hD : H D = some (.dT kvs)) (eb : H b = some (.tup (k.map kV))) (few : kvs.length < sizeLine) (rv : RelV v u) (h : ∀ s', Inv X pins σ (upd H D (.dT (putK kvs k v))) s' → Q () s') : wpAny (model X.prog X.w) X.A (dictSet D (.ref b) u) Q E s := by
  obtain ⟨z, sy, xs, rel, there⟩ := dt_of I.hok hD
  have lx : xs.length ≤ sizeLine := by rw [← Paired.length rel]; exact z
  have lp : (putK kvs k v).length ≤ sizeLine := by
    have := length_putK kvs k v
    omega
  refine wpAny_dictSet_heap (hsz := lx) (by show X.A.units < cLine; omega) (key_of I.hok eb) there fun h' th' same => h _ ?_
  obtain ⟨o, es, ep, ho, a2, a3, a4, _, a5⟩ := th'
  refine d_write I (by rw [hD]; exact True.intro) same ⟨o, ho⟩ ⟨lp, sy, _, (rel.put k eb rv).keeps fun c ys ec => ?_, o, es, ep, ho, a2, a3, a4, a5⟩
  rw [upd_ne (ne_of ec hD (fun z => nomatch z))]
  exact ec
def tDcT (wi : TI) (g : TG) (tt : TT) (tk tv : TE) (own : List Nat) : TE := fun σ H Q => wi σ H fun J Hi => ∀ D, Hi D = none → ∃ W : Nat → Nat → Hp → Prop, (∃ m, W 0 m (upd Hi D (.dT []))) ∧ ∀ i m Hc, W i m Hc → (J.stop i Hc ∧ Q (.ref D) Hc) ∨
  (J.go i Hc ∧ ∃ Nx : Hp → Prop, (∀ H', Nx H' → ∃ m', m' < m ∧ W (i + 1) m' H') ∧ ∀ x H', J.yld i Hc x H' → g x (wipe σ own) H' fun σ2 H2 => wipe σ2 own = wipe σ own ∧ tt σ2 H2 fun b H3 =>
    if b = true then tk σ2 H3 fun y H4 => tv σ2 H4 fun z H5 => ∃ kvs k b', y = .ref b' ∧ H5 b' = some (.tup (k.map kV)) ∧ H5 D = some (.dT kvs) ∧ kvs.length < sizeLine ∧ Nx (upd H5 D (.dT (putK kvs k z))) else Nx H3)
section
variable {X : Cx}
theorem dcT_walk {kx vx tg iter : Expr} {ifs : List Expr} {scope : Scope} {own : List (Str × Nat)} {pos pos' : Pos} {wi : TI} {g : TG} {tt : TT} {tk tv : TE} {use : Option (Value → Sem Unit)} {Qf : Value → Shared → Prop} {pins : List (Addr × Obj)} {s : Shared} {σ : L2.St} {H : Hp} {Q : VK}
    (hc : X.calm = true) (hu : X.A.units + 1 < cLine) (hN : X.N.Nodup) (I : Inv X pins σ H s) (hi : PI X tg iter wi) (ok : BlkOk X.N X.env.scope scope own)
    (hb : ∀ (s : Shared) (H : Hp) (C : Addr) (cl : List (Str × Addr)) (fp : List Addr), PG (X.blk s H scope (compEnvC scope cl C X.env) fp) tg g ∧ PTs (X.blk s H scope (compEnvC scope cl C X.env) fp) ifs tt ∧ PE (X.blk s H scope (compEnvC scope cl C X.env) fp) kx tk ∧ PE (X.blk s H scope (compEnvC scope cl C X.env) fp) vx tv)
    (hs : ∀ x, foldedSetIterable iter X.env x = pure x) (h : tDcT wi g tt tk tv (own.map (·.2)) σ H Q)
    (post : ∀ (D C : Addr) (sE : Shared) (m : Str → Option Value) (HT : Hp), Inv X pins σ HT sE → Q (.ref D) HT → sE.heap.Ns C m → FpOk X pins HT C → compPost (model X.prog X.w) X.A X.xe use Qf (.ref D) C (.ok .next) sE) :
    wpAny (model X.prog X.w) X.A (comprehension (.DictComp kx vx [⟨tg, iter, ifs, 0⟩] scope pos) scope X.env pos' newDict false (eval iter X.env) use) Qf X.xe s := by
  have fr := free_there I ok
  refine wpAny_comprehension_free (use := use) rfl hs (closure_ok fr) ok.kind (fun y hy e => by rw [ok.uniq y hy, e]) (thn (hi.run pins s σ H _ I h) fun _ _ hx => thn hx fun _ sI hI => ?_)
  obtain ⟨it, fp, tn, J, Hi, rfl, II, T, stI, fI, q⟩ := hI
  refine wpAny_newObj_type (newEnv_comp ?_)
  have nD : Hi sI.heap.objs.size = none := II.hok.fresh (Nat.le_refl _)
  have IL : Inv X pins σ (upd Hi sI.heap.objs.size (.dT [])) { sI with heap := sI.heap.push { cls := .type "dict", data := .dict #[] } } :=
    II.laid (t' := sI.toks) (fun _ _ e => Heap.get?_push_of_some _ e) (Nat.le_refl _) (dt_empty sI.heap II.big)
  obtain ⟨W, ⟨m0, w0⟩, turn⟩ := q _ nD
  have fL : ∀ b ∈ fp, FpOk X pins (upd Hi sI.heap.objs.size (.dT [])) b ∧ b < (sI.heap.push { cls := .type "dict", data := .dict #[] }).objs.size := by
    intro b hbm
    obtain ⟨o, e, _⟩ := T.obj _ _ stI b hbm
    have lt := Heap.lt_size e
    exact ⟨⟨by rw [upd_ne (Nat.ne_of_lt lt)]; exact (fI b hbm).1, (fI b hbm).2⟩, by rw [Heap.size_push]; exact Nat.lt_succ_of_lt lt⟩
  have stL : tn 0 (sI.heap.push { cls := .type "dict", data := .dict #[] }) := T.keep _ _ _ stI fun _ _ _ e => Heap.get?_push_of_some _ e
  generalize sI.heap.objs.size = D at *
  generalize hsb : ({ sI with heap := sI.heap.push { cls := .type "dict", data := .dict #[] } } : Shared) = sb at *
  have eb : sb.heap = sI.heap.push { cls := .type "dict", data := .dict #[] } := by rw [← hsb]
  rw [← eb] at fL stL
  generalize upd Hi D (.dT []) = Hb at *
  have IB := block_start IL ok hN fL
  obtain ⟨pg, pt, pk, pe⟩ := hb sb Hb sb.heap.objs.size (cellsFrom (sb.heap.objs.size + 1) scope.names (cloFrom X.env.cells scope.names [])) fp
  have stB : tn 0 (pushCells (sb.heap.push { cls := .type "dict", data := .dict #[] }) scope.names) := T.keep _ _ _ stL fun _ _ _ e => pushCells_keeps _ _ _ _ (Heap.get?_push_of_some _ e)
  have nfp : ∀ b ∈ fp, Hb b = none := fun b hbm => (fL b hbm).1.1
  generalize hce : compEnvC scope (cellsFrom (sb.heap.objs.size + 1) scope.names (cloFrom X.env.cells scope.names [])) sb.heap.objs.size X.env = ce at IB pg pt pk pe
  have ceq : ce.locals = sb.heap.objs.size := by rw [← hce]; rfl
  show codeAny _ _ (.compStart (.DictComp kx vx [⟨tg, iter, ifs, 0⟩] scope pos) 0 (.ref it) (.ref D) (compEnvC scope (cellsFrom (sb.heap.objs.size + 1) scope.names (cloFrom X.env.cells scope.names [])) sb.heap.objs.size X.env)) (compPost (model X.prog X.w) X.A X.xe use Qf (.ref D) sb.heap.objs.size) { sb with heap := pushCells (sb.heap.push { cls := .type "dict", data := .dict #[] }) scope.names }
  rw [hce]
  suffices loop : codeAny (model X.prog X.w) X.A (.compLoop (.DictComp kx vx [⟨tg, iter, ifs, 0⟩] scope pos) 0 (.ref it) (.ref D) ce) (compPost (model X.prog X.w) X.A X.xe use Qf (.ref D) sb.heap.objs.size) { sb with heap := pushCells (sb.heap.push { cls := .type "dict", data := .dict #[] }) scope.names } from
    codeAny_compStart_dict loop (T.self X.A 0 _ _ _ stB loop)
  refine compLoop_anyD (fun n s' => ∃ i H', tn i s'.heap ∧ W i n H' ∧ Inv (X.blk sb Hb scope ce fp) [] (wipe σ (own.map (·.2))) H' s' ∧ ∀ b ∈ fp, H' b = none) ?_ m0 ⟨0, Hb, stB, w0, IB, nfp⟩
  rintro n sT ⟨i, HT, stT, wT, IT, nT⟩
  have okT := fp_still IT rfl rfl nT
  rcases turn i n HT wT with ⟨stop, fin⟩ | ⟨go, Nx, less, step⟩
  · refine thnF (T.done (X.blk sb Hb scope ce fp) rfl rfl rfl hc i [] sT _ HT (fun _ _ => False) IT okT stT stop) ?_
    rintro _ sE ⟨rfl, IE⟩
    have back : Inv X pins σ HT sE := IL.call' (ch := fp) IE.os IE.base IE.hok IE.bare fun b hbm => by
      obtain ⟨_, l1, _, l3, l4, l5⟩ := (fL b hbm).1
      exact ⟨l3, l1, l4, l5⟩
    have nC : HT sb.heap.objs.size = none := by
      have z : HT ce.locals = none := IE.free
      rw [ceq] at z
      exact z
    obtain ⟨m, nsE, _⟩ := IE.loc
    have nsE : sE.heap.Ns ce.locals m := nsE
    rw [ceq] at nsE
    exact post D sb.heap.objs.size sE m HT back fin nsE (IL.fpOk (H' := HT) (Nat.le_refl _) nC)
  · refine thnF (T.item (X.blk sb Hb scope ce fp) rfl rfl rfl hc i [] sT _ HT (fun _ _ => False) IT okT stT go) ?_
    rintro _ s1 ⟨u, rfl, h1⟩
    refine thnF h1 ?_
    rintro _ s2 ⟨x, H2, I2, r2, y2, st2, n2⟩
    have P2 := I2.pinned (fp_still I2 rfl rfl n2) (T.obj _ _ st2)
    refine thnF (pg.run _ s2 _ H2 x u _ P2 r2 (step x H2 y2)) ?_
    rintro _ s3 ⟨σ3, H3, I3, same, q3⟩
    have ends : ∀ {s' : Shared} {H' : Hp}, Nx H' → Inv (X.blk sb Hb scope ce fp) ([] ++ pinsAt fp s2.heap) σ3 H' s' → ∃ m, m < n ∧ ∃ i H', tn i s'.heap ∧ W i m H' ∧ Inv (X.blk sb Hb scope ce fp) [] (wipe σ (own.map (·.2))) H' s' ∧ ∀ b ∈ fp, H' b = none := by
      intro s' H' nx I'
      obtain ⟨m, lt, w'⟩ := less H' nx
      have held : ∀ b ∈ fp, ∀ o, s2.heap.get? b = some o → s'.heap.get? b = some o ∧ H' b = none := by
        intro b hbm o e
        obtain ⟨z1, z2, _⟩ := I'.pin (b, o) (List.mem_append_right _ (List.mem_append_right _ (mem_pinsAt hbm e)))
        exact ⟨z1, z2⟩
      refine ⟨m, lt, i + 1, H', T.keep _ _ _ st2 fun b hbm o e => (held b hbm o e).1, w', (I'.unpinned (pins := [])).weak ?_ fun j v e => ?_, fun b hbm => ?_⟩
      · rw [← same, wipe_length]
      · rw [← same] at e
        exact (wipe_some e).1
      · obtain ⟨o, e, _⟩ := T.obj _ _ st2 b hbm
        exact (held b hbm o e).2
    refine thnF (pt.run _ s3 σ3 H3 _ I3 q3) ?_
    rintro b s4 ⟨H4, I4, q4⟩
    cases b
    · exact ends (by simpa using q4) I4
    · refine thnF (pk.run _ s4 σ3 H4 _ I4 (by simpa using q4)) ?_
      rintro z s5 ⟨yk, H5, I5, r5, q5⟩
      refine thnF (pe.run _ s5 σ3 H5 _ I5 q5) ?_
      rintro z2 s6 ⟨yv, H6, I6, r6, kvs, k, b', rfl, eb6, eD, few, nx⟩
      obtain rfl : z = Value.ref b' := r5
      exact set_tup (X := X.blk sb Hb scope ce fp) hu I6 eD eb6 few r6 fun s7 I7 => ends nx I7
theorem pe_dcT {kx vx tg iter : Expr} {ifs : List Expr} {scope : Scope} {own : List (Str × Nat)} {pos : Pos} {wi : TI} {g : TG} {tt : TT} {tk tv : TE} (hc : X.calm = true) (hu : X.A.units + 1 < cLine) (hN : X.N.Nodup) (hi : PI X tg iter wi) (ok : BlkOk X.N X.env.scope scope own)
    (hb : ∀ (s : Shared) (H : Hp) (C : Addr) (cl : List (Str × Addr)) (fp : List Addr), PG (X.blk s H scope (compEnvC scope cl C X.env) fp) tg g ∧ PTs (X.blk s H scope (compEnvC scope cl C X.env) fp) ifs tt ∧ PE (X.blk s H scope (compEnvC scope cl C X.env) fp) kx tk ∧ PE (X.blk s H scope (compEnvC scope cl C X.env) fp) vx tv)
    (hs : ∀ x, foldedSetIterable iter X.env x = pure x := by intro _; rfl) :
    PE X (.DictComp kx vx [⟨tg, iter, ifs, 0⟩] scope pos) (tDcT wi g tt tk tv (own.map (·.2))) := ⟨fun pins s σ H Q I h => by
  rw [arm_eval_DictComp]
  refine dcT_walk hc hu hN I hi ok hb hs h fun D C sE m HT back fin ns fp => ⟨m, ns, fun hZ same => ?_⟩
  obtain ⟨c0, c1, _, c3, c4, c5⟩ := fp
  exact ⟨.ref D, HT, back.turned (t' := sE.toks) (fun b o nb e => (same.2 b nb).trans e) c0 c1 c3 c4 c5, rfl, fin⟩⟩
/-- y = {k: v for ..}, y a local -/
theorem ps_setDcT {i : Nat} {y : Str} {py : Pos} {kx vx tg iter : Expr} {ifs : List Expr} {scope : Scope} {own : List (Str × Nat)} {pos spos : Pos} {wi : TI} {g : TG} {tt : TT} {tk tv : TE} (hc : X.calm = true) (hu : X.A.units + 1 < cLine) (hN : X.N.Nodup) (hy : X.N[i]? = some y) (hyl : X.env.scope.names.lookup y = some .local)
    (hsw : swapsWith (.DictComp kx vx [⟨tg, iter, ifs, 0⟩] scope pos) (some (.Name y py)) spos.line X.env = pure true) (hi : PI X tg iter wi) (ok : BlkOk X.N X.env.scope scope own)
    (hb : ∀ (s : Shared) (H : Hp) (C : Addr) (cl : List (Str × Addr)) (fp : List Addr), PG (X.blk s H scope (compEnvC scope cl C X.env) fp) tg g ∧ PTs (X.blk s H scope (compEnvC scope cl C X.env) fp) ifs tt ∧ PE (X.blk s H scope (compEnvC scope cl C X.env) fp) kx tk ∧ PE (X.blk s H scope (compEnvC scope cl C X.env) fp) vx tv)
    (hs : ∀ x, foldedSetIterable iter X.env x = pure x := by intro _; rfl) :
    PS X (.Assign [.Name y py] (.DictComp kx vx [⟨tg, iter, ifs, 0⟩] scope pos) spos) (tAsg (tDcT wi g tt tk tv (own.map (·.2))) (gName i)) := ⟨fun pins s σ H Dn I h => by
  rw [exec_Assign_Name_used _ _ _ _ hsw]
  have h2 : tDcT wi g tt tk tv (own.map (·.2)) σ H (fun x H1 => gName i x σ H1 Dn.nx) := h
  refine wpAny_bind (wpAny_standAt (wpAny_bind ((?_ : wpAny _ X.A (do let _ ← comprehension (.DictComp kx vx [⟨tg, iter, ifs, 0⟩] scope pos) scope X.env (firstIterPos [⟨tg, iter, ifs, 0⟩] pos) newDict false (eval iter X.env) (some (assign (.Name y py) X.env))) _ _ s))))
  refine wpAny_bind (thn (dcT_walk (Qf := fun _ sZ => SP X pins Dn .next sZ) hc hu hN I hi ok hb hs h2 fun D C sE m HT back fin ns fp => ?_) fun _ sZ hq => wpAny_pure (wpAny_pure hq))
  obtain ⟨c0, c1, _, c3, c4, c5⟩ := fp
  show wpAny _ _ (assign (.Name y py) X.env (.ref D)) _ _ _
  refine wpAny_assign_Name (store_ok2 (v := V.ref D) back hN hy (.inl hyl) rfl (fun s2 I2 at2 => ?_) (.inr hyl))
  obtain ⟨z, same, hz⟩ := at2
  have ne : C ≠ z := by
    rcases hz with q | q
    · rw [q]
      exact c1
    · exact fun e => c4 y z q e.symm
  exact ⟨m, ns.sameBut same ne, fun h3 same3 => ⟨_, HT, I2.turned (t' := s2.toks) (fun b o nb e => (same3.2 b nb).trans e) c0 c1 c3 c4 c5, fin⟩⟩⟩
theorem sw_trueD {kx vx : Expr} {gs : List Comprehension} {scope : Scope} {pos py : Pos} {y : Str} {l : Nat} {env : Env} (hk : env.scope.kind = .function) (hy : env.scope.names.lookup y = some .local) (hl : (py.line == pos.line) = true)
    (ha : (scope.names.any fun (n, k) => n == y && (k == .local || k == .cell)) = false) : swapsWith (.DictComp kx vx gs scope pos) (some (.Name y py)) l env = pure true := by
  have k1 : env.kindOf y = some .local := hy
  have k2 : env.blockKind = .function := by
    show (if _ then _ else _) = _
    rw [hk]
    rfl
  unfold swapsWith
  simp only [k1, k2, ha, Expr.pos, hl]
  rfl
end
end SQ
/-! A lambda as a value that is kept; its call by a def to which it is handed, from a block. -/
namespace SQ
open PySem PySem.Spec PyProof.Rows L2 LamX
/-- at f stands that lambda, its code object at c -/
def LamO (f c : Addr) (q : Str) (params : Arguments) (body : Expr) (scope : Scope) (clo : List (Str × Addr)) : HO := .ext fun h => ∃ pm ctv : Value, h.get? f = some (PySem.W.kla_obj "<lambda>" q params body scope clo pm c ctv)
theorem lamO_ok {P : Program} {w : World} {H : Hp} {h : Heap} {f c : Addr} {q : Str} {params : Arguments} {body : Expr} {scope : Scope} {clo : List (Str × Addr)} {pm ctv : Value} (e : h.get? f = some (PySem.W.kla_obj "<lambda>" q params body scope clo pm c ctv)) :
    ObjOk P w H h f (LamO f c q params body scope clo) :=
  ⟨⟨pm, ctv, e⟩, ⟨_, e⟩, fun h1 h2 ⟨pm', ctv', e'⟩ k => ⟨pm', ctv', k _ e'⟩⟩
/-- all but those -/
def forg (fs : List Addr) (H : Hp) : Hp := fun b => if b ∈ fs then none else H b
theorem forg_le {fs : List Addr} {H : Hp} : ∀ b o, forg fs H b = some o → H b = some o := fun b o e => by
  unfold forg at e
  by_cases h : b ∈ fs
  · rw [if_pos h] at e
    cases e
  · rw [if_neg h] at e
    exact e
theorem forg_of {fs : List Addr} {H : Hp} {b : Addr} {o : HO} (e : H b = some o) (n : b ∉ fs) : forg fs H b = some o := by
  unfold forg
  rw [if_neg n]
  exact e
theorem forg_not {fs : List Addr} {H : Hp} {b : Addr} {o : HO} (e : forg fs H b = some o) : b ∉ fs := fun h => by
  unfold forg at e
  rw [if_pos h] at e
  cases e
def tLamV (X : Cx) (T : List (Addr × Str)) (params : Arguments) (body : Expr) (scope : Scope) : TE := fun _ H Q => ∃ fs : List Addr, Tabs T (forg fs H) ∧ (∀ x ∈ fs, H x ≠ none) ∧ ∀ (f c : Addr) (H1 : Hp), ExtN H H1 → Tabs T (forg (f :: fs) H1) → H f = none → c ∉ f :: fs → H1 f = some (LamO f c (X.env.qual ++ "<lambda>") params body scope (cloFrom X.env.cells scope.names [])) →
  H1 c = some (CodeO c (X.env.qual ++ "<lambda>")) → Q (.ref f) H1
section
variable {X : Cx}
theorem pe_lamV {T : List (Addr × Str)} {c P : Addr} {params : Arguments} {body : Expr} {scope : Scope} {pos : Pos} (TB : TabB X.base X.mg c P) (hcode : X.env.code = .ref c) (hm : (P, X.env.qual ++ "<lambda>") ∈ T) (hu : ∀ p ∈ T, p.1 = P → p.2 = X.env.qual ++ "<lambda>")
    (hdef : defaultsOf params X.env = ([], [])) (L : LamS X.env.scope scope) : PE X (.Lambda params body scope pos) (tLamV X T params body scope) := by
  refine ⟨fun pins s σ H Q I h => ?_⟩
  obtain ⟨fs, hT, hfs, k⟩ := h
  obtain ⟨ps, eP', tri, named⟩ := hT _ hm
  have eP := forg_le _ _ eP'
  have nPfs := forg_not eP'
  have atP : s.heap.get? P = some { cls := .none, data := .fields ps } := I.hok P _ eP
  have free := L.has I.ok
  refine PySem.W.kla_eval hdef ?_
  cases hc : codeAmong pos ps.toList with
  | some cv =>
    obtain ⟨c', rfl, hco⟩ := named pos cv hc
    refine PySem.W.kla_makeFunctionHit (mg := X.mg) (c := c) (P := P) (ps := ps) (closure_ok free) I.ok.glob (I.mod.glob.keeps I.bk) hcode (TB.code.keeps I.bk) atP tri hc (TB.bm.keeps I.bk) fun ctv h' tk kept hsz => ?_
    have I1 : Inv X pins σ H { s with heap := h', toks := tk } := I.kept kept
    have hnew := I1.hok.fresh (Nat.le_refl h'.objs.size)
    have I2 := I1.laid (t' := tk) (a := h'.objs.size) (fun _ _ e => Heap.get?_push_of_some _ e) (Nat.le_refl _) (lamO_ok (P := X.prog) (w := X.w) (Heap.get?_push_size h' (o := PySem.W.kla_obj "<lambda>" (X.env.qual ++ "<lambda>") params body scope (cloFrom X.env.cells scope.names []) ((X.mg "__name__").getD .none) c' ctv) rfl))
    have keep : ∀ b o, H b = some o → upd H h'.objs.size (LamO h'.objs.size c' (X.env.qual ++ "<lambda>") params body scope (cloFrom X.env.cells scope.names [])) b = some o := fun b o e => by
      rw [upd_ne (ne_of_none e hnew)]
      exact e
    have nfs : ∀ b o, forg fs H b = some o → b ∉ h'.objs.size :: fs := fun b o e h => by
      rcases List.mem_cons.mp h with z | z
      · have := forg_le _ _ e
        rw [z, hnew] at this
        cases this
      · exact forg_not e z
    have keepF : ∀ b o, forg fs H b = some o → forg (h'.objs.size :: fs) (upd H h'.objs.size (LamO h'.objs.size c' (X.env.qual ++ "<lambda>") params body scope (cloFrom X.env.cells scope.names []))) b = some o := fun b o e => forg_of (keep b o (forg_le _ _ e)) (nfs b o e)
    exact ⟨.ref h'.objs.size, _, I2, rfl, k _ c' _ (ExtN.of keep) (hT.ext keepF) hnew (nfs _ _ hco) upd_same (keep _ _ (forg_le _ _ hco))⟩
  | none =>
    refine PySem.W.kla_makeFunction (mg := X.mg) (c := c) (P := P) (ps := ps) (closure_ok free) I.ok.glob (I.mod.glob.keeps I.bk) hcode (TB.code.keeps I.bk) atP tri hc TB.gP (TB.bm.keeps I.bk) fun c' ctv h' tk kept old lt rec_ tab => ?_
    obtain ⟨c2, oc, us, t, ec, atC, dat, nam⟩ := rec_
    cases ec
    have nC : H c' = none := I.hok.fresh old
    have I1 := inv_table (t' := tk) (more := #[rawInt pos.line, rawInt pos.col, .ref c']) I eP kept tab old ⟨oc, us, t, atC, dat, nam⟩
    have hnew := I1.hok.fresh (Nat.le_refl h'.objs.size)
    have I2 := I1.laid (t' := tk) (a := h'.objs.size) (fun _ _ e => Heap.get?_push_of_some _ e) (Nat.le_refl _) (lamO_ok (P := X.prog) (w := X.w) (Heap.get?_push_size h' (o := PySem.W.kla_obj "<lambda>" (X.env.qual ++ "<lambda>") params body scope (cloFrom X.env.cells scope.names []) ((X.mg "__name__").getD .none) c' ctv) rfl))
    have eT : upd (upd H P (.tbl (ps ++ #[rawInt pos.line, rawInt pos.col, .ref c']))) c' (CodeO c' (X.env.qual ++ "<lambda>")) P = some (.tbl (ps ++ #[rawInt pos.line, rawInt pos.col, .ref c'])) := by rw [upd_ne (ne_of_none eP nC), upd_same]
    have keepN : ExtN H (upd (upd H P (.tbl (ps ++ #[rawInt pos.line, rawInt pos.col, .ref c']))) c' (CodeO c' (X.env.qual ++ "<lambda>"))) := fun b o e n => by
      rw [upd_ne (ne_of_none e nC), upd_ne (fun z => n ps (by rw [z, eP] at e; exact (Option.some.inj e).symm))]
      exact e
    have keep2 : ∀ b o, upd (upd H P (.tbl (ps ++ #[rawInt pos.line, rawInt pos.col, .ref c']))) c' (CodeO c' (X.env.qual ++ "<lambda>")) b = some o →
        upd (upd (upd H P (.tbl (ps ++ #[rawInt pos.line, rawInt pos.col, .ref c']))) c' (CodeO c' (X.env.qual ++ "<lambda>"))) h'.objs.size (LamO h'.objs.size c' (X.env.qual ++ "<lambda>") params body scope (cloFrom X.env.cells scope.names [])) b = some o := fun b o e => by
      rw [upd_ne (ne_of_none e hnew)]
      exact e
    have hnH : H h'.objs.size = none := I.hok.fresh (Nat.le_trans old (Nat.le_of_lt lt))
    have ncf : c' ≠ h'.objs.size := ne_of_none (o := CodeO c' (X.env.qual ++ "<lambda>")) upd_same hnew
    have nfs : ∀ b o, forg fs H b = some o → b ∉ h'.objs.size :: fs := fun b o e h => by
      rcases List.mem_cons.mp h with z | z
      · have := forg_le _ _ e
        rw [z, hnH] at this
        cases this
      · exact forg_not e z
    have nCfs : c' ∉ h'.objs.size :: fs := fun h => by
      rcases List.mem_cons.mp h with z | z
      · exact ncf z
      · exact hfs _ z nC
    have old2 : ∀ b o, forg fs H b = some o → (∀ ps, o ≠ .tbl ps) → forg (h'.objs.size :: fs) (upd (upd (upd H P (.tbl (ps ++ #[rawInt pos.line, rawInt pos.col, .ref c']))) c' (CodeO c' (X.env.qual ++ "<lambda>"))) h'.objs.size (LamO h'.objs.size c' (X.env.qual ++ "<lambda>") params body scope (cloFrom X.env.cells scope.names []))) b = some o :=
      fun b o e n => forg_of (keep2 _ _ (keepN b o (forg_le _ _ e) n)) (nfs b o e)
    have tabs : Tabs T (forg (h'.objs.size :: fs) (upd (upd (upd H P (.tbl (ps ++ #[rawInt pos.line, rawInt pos.col, .ref c']))) c' (CodeO c' (X.env.qual ++ "<lambda>"))) h'.objs.size (LamO h'.objs.size c' (X.env.qual ++ "<lambda>") params body scope (cloFrom X.env.cells scope.names [])))) := by
      intro p hp
      by_cases e : p.1 = P
      · rw [hu p hp e, e]
        refine ⟨_, forg_of (keep2 _ _ eT) (nfs _ _ eP'), by rw [Array.toList_append]; exact PySem.TriplesOk_snoc _ _ _ _ tri, fun p' cv hcv => ?_⟩
        rw [Array.toList_append] at hcv
        rcases among_app _ tri hcv with z | z
        · obtain ⟨c0, e1, e2⟩ := named p' cv z
          exact ⟨c0, e1, old2 _ _ e2 codeO_ne⟩
        · exact ⟨c', z, forg_of (keep2 _ _ upd_same) nCfs⟩
      · obtain ⟨ps', a1, a2, a3⟩ := hT p hp
        have a1' := forg_le _ _ a1
        refine ⟨ps', forg_of (keep2 _ _ (by rw [upd_ne (ne_of_none a1' nC), upd_ne e]; exact a1')) (nfs _ _ a1), a2, fun p' cv hcv => ?_⟩
        obtain ⟨c0, e1, e2⟩ := a3 p' cv hcv
        exact ⟨c0, e1, old2 _ _ e2 codeO_ne⟩
    exact ⟨.ref h'.objs.size, _, I2, rfl, k _ c' _ (keepN.trans (ExtN.of keep2)) tabs hnH nCfs upd_same (keep2 _ _ upd_same)⟩
end
end SQ
/-! A kept lambda is handed to a def, from a block. -/
namespace SQ
open PySem PySem.Spec PyProof.Rows L2 LamX
def offA (H : Hp) (a : Addr) : Hp := fun b => if b = a then none else H b
theorem offA_at {H : Hp} {a : Addr} : offA H a a = none := if_pos rfl
theorem offA_of {H : Hp} {a b : Addr} (n : b ≠ a) : offA H a b = H b := if_neg n
theorem offA_none {H : Hp} {a b : Addr} (n : H b = none) : offA H a b = none := by
  by_cases e : b = a
  · rw [e]
    exact offA_at
  · rw [offA_of e]
    exact n
/-- what is only remembered may be forgotten -/
theorem forget {X : Cx} {pins : List (Addr × Obj)} {σ : L2.St} {H : Hp} {s : Shared} {f : Addr} {φ : Heap → Prop} (I : Inv X pins σ H s) (e : H f = some (.ext φ)) : Inv X pins σ (offA H f) s := by
  have ne : ∀ b u, H b = some u → (∀ φ, u ≠ .ext φ) → b ≠ f := fun b u h n z => by
    rw [z, e] at h
    exact n _ (Option.some.inj h).symm
  have stay : ∀ b u, H b = some u → (∀ φ, u ≠ .ext φ) → offA H f b = some u := fun b u h n => by
    rw [offA_of (ne b u h n)]
    exact h
  refine ⟨I.ok, I.os, I.bare, ⟨I.base.keep, I.base.slot, fun b o h n x => offA_none (I.base.free b o h n x), I.base.there, fun b xs h => stay b _ (I.base.tups b xs h) (fun _ z => nomatch z), fun b o u h => stay b _ (I.base.frzs b o u h) (fun _ z => nomatch z), fun b ps h => ?_⟩,
    I.loc, I.cell, offA_none I.free, fun x c h => offA_none (I.freeC x c h), fun p hp => ?_, fun b o h => ?_, I.len⟩
  · obtain ⟨more, z⟩ := I.base.tbls b ps h
    exact ⟨more, stay b _ z (fun _ q => nomatch q)⟩
  · obtain ⟨h1, h2, h3⟩ := I.pin p hp
    exact ⟨h1, offA_none h2, h3⟩
  · have nb : b ≠ f := fun z => by
      rw [z, offA_at] at h
      cases h
    rw [offA_of nb] at h
    exact (I.hok b o h).stay (fun _ _ _ q => q) (fun c q => stay c _ q (fun _ z => nomatch z)) fun c xs q => stay c _ q (fun _ z => nomatch z)
/-- the kept lambda's body may be read in the maker's frame -/
structure Body (X : Cx) (k : Nat) (params : Arguments) (body : Expr) (scope : Scope) (t : XK → TE) : Prop where
  L : LamS X.env.scope scope
  bind : ∀ (q : Str) (cl : List (Str × Addr)) (pm cv ctv : Value), bindArgs (PySem.W.kla_fn "<lambda>" q params body scope cl pm cv ctv) ⟨[], []⟩ = pure []
  read : ∀ (A : Around) (outer : List Env) (s : Shared) (H : Hp) (E : XK) (f c' : Addr), Room k (A.deeper (lamEnv X scope s.heap.objs.size f c')) → PE (lamCx X A outer s H E scope f c') body (t E)
/-- x(y), y one of X's kept lambdas; TT: what x makes of its reading -/
def tKept (X : Cx) (k : Nat) (TT : (XK → Hp → VK → Prop) → Hp → VK → Prop) (i : Nat) (sb : Shared) (Hb : Hp) : TE := fun σb H Q => ∃ (σ : L2.St) (f c : Addr) (params : Arguments) (body : Expr) (scope : Scope) (t : XK → TE), Inv X [] σ Hb sb ∧ Body X k params body scope t ∧ σb[i]? = some (some (.ref f)) ∧
  H f = some (LamO f c (X.env.qual ++ "<lambda>") params body scope (cloFrom X.env.cells scope.names [])) ∧ H c = some (CodeO c (X.env.qual ++ "<lambda>")) ∧ c ≠ f ∧ TT (fun E H' Q' => t E σ H' Q') (offA H f) Q
section
variable {X : Cx}
theorem pe_kept {TT : (XK → Hp → VK → Prop) → Hp → VK → Prop} {x a y : Str} {g : Addr} {k i : Nat} {pg : Arguments} {bg : List Stmt} {sg : Scope} {dV kV doc pm cdv ct oc : Value} {an od : Option Addr} {osl : Array (Option Value)} {Ng : List Str} {sb : Shared} {Hb : Hp} {scope : Scope} {ce : Env} {fp : List Addr}
    {pins : List (Addr × Obj)} {p p1 pos : Pos} (hfp : ∀ b ∈ fp, FpOk X pins Hb b) (hg : Gl (X.blk sb Hb scope ce fp) x) (hm : X.mg x = some (.ref g)) (hk : PySem.W.keepIn X.K (.ref g) = true)
    (lk : X.K.lookup g = some ⟨oc, od, .func (PySem.W.fnOf x x pg bg sg dV kV doc pm an cdv ct), osl⟩) (hcg : PySem.W.codeIn X.K cdv x = true) (hbd : L2.Binds X.K (PySem.W.fnOf x x pg bg sg dV kV doc pm an cdv ct) [a] []) (Sg : FnScope Ng [a] sg) (hNg : Ng[0]? = some a) (hva : Vis sg a)
    (hG : GivesTo X Ng x sg g cdv bg a (X.env.qual ++ "<lambda>") TT) (hr : Room (k + 2) X.A) (hy : PE (X.blk sb Hb scope ce fp) (.Name y p1) (tVar i)) (hna : starEach [.Name y p1] (X.blk sb Hb scope ce fp).env = (false, eval (.Name y p1) (X.blk sb Hb scope ce fp).env) :: starEach [] (X.blk sb Hb scope ce fp).env := by rfl)
    (hdb : (x == ("__debug__" : Str)) = false := by decide) (hd : (a == ("__debug__" : Str)) = false := by decide) (hcd : (a == ("__classdict__" : Str)) = false := by decide) :
    PE (X.blk sb Hb scope ce fp) (.Call (.Name x p) [.Name y p1] [] pos) (tKept X k TT i sb Hb) := by
  refine ⟨fun pb s σb H Q I h => ?_⟩
  obtain ⟨σ, f, c, params, body, sl, t, I0, B, hi, hf, hc, ncf, ht⟩ := h
  refine wpAny_Call_Name_kw (ld_glob I hg hm ?_ hdb)
  refine PySem.W.callWith_K (h₀ := X.base) I.ok.mod.kin hk ?_ hna (by rfl)
  rw [hna]
  refine Calls.spliced_cons (thn (hy.run pb _ σb H (fun v H1 => v = .ref f ∧ H1 = H) I ⟨.ref f, hi, rfl, rfl⟩) ?_)
  rintro u s1 ⟨v, H1, I1, r1, rfl, rfl⟩
  obtain rfl : u = Value.ref f := r1
  refine Calls.spliced_nil ⟨I1.kIn, ?_⟩
  have J1 := forget I1 hf
  have IX : Inv X [] σ H1 s1 := I0.call' (ch := fp) I1.os I1.base I1.hok I1.bare fun b hbm => by
    obtain ⟨_, l1, _, l3, l4, l5⟩ := hfp b hbm
    exact ⟨l3, l1, l4, fun q hq => l5 q (by
      rw [List.append_nil] at hq
      exact List.mem_append_left _ hq)⟩
  have IF := forget IX hf
  obtain ⟨⟨pm', ctv, atf⟩, _, _⟩ := I1.hok f _ hf
  have nfr : f ∉ frs X.stack := fun z => by
    have := IX.stkFree f z
    rw [hf] at this
    cases this
  have hc' : offA H1 f c = some (CodeO c (X.env.qual ++ "<lambda>")) := by rw [offA_of ncf]; exact hc
  have rc : codeAny (model X.prog X.w) X.A (.call (.ref g) ⟨[.ref f], []⟩) (CR C8.CX0 X.stack X.prog X.w (offA H1 f) s1 Q C8.E0) s1 := by
    refine run_ofS (N := Ng) (ps := [a]) (us := [.ref f]) (vs := [.ref f]) lk hcg Sg hr IF.env0 (hbd s1 [.ref f] I1.kIn rfl) (.cons rfl .nil) rfl fun hr' => ?_
    obtain ⟨t', ht', hq'⟩ := hG f c s1 (offA H1 f) Q (fun E H' Q' => t E σ H' Q') (fun W pn xe E p1 p2 tk hW => pe_act (i := 0) IF B.L atf offA_at nfr (B.bind _ _ _ _ _) tk hW hr' (fun A outer s H hr2 => B.read A outer s H E f c hr2) hNg hva hd hcd) hc' ht
    exact ⟨t', ht'.nox, hq'⟩
  refine wpAny_call (codeAny_mono rc fun r s2 hq => ?_)
  cases r with
  | error e => exact (show False from hq).elim
  | ok fl =>
    cases fl with
    | ret u => exact J1.after hq
    | next => exact False.elim hq
    | brk => exact False.elim hq
    | cont => exact False.elim hq
end
end SQ
/-! A call whose arguments all have names. -/
namespace SQ
open PySem PySem.Spec PyProof.Rows L2
def tCallK0 (sp : Sp) (gV : List V → List V → List V) (E : XK) (tk : TA) : TE := fun σ H Q => tk σ H fun zs H2 => sp (gV [] zs) H2 Q E
variable {X : Cx} {CX : CXT} {k : Nat} {f : Addr} {fd : FuncData} {ps ks : List Str} {sp : Sp} {E : XK} {x : Str} {p pos : Pos} {g : List Value → List Value → List Value} {gV : List V → List V → List V} {kws : List Keyword} {tk : TA}
theorem pe_callK0 (F : FnOk X.prog X.w X.K X.mg X.base CX k f fd ps sp) (hr : Room k X.A) (hg : Gl X x) (hm : X.mg x = some (.ref f)) (hk : PySem.W.keepIn X.K (.ref f) = true) (hb : KBinds X.K fd ps ks g gV) (hx : Passes CX X E) (hkw : PK X kws tk)
    (hall : (backToKw pos (keywordEach kws X.env)).all (·.1.isSome) = true := by rfl) (hks : (backToKw pos (keywordEach kws X.env)).filterMap (·.1) = ks := by rfl) (hdb : (x == ("__debug__" : Str)) = false := by decide)
    (hpl : ((backTo pos (starEach [] X.env)).any (·.1) || (backToKw pos (keywordEach kws X.env)).any (·.1.isNone)) = false := by rfl) : PE X (.Call (.Name x p) [] kws pos) (tCallK0 sp gV E tk) := by
  refine ⟨fun pins s σ H Q I h => ?_⟩
  refine wpAny_Call_Name_kw (ld_glob I hg hm ?_ hdb)
  refine PySem.W.callWith_KW0 (h₀ := X.base) I.ok.mod.kin hk hall (thn (hkw.run pos pins s σ H _ I h) ?_) hpl
  rintro ws s2 ⟨zs, H2, I2, rz, q2⟩
  refine ⟨I2.kIn, ?_⟩
  rw [hks]
  exact run_fnk F hr hb hx I2 .nil rz q2
/-- nothing is raised -/
theorem pass_never {P : Program} {w : World} (h1 : X.prog = P) (h2 : X.w = w) : Passes (L2.CX P w) X (fun _ _ _ => False) := by
  subst h1 h2
  exact passes_call LamX.takes0 (fun _ _ _ _ z => z)
end SQ
/-! tuples of ints, lists of them; kinds and numbers that are refused. -/
namespace SQ
open PySem PySem.Spec PyProof.Rows L2
/-- what is never reached -/
theorem pe_dead {X : Cx} {e : Expr} : PE X e (fun _ _ _ => False) := ⟨fun _ _ _ _ _ _ h => h.elim⟩
theorem pss_dead {X : Cx} {sts : List Stmt} : PSs X sts (fun _ _ _ => False) := ⟨fun _ _ _ _ _ _ h => h.elim⟩
end SQ
namespace K40
open PySem L2 FX SQ
abbrev nV (n : Nat) : V := .int (n : Int)
def nD (n : Nat) : D := .int n
abbrev rN (ns : List Nat) : D := .tuple (ns.map nD)
theorem dp_n {K : PySem.W.Frag} {H : Hp} : ∀ ns : List Nat, DpAll K H (ns.map nV) (ns.map nD)
  | [] => .nil
  | n :: r => .cons (.int n) (dp_n r)
def Tn (H : Hp) (v : V) (ns : List Nat) : Prop := ∃ a, v = .ref a ∧ H a = some (.tup (ns.map nV))
theorem Tn.same {H H' : Hp} {v : V} {ns : List Nat} (s : Same H H') (t : Tn H v ns) : Tn H' v ns := by
  obtain ⟨a, e, h⟩ := t
  exact ⟨a, e, s _ _ h⟩
theorem Tn.upd {H : Hp} {D : Addr} {l : List V} {o : HO} {v : V} {ns : List Nat} (e : H D = some (.lst l)) (t : Tn H v ns) : Tn (upd H D o) v ns := by
  obtain ⟨a, ea, h⟩ := t
  refine ⟨a, ea, ?_⟩
  rw [upd_ne (by
    rintro rfl
    rw [e] at h
    cases h)]
  exact h
theorem Tn.dp {K : PySem.W.Frag} {H : Hp} {v : V} {ns : List Nat} (t : Tn H v ns) : Dp K H v (rN ns) := by
  obtain ⟨a, rfl, h⟩ := t
  exact .tup (SqT.of h) (dp_n ns)
def TnL (H : Hp) (vs : List V) (L : List (List Nat)) : Prop := vs.length = L.length ∧ ∀ (i : Nat) v ns, vs[i]? = some v → L[i]? = some ns → Tn H v ns
theorem TnL.same {H H' : Hp} {vs : List V} {L : List (List Nat)} (s : Same H H') (h : TnL H vs L) : TnL H' vs L := ⟨h.1, fun i v o a b => (h.2 i v o a b).same s⟩
theorem TnL.upd {H : Hp} {D : Addr} {l : List V} {o : HO} {vs : List V} {L : List (List Nat)} (e : H D = some (.lst l)) (h : TnL H vs L) : TnL (upd H D o) vs L := ⟨h.1, fun i v o a b => (h.2 i v o a b).upd e⟩
theorem TnL.nil {H : Hp} : TnL H [] [] := ⟨rfl, fun i v o a => by cases a⟩
theorem TnL.snoc {H : Hp} {vs : List V} {L : List (List Nat)} {v : V} {x : List Nat} (h : TnL H vs L) (g : Tn H v x) : TnL H (vs ++ [v]) (L ++ [x]) := by
  refine ⟨by rw [List.length_append, List.length_append, h.1]; rfl, fun i v' o' a b => ?_⟩
  by_cases hi : i < vs.length
  · rw [List.getElem?_append_left hi] at a
    rw [List.getElem?_append_left (by rw [← h.1]; exact hi)] at b
    exact h.2 i v' o' a b
  · rw [List.getElem?_append_right (by omega)] at a
    rw [List.getElem?_append_right (by rw [← h.1]; omega), ← h.1] at b
    cases e : i - vs.length with
    | zero =>
      rw [e] at a b
      cases a
      cases b
      exact g
    | succ k =>
      rw [e] at a
      cases a
theorem TnL.cons {H : Hp} {vs : List V} {L : List (List Nat)} {v : V} {x : List Nat} (g : Tn H v x) (h : TnL H vs L) : TnL H (v :: vs) (x :: L) := ⟨by rw [List.length_cons, List.length_cons, h.1], fun i v' o' a b => by
  cases i with
  | zero =>
    cases a
    cases b
    exact g
  | succ i => exact h.2 i v' o' a b⟩
theorem TnL.dp {K : PySem.W.Frag} {H : Hp} : ∀ {vs : List V} {L : List (List Nat)}, TnL H vs L → DpAll K H vs (L.map rN)
  | [], [], _ => .nil
  | [], _ :: _, h => by cases h.1
  | _ :: _, [], h => by cases h.1
  | v :: vs, x :: L, h => .cons (h.2 0 v x rfl rfl).dp (TnL.dp ⟨by simpa using h.1, fun i v' o' a b => h.2 (i + 1) v' o' a b⟩)
theorem TnL.at {H : Hp} {vs : List V} {L : List (List Nat)} {i : Nat} {v : V} (h : TnL H vs L) (e : vs[i]? = some v) : ∃ x, L[i]? = some x ∧ Tn H v x := by
  have hi := (List.getElem?_eq_some_iff.mp e).1
  have h2 : L[i]? = some (L[i]'(by rw [← h.1]; exact hi)) := List.getElem?_eq_getElem _
  exact ⟨_, h2, h.2 i v _ e h2⟩
/-- a list of tuples, a tuple of tuples -/
def Ls (H : Hp) (v : V) (L : List (List Nat)) : Prop := ∃ a vs, v = .ref a ∧ H a = some (.lst vs) ∧ TnL H vs L
def Ts (H : Hp) (v : V) (L : List (List Nat)) : Prop := ∃ a vs, v = .ref a ∧ H a = some (.tup vs) ∧ TnL H vs L
theorem Ls.same {H H' : Hp} {v : V} {L : List (List Nat)} (s : Same H H') (h : Ls H v L) : Ls H' v L := by
  obtain ⟨a, vs, e, h1, h2⟩ := h
  exact ⟨a, vs, e, s _ _ h1, h2.same s⟩
theorem Ts.same {H H' : Hp} {v : V} {L : List (List Nat)} (s : Same H H') (h : Ts H v L) : Ts H' v L := by
  obtain ⟨a, vs, e, h1, h2⟩ := h
  exact ⟨a, vs, e, s _ _ h1, h2.same s⟩
theorem Ls.dp {K : PySem.W.Frag} {H : Hp} {v : V} {L : List (List Nat)} (h : Ls H v L) : Dp K H v (.list (L.map rN)) := by
  obtain ⟨a, vs, rfl, h1, h2⟩ := h
  exact .lst (SqL.of h1) h2.dp
theorem Ts.dp {K : PySem.W.Frag} {H : Hp} {v : V} {L : List (List Nat)} (h : Ts H v L) : Dp K H v (.tuple (L.map rN)) := by
  obtain ⟨a, vs, rfl, h1, h2⟩ := h
  exact .tup (SqT.of h1) h2.dp
theorem iSq_of {K : PySem.W.Frag} {tq : TE} {σ : L2.St} {H : Hp} {R : It → Hp → Prop} {a : Addr} {xs : List V} (ht : ∀ Q : VK, Q (.ref a) H → tq σ H Q) : ∀ {kd : Kd}, SqK K H kd a xs → R (It2 K kd a) H → iSq K tq σ H R
  | .L, q, r => .inl (ht _ ⟨a, rfl, ⟨xs, q⟩, r⟩)
  | .T, q, r => .inr (ht _ ⟨a, rfl, ⟨xs, q⟩, r⟩)
theorem hr65 {k : Nat} {A : Around} (hr : Room k A) : A.units + 65 < cLine := by
  have := hr.un
  omega
/-- the error of a class is out, v in its field -/
def Thr (C : Addr) (f : Str) (v : V) (H : Hp) (E : XK) : Prop := ∀ H' d, Same H H' → H' d = none → E (.ref C) (some d) (upd H' d (.xd [(f, v)]))
def Thr0 (C : Addr) (H : Hp) (E : XK) : Prop := ∀ H', Same H H' → E (.ref C) none H'
structure Er (K : PySem.W.Frag) (mg : Str → Option Value) (B : Addr) (x qn f : Str) (C i : Addr) : Prop where
  T : ErrTxt K mg B x C
  U : InitTxt K qn f C i
def KS : List Str := ["wires", "nots", "ands", "ors", "rising", "sums", "all"]
structure Ers (K : PySem.W.Frag) (mg : Str → Option Value) (B cT iT cS iS cK aK : Addr) : Prop where
  S : BaseTxt K mg "FoldError" B
  t : Er K mg B "InvalidTable" "InvalidTable.__init__" "at" cT iT
  s : Er K mg B "InvalidSize" "InvalidSize.__init__" "word" cS iS
  k : ErrTxt K mg B "InvalidKind" cK
  q : PySem.W.excIn K cK tl "Exception.__new__" = true
  g : mg "KINDS" = some (.ref aK)
  l : ∀ H, SqT K H aK (KS.map V.str)
def strV : D → Str | .str x => x | _ => ""
def isS : D → Bool | .str _ => true | _ => false
def okK (d : D) : Bool := isS d && KS.contains (strV d)
theorem kStr {K : PySem.W.Frag} : ∀ d : D, PySem.W.kitOne K (.type (tyN d)) (.type "str") = some (isS d) := fun d => by
  cases d <;> (refine kit_ty ?_; dsimp only [tyN, isS]; decide +kernel)
theorem inV_str (x : Str) : ∀ xs : List Str, inV (.str x) (xs.map V.str) = xs.contains x
  | [] => rfl
  | y :: xs => by
    have ih := inV_str x xs
    unfold inV at ih ⊢
    rw [List.map_cons, List.any_cons, ih, List.contains_cons]
    congr 1
    show decide (y = x) = (x == y)
    by_cases e : y = x
    · rw [decide_eq_true e, e]
      simp
    · rw [decide_eq_false e]
      exact (beq_eq_false_iff_ne.mpr (Ne.symm e)).symm
section
variable {P : Program} {w : World} {K : PySem.W.Frag} {mg : Str → Option Value} {base : Heap} {B cT iT cS iS cK aK : Addr}
abbrev sNeedAns : Stmt := top 15
abbrev sNeedKind : Stmt := top 16
abbrev sNeedMany : Stmt := top 24
def spNeedKind (K : PySem.W.Frag) (cK : Addr) : Sp := fun vs H Q E => ∃ v d, vs = [v] ∧ Dp K H v d ∧ (okK d = false → Thr0 cK H E) ∧ (okK d = true → ∀ H', Same H H' → Q .non H')
theorem scNeedKind : FnScope ["kind"] ["kind"] (defScope sNeedKind) := ⟨rfl, rfl, rfl, by decide +kernel, rfl, by decide +kernel, by decide +kernel⟩
theorem ok_needKind {f : Addr} {fd : FuncData} (F : Fun K "need_kind" "need_kind" sNeedKind f fd) (Z : Bi mg) (hs : mg "str" = none) (T : Ers K mg B cT iT cS iS cK aK) : FnOk P w K mg base (L2.CX P w) 2 f fd ["kind"] (spNeedKind K cK) := by
  refine F.okX scNeedKind (fun vs H Q E h => ?_) (fun cdv A outer s H vs Q E hr h => ?_)
  · obtain ⟨v, d, rfl, _⟩ := h
    rfl
  · obtain ⟨v, d, rfl, hd, k1, k2⟩ := h
    refine ⟨_, pss_one (ps_if (PW.pt (pw_or (pt_not (pt_val (pe_callB call_isi (by rfl) Z.isinstance (by decide +kernel) (pa_cons (pv 0) (pa_cons (pe_bltn (v := .ty "str") (by rfl) hs (by decide +kernel) rfl) pa_nil)))))
        (pw_or1 (pt_cmpR op_notIn_seq (pv 0) (pe_glob (v := .ref aK) (by rfl) T.g rfl) (by with_unfolding_all rfl)))))
      (pss_one (ps_raise rfl (takes_of rfl rfl rfl rfl) (pmk_bare PySem.F.excBase_Exception T.q T.k.gC T.k.kC (raises_own T.k.sub T.k.ty)))) pss_nil), ?_⟩
    refine ⟨_, rfl, v, _, _, _, _, rfl, .ty "str", ty_data hd, kStr d, ⟨_, rfl, ?_⟩⟩
    by_cases hi : isS d = true
    · refine go_f (by rw [hi]; rfl) ?_
      cases hd with
      | str x =>
        refine ⟨_, rfl, aK, _, rfl, .inr (T.l _), rfl, by decide +kernel, _, rfl, ?_⟩
        rw [inV_str]
        by_cases hk : KS.contains x = true
        · refine go_f (by rw [hk]; rfl) ?_
          exact k2 (by unfold okK; rw [hi, Bool.true_and]; exact hk) H (Same.refl H)
        · have hk' : KS.contains x = false := by simpa using hk
          refine go_t (by rw [hk']; rfl) ?_
          exact k1 (by unfold okK; rw [hi, Bool.true_and]; exact hk') H (Same.refl H)
      | non => cases hi
      | bl b => cases hi
      | int i => cases hi
      | lst q r => cases hi
      | tup q r => cases hi
    · have hi' : isS d = false := by simpa using hi
      refine go_t (by rw [hi']; rfl) ?_
      refine go_t rfl ?_
      exact k1 (by unfold okK; rw [hi']; rfl) H (Same.refl H)
def spNeedMany (K : PySem.W.Frag) (cS : Addr) : Sp := fun vs H Q E => ∃ v d, vs = [v] ∧ Dp K H v d ∧ (isBt 1 4 d = false → Thr cS "word" (.str "many") H E) ∧ (isBt 1 4 d = true → ∀ H', Same H H' → Q .non H')
theorem scNeedMany : FnScope ["many"] ["many"] (defScope sNeedMany) := ⟨rfl, rfl, rfl, by decide +kernel, rfl, by decide +kernel, by decide +kernel⟩
theorem ok_needMany {f fB : Addr} {fd fdB : FuncData} (F : Fun K "need_many" "need_many" sNeedMany f fd) (T : Ers K mg B cT iT cS iS cK aK) (FB : At K mg "is_between" sBetween fB fdB ["least", "most", "value"]) (GB : FnOk P w K mg base CX0 2 fB fdB ["least", "most", "value"] (spB2 K isBt)) :
    FnOk P w K mg base (L2.CX P w) 3 f fd ["many"] (spNeedMany K cS) := by
  refine F.okX scNeedMany (fun vs H Q E h => ?_) (fun cdv A outer s H vs Q E hr h => ?_)
  · obtain ⟨v, d, rfl, _⟩ := h
    rfl
  · obtain ⟨v, d, rfl, hd, k1, k2⟩ := h
    refine ⟨_, pss_one (ps_if (pt_not (pt_val (pe_call GB hr rfl FB.g FB.F.kp FB.b .nil pass0 (by exact (pa_cons pe_int (pa_cons pe_int (pa_cons (pv 0) pa_nil)))))))
      (pss_one (ps_err rfl T.s.T T.s.U hr (takes_of rfl rfl rfl rfl) (by exact (pa_cons pe_str pa_nil)))) pss_nil), ?_⟩
    refine ⟨_, rfl, 1, 4, v, d, rfl, hd, fun H1 s1 => ⟨_, rfl, ?_⟩⟩
    by_cases hb : isBt 1 4 d = true
    · refine go_f (by rw [hb]; rfl) ?_
      exact k2 hb H1 s1
    · have hf : isBt 1 4 d = false := by simpa using hb
      refine go_t (by rw [hf]; rfl) ?_
      exact ⟨_, rfl, fun d' hd' => k1 hf H1 d' s1 hd'⟩
/-- of two to sixteen answers, each nought or one -/
def GoodA (as : List Nat) (m : Nat) : Prop := 1 ≤ m ∧ m ≤ 4 ∧ as.length = 2 ^ m ∧ ∀ a ∈ as, a < 2
def spNeedAns : Sp := fun vs H Q _ => ∃ v as m, vs = [v] ∧ Tn H v as ∧ GoodA as m ∧ ∀ H', Same H H' → Q .non H'
abbrev NNA : List Str := ["value", "fits", "one"]
theorem scNA : FnScope NNA ["value"] (defScope sNeedAns) := ⟨rfl, rfl, rfl, by decide +kernel, rfl, by decide +kernel, by decide +kernel⟩
theorem isB_n {k a : Nat} : isB (k : Int) (nD a) = decide (a < k) := by
  show (decide (0 ≤ (a : Int)) && decide ((a : Int) < (k : Int))) = decide (a < k)
  rw [decide_eq_true (show 0 ≤ (a : Int) by omega), Bool.true_and]
  by_cases h : a < k
  · rw [decide_eq_true h]
    exact decide_eq_true (by omega)
  · rw [decide_eq_false h]
    exact decide_eq_false (by omega)
theorem ok_needAns {f fL : Addr} {fd fdL : FuncData} (F : Fun K "need_answers" "need_answers" sNeedAns f fd) (Z : Bi mg) (FL : At K mg "is_below" sBelow fL fdL ["many", "value"]) (GL : FnOk P w K mg base CX0 3 fL fdL ["many", "value"] (spB1 K isB)) : FnOk P w K mg base CX0 4 f fd ["value"] spNeedAns := by
  refine F.ok scNA (fun vs H Q E h => ?_) (fun cdv A outer s H vs Q E hr h => ?_)
  · obtain ⟨v, as, m, rfl, _⟩ := h
    rfl
  · obtain ⟨v, as, m, rfl, ht, ⟨m1, m4, len, lt⟩, k⟩ := h
    refine ⟨_, pss_cons (ps_set (i := 1) scNA.nd rfl (Or.inl rfl) (pe_and (pe_callB call_isi (by rfl) Z.isinstance (by decide +kernel) (pa_cons (pv 0) (pa_cons (pe_bltn (v := .ty "tuple") (by rfl) Z.tuple (by decide +kernel) rfl) pa_nil)))
        (pe_and (pe_cmpR op_in_seq (pe_callB call_len_seq (by rfl) Z.len PySem.boot_len (pa_cons (pv 0) pa_nil)) (pe_tup (by exact (pa_cons pe_int (pa_cons pe_int (pa_cons pe_int (pa_cons pe_int pa_nil)))))) (by with_unfolding_all rfl))
        (pe_one (pe_callB (cr_all rfl) (by rfl) Z.all (by decide +kernel) (pa_cons
          (pe_lc (own := [("one", 2)]) (g := gName 2) (tt := tYes) (wi := iSq K (tVar 0)) (te := tCall (spB1 K isB) [] E0 (tCons (tC (.int 2)) (tCons (tVar 2) tNil))) rfl scNA.nd (pi_sq (pv 0))
            (blkOk_by (N := NNA) (sc := defScope sNeedAns) (by decide +kernel)) (fun _ _ _ _ _ => pg_name (i := 2) scNA.nd rfl (Or.inl rfl)) (fun _ _ _ _ _ => pts_nil)
            (fun _ _ _ _ _ => pe_call GL (hr.mono (by decide)) (by rfl) FL.g FL.F.kp FL.b .nil pass0 (by exact (pa_cons pe_int (pa_cons (pv 2) pa_nil))))) pa_nil))))))
      (pss_one (ps_if (pt_not (pt_val (pv 1))) pss_dead pss_nil)), ?_⟩
    obtain ⟨a, rfl, ea⟩ := id ht
    have ha := SqT.of (K := K) ea
    refine ⟨_, rfl, .ref a, _, _, _, _, rfl, .ty "tuple", ty_data ht.dp, kTuple _, _, rfl, go_t rfl ⟨_, rfl, a, _, rfl, .inr ha, (by show 4 ≤ sizeLine; decide), fun t ht' => ⟨t, _, rfl, .inr (SqT.of upd_same), rfl, rfl, ?_⟩⟩⟩
    have e16 : inV (.int ((as.map nV).length : Nat)) [V.int 2, .int 4, .int 8, .int 16] = true := by
      rw [List.length_map, len]
      obtain rfl | rfl | rfl | rfl : m = 1 ∨ m = 2 ∨ m = 3 ∨ m = 4 := by omega
      all_goals rfl
    rw [e16]
    have s1 := same_new (o := .tup [V.int 2, .int 4, .int 8, .int 16]) ht'
    generalize upd H t (.tup [V.int 2, .int 4, .int 8, .int 16]) = H1 at s1
    have haK : ∀ H', Same H1 H' → SqK K H' .T a (as.map nV) := fun H' s' => seqT (s1.trans s') ha
    refine ⟨_, rfl, go_t rfl (iSq_of (kd := .T) (fun Q kq => ⟨_, rfl, kq⟩) (haK H1 (Same.refl H1)) fun D hD => walk_it (walk_sq (n := (as.map nV).length) rfl) (fun i H' => Same H1 H' ∧ H' D = some (.lst ((as.take i).map fun _ => V.bl true))) ⟨same_new hD, upd_same⟩ (fun i H' _ p => haK H' p.1) ?_ ?_)⟩
    · rintro i x _ H2 hi ⟨s2, eD⟩ ⟨rfl, hx⟩
      rw [List.length_map] at hi
      rw [List.getElem?_map, List.getElem?_eq_getElem hi] at hx
      obtain rfl := (Option.some.inj hx).symm
      refine ⟨rfl, _, rfl, 2, _, nD as[i], rfl, .int _, fun H3 s3 => ?_⟩
      rw [show isB 2 (nD as[i]) = true from isB_n.trans (decide_eq_true (lt _ (List.getElem_mem hi)))]
      refine ⟨_, s3 _ _ eD, by rw [List.length_map, List.length_take, sizeLine_eq]; have : 2 ^ m ≤ 2 ^ 4 := Nat.pow_le_pow_right (by decide) m4; omega, same_of (s2.trans s3) hD, ?_⟩
      rw [upd_same, take_more (List.getElem?_eq_getElem hi), List.map_append]
      rfl
    · rintro H2 ⟨s2, eD⟩
      rw [List.length_map, List.take_length] at eD
      refine ⟨D, as.map fun _ => true, rfl, SqL.of (by rw [List.map_map]; exact eD), ?_⟩
      have : (as.map fun _ => true).all id = true := by simp
      rw [this]
      exact ⟨_, rfl, _, rfl, go_f rfl (k _ (s1.trans s2))⟩
end
end K40
/-! which way an operation of yes and no goes. -/
namespace K40
open PySem L2 FX SQ
section
variable {P : Program} {w : World} {K : PySem.W.Frag} {mg : Str → Option Value} {base : Heap} {B cT iT cS iS cK aK : Addr}
abbrev sPlaces : Stmt := top 17
abbrev sWay : Stmt := top 18
abbrev sHungOf : Stmt := top 19
abbrev sIsOf : Stmt := top 21
abbrev sHasKind : Stmt := top 22
def spPlaces : Sp := fun vs H Q _ => ∃ v as m, vs = [v] ∧ Tn H v as ∧ GoodA as m ∧ Q (.int (m : Nat)) H
theorem scPlaces : FnScope ["answers"] ["answers"] (defScope sPlaces) := ⟨rfl, rfl, rfl, by decide +kernel, rfl, by decide +kernel, by decide +kernel⟩
theorem bits_of {as : List Nat} {m : Nat} (g : GoodA as m) : ((Builtin.Int.intBits ((as.map nV).length : Nat) : Nat) : Int) - 1 = (m : Nat) := by
  obtain ⟨m1, m4, len, _⟩ := g
  rw [List.length_map, len]
  obtain rfl | rfl | rfl | rfl : m = 1 ∨ m = 2 ∨ m = 3 ∨ m = 4 := by omega
  all_goals decide +kernel
theorem ok_places {f : Addr} {fd : FuncData} (F : Fun K "places_of" "places_of" sPlaces f fd) (Z : Bi mg) : FnOk P w K mg base CX0 1 f fd ["answers"] spPlaces := by
  refine F.ok scPlaces (fun vs H Q E h => ?_) (fun cdv A outer s H vs Q E hr h => ?_)
  · obtain ⟨v, as, m, rfl, _⟩ := h
    rfl
  · obtain ⟨v, as, m, rfl, ht, g, k⟩ := h
    refine ⟨_, pss_one (ps_ret (pe_op op_sub (pe_bits (pe_callB call_len_seq (by rfl) Z.len PySem.boot_len (pa_cons (pv 0) pa_nil))) pe_int)), ?_⟩
    obtain ⟨a, rfl, ea⟩ := id ht
    refine ⟨_, rfl, a, _, rfl, .inr (SqT.of (K := K) ea), _, rfl, _, _, rfl, rfl, ?_⟩
    show Q (.int _) H
    rw [bits_of g]
    exact k
def lowsF (m p : Nat) : List Nat := (List.range (2 ^ m)).filter fun s => s / 2 ^ (m - 1 - p) % 2 == 0
def anyF (r : Nat → Nat → Bool) (as : List Nat) (m p : Nat) : Bool := (lowsF m p).any fun s => r (as.getD s 0) (as.getD (s + 2 ^ (m - 1 - p)) 0)
def wayF (as : List Nat) (m p : Nat) : Str := if anyF (fun a b => decide (a < b)) as m p = true then (if anyF (fun a b => decide (b < a)) as m p = true then "both" else "rises") else if anyF (fun a b => decide (b < a)) as m p = true then "falls" else "level"
def spWay : Sp := fun vs H Q _ => ∃ (v : V) (as : List Nat) (m p : Nat), vs = [v, .int (p : Nat)] ∧ Tn H v as ∧ GoodA as m ∧ p < m ∧ ∀ H', Same H H' → Q (.str (wayF as m p)) H'
abbrev NWay : List Str := ["answers", "place", "step", "lows", "rises", "falls", "spot"]
theorem scWay : FnScope NWay ["answers", "place"] (defScope sWay) := ⟨rfl, rfl, rfl, by decide +kernel, rfl, by decide +kernel, by decide +kernel⟩
theorem low_in : ∀ m < 5, ∀ p < m, ∀ s < 2 ^ m, s / 2 ^ (m - 1 - p) % 2 = 0 → s + 2 ^ (m - 1 - p) < 2 ^ m := by decide +kernel
theorem pow_n (s : Nat) : ∀ n : Nat, pow' (s : Int) n = ((s ^ n : Nat) : Int)
  | 0 => rfl
  | n + 1 => by
    show pow' s n * s = _
    rw [pow_n s n, Nat.pow_succ, Int.natCast_mul]
theorem mod_n (a b : Nat) : ((a : Int) / (b : Nat)) % 2 = ((a / b % 2 : Nat) : Int) := by
  rw [Int.natCast_emod, Int.natCast_ediv]
  rfl
/-- the spots looked at, one behind another -/
theorem any_walk {as : List Nat} {m p : Nat} (g : GoodA as m) (hp : p < m) {i : Nat} {s : Nat} (h : (lowsF m p)[i]? = some s) :
    s < as.length ∧ s + 2 ^ (m - 1 - p) < as.length := by
  have hm := List.mem_of_getElem? h
  unfold lowsF at hm
  rw [List.mem_filter, List.mem_range] at hm
  obtain ⟨h1, h2⟩ := hm
  rw [g.2.2.1]
  exact ⟨h1, low_in m (by have := g.2.1; omega) p hp s h1 (by simpa using h2)⟩
theorem get_n {as : List Nat} {s : Nat} (h : s < as.length) : (as.map nV)[s]? = some (nV (as.getD s 0)) := by
  rw [List.getElem?_map, List.getElem?_eq_getElem h, List.getD_eq_getElem?_getD, List.getElem?_eq_getElem h]
  rfl
theorem lows_len (m p : Nat) (h : m ≤ 4) : (lowsF m p).length ≤ 16 := by
  have h1 := List.length_filter_le (fun s => s / 2 ^ (m - 1 - p) % 2 == 0) (List.range (2 ^ m))
  rw [List.length_range] at h1
  have : 2 ^ m ≤ 2 ^ 4 := Nat.pow_le_pow_right (by decide) h
  unfold lowsF
  omega
theorem even_n (j q : Nat) : decide (V.int (((0 + (j : Int)) / ((q : Nat) : Int)) % 2) = V.int 0) = (j / q % 2 == 0) := by
  rw [Int.zero_add, mod_n]
  by_cases h : j / q % 2 = 0
  · rw [h]
    rfl
  · rw [beq_eq_false_iff_ne.mpr h]
    exact decide_eq_false fun z => h (by
      have := V.int.inj z
      omega)
theorem range_fil (p : Nat → Bool) (j : Nat) : (List.range (j + 1)).filter p = (List.range j).filter p ++ (if p j = true then [j] else []) := by
  rw [List.range_succ, List.filter_append, List.filter_cons]
  rfl
theorem ok_way {f fW fP : Addr} {fd fdW fdP : FuncData} (F : Fun K "way_of" "way_of" sWay f fd) (Z : Bi mg) (hany : mg "any" = none) (FW : At K mg "power" sPower fW fdW ["base", "times"]) (FP : At K mg "places_of" sPlaces fP fdP ["answers"]) : FnOk P w K mg base CX0 2 f fd ["answers", "place"] spWay := by
  have GW : FnOk P w K mg base CX0 1 fW fdW ["base", "times"] spPower := ok_power FW.F Z
  have GP : FnOk P w K mg base CX0 1 fP fdP ["answers"] spPlaces := ok_places FP.F Z
  refine F.ok scWay (fun vs H Q E h => ?_) (fun cdv A outer sh H vs Q E hr h => ?_)
  · obtain ⟨v, as, m, p, rfl, _⟩ := h
    rfl
  · obtain ⟨v, as, m, p, rfl, ht, g, hp, k⟩ := h
    have any1 : ∀ (op : CmpOp), True := fun _ => trivial
    refine ⟨_, pss_cons (ps_set (i := 2) scWay.nd rfl (Or.inr rfl) (pe_call GW hr rfl FW.g FW.F.kp FW.b .nil pass0 (by exact (pa_cons pe_int (pa_cons (pe_op op_sub (pe_op op_sub (pe_call GP hr rfl FP.g FP.F.kp FP.b .nil pass0 (by exact (pa_cons (pv 0) pa_nil))) pe_int) (pv 1)) pa_nil)))))
      (pss_cons (ps_setLc (i := 3) (own := [("spot", 6)]) (g := gName 6) (tt := tTest (tOp (fun x y H Q => scal x y = true ∧ Q (V.bl (decide (x = y))) H) (tOp (rI (fun _ j => 0 < j) fun i j => .int (i % j)) (tOp (rI CDiv fun i j => .int (i / j)) (tVar 6) (tVar 2)) (tC (.int 2))) (tC (.int 0)))) (te := tVar 6) rfl scWay.nd rfl rfl (sw_true rfl rfl rfl (by decide +kernel)) (pi_range1 (by rfl) Z.range (pa_cons (pe_callB call_len_seq (by rfl) Z.len PySem.boot_len (pa_cons (pv 0) pa_nil)) pa_nil))
          (blkOk_by (N := NWay) (sc := defScope sWay) (by decide +kernel)) (fun _ _ _ _ _ => pg_name (i := 6) scWay.nd rfl (Or.inl rfl)) (fun _ _ _ _ _ => pts_one (pt_cmpR op_eq (pe_op op_mod (pe_op op_fdiv (pv 6) (pv 2)) pe_int) pe_int (nomark _))) (fun _ _ _ _ _ => pv 6))
      (pss_cons (ps_set (i := 4) scWay.nd rfl (Or.inl rfl) (pe_callB (cr_any rfl) (by rfl) hany (by decide +kernel) (pa_cons (pe_lc (own := [("spot", 6)]) (g := gName 6) (tt := tYes) (te := tOp (rI0 fun i j => .bl (decide (i < j))) (tOp (rIxT K) (tVar 0) (tVar 6)) (tOp (rIxT K) (tVar 0) (tOp (rI0 fun i j => .int (i + j)) (tVar 6) (tVar 2)))) rfl scWay.nd (pi_list (pv 3))
          (blkOk_by (N := NWay) (sc := defScope sWay) (by decide +kernel)) (fun _ _ _ _ _ => pg_name (i := 6) scWay.nd rfl (Or.inl rfl)) (fun _ _ _ _ _ => pts_nil) (fun _ _ _ _ _ => pe_cmpR op_lt (pe_ix ix_tup (pv 0) (pv 6) (fun _ _ => rfl)) (pe_ix ix_tup (pv 0) (pe_op op_add (pv 6) (pv 2)) (fun _ _ => rfl)) (nomark _))) pa_nil)))
      (pss_cons (ps_set (i := 5) scWay.nd rfl (Or.inl rfl) (pe_callB (cr_any rfl) (by rfl) hany (by decide +kernel) (pa_cons (pe_lc (own := [("spot", 6)]) (g := gName 6) (tt := tYes) (te := tOp (rI0 fun i j => .bl (decide (i > j))) (tOp (rIxT K) (tVar 0) (tVar 6)) (tOp (rIxT K) (tVar 0) (tOp (rI0 fun i j => .int (i + j)) (tVar 6) (tVar 2)))) rfl scWay.nd (pi_list (pv 3))
          (blkOk_by (N := NWay) (sc := defScope sWay) (by decide +kernel)) (fun _ _ _ _ _ => pg_name (i := 6) scWay.nd rfl (Or.inl rfl)) (fun _ _ _ _ _ => pts_nil) (fun _ _ _ _ _ => pe_cmpR op_gt (pe_ix ix_tup (pv 0) (pv 6) (fun _ _ => rfl)) (pe_ix ix_tup (pv 0) (pe_op op_add (pv 6) (pv 2)) (fun _ _ => rfl)) (nomark _))) pa_nil)))
      (pss_cons (ps_if (pt_val (pv 4)) (pss_one (ps_ret (pe_ifExp (pt_val (pv 5)) pe_str pe_str))) pss_nil)
      (pss_one (ps_ret (pe_ifExp (pt_val (pv 5)) pe_str pe_str))))))), ?_⟩
    obtain ⟨a, rfl, ea⟩ := id ht
    have ha := SqT.of (K := K) ea
    have m4 := g.2.1
    refine ⟨_, rfl, .ref a, as, m, rfl, ht, g, _, _, rfl, rfl, _, rfl, _, _, rfl, rfl, 2, m - 1 - p, (by show [V.int 2, V.int ((m : Int) - 1 - (p : Int))] = _; rw [show (m : Int) - 1 - (p : Int) = ((m - 1 - p : Nat) : Int) from by omega]), by decide, by decide, by omega, ?_⟩
    rw [show pow' 2 (m - 1 - p) = ((2 ^ (m - 1 - p) : Nat) : Int) from pow_n 2 _]
    have pos : 0 < 2 ^ (m - 1 - p) := Nat.pow_pos (by decide)
    have small : 2 ^ (m - 1 - p) ≤ 2 ^ 4 := Nat.pow_le_pow_right (by decide) (by omega)
    have lm : as.length ≤ 16 := by
      rw [g.2.2.1]
      exact Nat.pow_le_pow_right (by decide) m4
    refine ⟨_, rfl, a, _, rfl, .inr ha, ((as.length : Nat) : Int), (by rw [List.length_map]), by omega, by omega, ?_⟩
    rw [Int.toNat_natCast]
    refine fun D hD => walk_it walk_range (fun i H' => Same H H' ∧ H' D = some (.lst (((List.range i).filter fun s => s / 2 ^ (m - 1 - p) % 2 == 0).map nV))) ⟨same_new hD, upd_same⟩ (fun _ _ _ _ => trivial) ?_ ?_
    · rintro j _ _ H2 hj ⟨s2, eD⟩ ⟨rfl, rfl⟩
      refine ⟨rfl, _, rfl, _, rfl, _, _, rfl, rfl, ⟨by omega, by omega⟩, _, _, rfl, rfl, (by show (0 : Int) < 2; decide), rfl, ?_⟩
      rw [show (V.bl (decide ((fun i j => V.int (i % j)) ((0 + (j : Int)) / ((2 ^ (m - 1 - p) : Nat) : Int)) 2 = V.int 0))) = V.bl (j / 2 ^ (m - 1 - p) % 2 == 0) from congrArg V.bl (even_n j _)]
      refine ⟨_, rfl, ?_⟩
      by_cases he : (j / 2 ^ (m - 1 - p) % 2 == 0) = true
      · refine go_t he ⟨_, rfl, _, eD, ?_, same_of s2 hD, ?_⟩
        · have h1 := List.length_filter_le (fun s => s / 2 ^ (m - 1 - p) % 2 == 0) (List.range j)
          rw [List.length_range] at h1
          rw [List.length_map, sizeLine_eq]
          omega
        · rw [upd_same, range_fil, if_pos he, List.map_append]
          show some (HO.lst (_ ++ [V.int (0 + (j : Int))])) = _
          rw [Int.zero_add]
          rfl
      · refine go_f (by simpa using he) ⟨s2, ?_⟩
        rw [range_fil, if_neg he, List.append_nil]
        exact eD
    rintro H2 ⟨s2, eD⟩
    rw [g.2.2.1] at eD
    have eD : H2 D = some (.lst ((lowsF m p).map nV)) := eD
    refine ⟨_, rfl, D, rfl, ⟨_, SqL.of ((Same.refl H2) _ _ eD)⟩, fun R hR => walk_it walk_list (fun i H' => Same H2 H' ∧ H' R = some (.lst (((lowsF m p).take i).map fun s => V.bl (decide (as.getD s 0 < as.getD (s + 2 ^ (m - 1 - p)) 0))))) ⟨same_new hR, upd_same⟩ (fun i H' _ q => SqL.of (q.1 _ _ ((Same.refl H2) _ _ eD))) ?_ ?_⟩
    · rintro j x _ H3 hj ⟨s3, e3⟩ ⟨rfl, hx⟩
      rw [List.getElem?_map] at hx
      obtain ⟨s, hs, rfl⟩ := Option.map_eq_some_iff.mp hx
      obtain ⟨b1, b2⟩ := any_walk g hp hs
      have ha3 := seqT ((s2.trans s3)) ha
      refine ⟨rfl, _, rfl, _, rfl, a, _, _, _, rfl, rfl, ha3, atI_nat (get_n b1), _, rfl, _, rfl, _, rfl, _, _, rfl, rfl, a, _, _, _, rfl, rfl, ha3, (by
        show atI _ ((s : Int) + ((2 ^ (m - 1 - p) : Nat) : Int)) = _
        rw [← Int.natCast_add]
        exact atI_nat (get_n b2)), _, _, rfl, rfl, _, e3, ?_, same_of s3 hR, ?_⟩
      · rw [List.length_map, List.length_take, sizeLine_eq]
        have := lows_len m p m4
        omega
      · rw [upd_same, take_more hs, List.map_append]
        simp only [List.map_cons, List.map_nil, Int.ofNat_lt, gt_iff_lt]
    rintro H4 ⟨sR, eR⟩
    rw [List.length_map, List.take_length] at eR
    refine ⟨R, (lowsF m p).map fun s => decide (as.getD s 0 < as.getD (s + 2 ^ (m - 1 - p)) 0), rfl, SqL.of (by rw [List.map_map]; exact eR), ?_⟩
    have r1 : ((lowsF m p).map fun s => decide (as.getD s 0 < as.getD (s + 2 ^ (m - 1 - p)) 0)).any id = anyF (fun a b => decide (a < b)) as m p := by
      unfold anyF
      rw [List.any_map]
      rfl
    rw [r1]
    refine ⟨_, rfl, D, rfl, ⟨_, SqL.of (sR _ _ eD)⟩, fun S hS => walk_it walk_list (fun i H' => Same H4 H' ∧ H' S = some (.lst (((lowsF m p).take i).map fun s => V.bl (decide (as.getD (s + 2 ^ (m - 1 - p)) 0 < as.getD s 0))))) ⟨same_new hS, upd_same⟩ (fun i H' _ q => SqL.of (q.1 _ _ (sR _ _ eD))) ?_ ?_⟩
    · rintro j x _ H3 hj ⟨s3, e3⟩ ⟨rfl, hx⟩
      rw [List.getElem?_map] at hx
      obtain ⟨s, hs, rfl⟩ := Option.map_eq_some_iff.mp hx
      obtain ⟨b1, b2⟩ := any_walk g hp hs
      have ha3 := seqT (((s2.trans sR).trans s3)) ha
      refine ⟨rfl, _, rfl, _, rfl, a, _, _, _, rfl, rfl, ha3, atI_nat (get_n b1), _, rfl, _, rfl, _, rfl, _, _, rfl, rfl, a, _, _, _, rfl, rfl, ha3, (by
        show atI _ ((s : Int) + ((2 ^ (m - 1 - p) : Nat) : Int)) = _
        rw [← Int.natCast_add]
        exact atI_nat (get_n b2)), _, _, rfl, rfl, _, e3, ?_, same_of s3 hS, ?_⟩
      · rw [List.length_map, List.length_take, sizeLine_eq]
        have := lows_len m p m4
        omega
      · rw [upd_same, take_more hs, List.map_append]
        simp only [List.map_cons, List.map_nil, Int.ofNat_lt, gt_iff_lt]
    rintro H5 ⟨sS, eS⟩
    rw [List.length_map, List.take_length] at eS
    refine ⟨S, (lowsF m p).map fun s => decide (as.getD (s + 2 ^ (m - 1 - p)) 0 < as.getD s 0), rfl, SqL.of (by rw [List.map_map]; exact eS), ?_⟩
    have r2 : ((lowsF m p).map fun s => decide (as.getD (s + 2 ^ (m - 1 - p)) 0 < as.getD s 0)).any id = anyF (fun a b => decide (b < a)) as m p := by
      unfold anyF
      rw [List.any_map]
      rfl
    rw [r2]
    have kk := k H5 ((s2.trans sR).trans sS)
    unfold wayF at kk
    refine ⟨_, rfl, _, rfl, ?_⟩
    by_cases h1 : anyF (fun a b => decide (a < b)) as m p = true
    · refine go_t h1 ⟨_, rfl, _, rfl, ?_⟩
      rw [if_pos h1] at kk
      by_cases h2 : anyF (fun a b => decide (b < a)) as m p = true
      · rw [if_pos h2] at kk
        exact go_t h2 kk
      · rw [if_neg h2] at kk
        exact go_f (by simpa using h2) kk
    · refine go_f (by simpa using h1) ⟨_, rfl, _, rfl, ?_⟩
      rw [if_neg h1] at kk
      by_cases h2 : anyF (fun a b => decide (b < a)) as m p = true
      · rw [if_pos h2] at kk
        exact go_t h2 kk
      · rw [if_neg h2] at kk
        exact go_f (by simpa using h2) kk
end
end K40
/-! of the rising kind. -/
namespace K40
open PySem L2 FX SQ
def hungF (as : List Nat) (m : Nat) : List Nat := (List.range m).filter fun p => !decide (wayF as m p = "level")
def riseOk (as : List Nat) (m : Nat) : Bool := (hungF as m).isEmpty || (hungF as m).all fun p => decide (wayF as m p = "rises")
theorem str_dec (x y : Str) : decide (V.str x = V.str y) = decide (x = y) := by
  by_cases e : x = y
  · rw [decide_eq_true e, e]
    exact decide_eq_true rfl
  · rw [decide_eq_false e]
    exact decide_eq_false fun z => e (V.str.inj z)
section
variable {P : Program} {w : World} {K : PySem.W.Frag} {mg : Str → Option Value} {base : Heap} {B cT iT cS iS cK aK : Addr}
def spHungOf : Sp := fun vs H Q _ => ∃ v as m, vs = [v] ∧ Tn H v as ∧ GoodA as m ∧ ∀ H' l, Same H H' → H' l = some (.lst ((hungF as m).map nV)) → Q (.ref l) H'
abbrev NHO : List Str := ["answers", "place"]
theorem scHO : FnScope NHO ["answers"] (defScope sHungOf) := ⟨rfl, rfl, rfl, by decide +kernel, rfl, by decide +kernel, by decide +kernel⟩
theorem ok_hungOf {f fY fP : Addr} {fd fdY fdP : FuncData} (F : Fun K "hung_of" "hung_of" sHungOf f fd) (Z : Bi mg) (FY : At K mg "way_of" sWay fY fdY ["answers", "place"]) (GY : FnOk P w K mg base CX0 2 fY fdY ["answers", "place"] spWay) (FP : At K mg "places_of" sPlaces fP fdP ["answers"]) :
    FnOk P w K mg base CX0 3 f fd ["answers"] spHungOf := by
  have GP : FnOk P w K mg base CX0 1 fP fdP ["answers"] spPlaces := ok_places FP.F Z
  refine F.ok scHO (fun vs H Q E h => ?_) (fun cdv A outer sh H vs Q E hr h => ?_)
  · obtain ⟨v, as, m, rfl, _⟩ := h
    rfl
  · obtain ⟨v, as, m, rfl, ht, g, k⟩ := h
    refine ⟨_, pss_one (ps_ret (pe_lc (own := [("place", 1)]) (g := gName 1) (tt := tTest (tOp rNe (tCall spWay [] E0 (tCons (tVar 0) (tCons (tVar 1) tNil))) (tC (.str "level")))) (te := tVar 1) rfl scHO.nd (pi_range1 (by rfl) Z.range (pa_cons (pe_call GP (hr.mono (by decide)) rfl FP.g FP.F.kp FP.b .nil pass0 (by exact (pa_cons (pv 0) pa_nil))) pa_nil))
      (blkOk_by (N := NHO) (sc := defScope sHungOf) (by decide +kernel)) (fun _ _ _ _ _ => pg_name (i := 1) scHO.nd rfl (Or.inl rfl)) (fun _ _ _ _ _ => pts_one (pt_cmpR op_ne (pe_call GY hr (by rfl) FY.g FY.F.kp FY.b .nil pass0 (by exact (pa_cons (pv 0) (pa_cons (pv 1) pa_nil)))) pe_str (nomark _))) (fun _ _ _ _ _ => pv 1))), ?_⟩
    have m4 := g.2.1
    refine ⟨_, rfl, v, as, m, rfl, ht, g, ((m : Nat) : Int), rfl, by omega, by omega, ?_⟩
    rw [Int.toNat_natCast]
    refine fun D hD => walk_it walk_range (fun i H' => Same H H' ∧ H' D = some (.lst (((List.range i).filter fun p => !decide (wayF as m p = "level")).map nV))) ⟨same_new hD, upd_same⟩ (fun _ _ _ _ => trivial) ?_ ?_
    · rintro j _ _ H2 hj ⟨s2, eD⟩ ⟨rfl, rfl⟩
      refine ⟨rfl, _, rfl, _, rfl, v, as, m, j, (by show [v, V.int (0 + (j : Int))] = _; rw [Int.zero_add]), ht.same s2, g, hj, fun H3 s3 => ⟨rfl, ?_⟩⟩
      rw [str_dec]
      refine ⟨_, rfl, ?_⟩
      by_cases he : (!decide (wayF as m j = "level")) = true
      · refine go_t he ⟨_, rfl, _, s3 _ _ eD, ?_, same_of (s2.trans s3) hD, ?_⟩
        · have h1 := List.length_filter_le (fun p => !decide (wayF as m p = "level")) (List.range j)
          rw [List.length_range] at h1
          rw [List.length_map, sizeLine_eq]
          omega
        · rw [upd_same, range_fil, if_pos he, List.map_append]
          show some (HO.lst (_ ++ [V.int (0 + (j : Int))])) = _
          rw [Int.zero_add]
          rfl
      · refine go_f (by simpa using he) ⟨s2.trans s3, ?_⟩
        rw [range_fil, if_neg he, List.append_nil]
        exact s3 _ _ eD
    · rintro H2 ⟨s2, eD⟩
      exact k H2 D s2 eD
def spIsOf : Sp := fun vs H Q _ => ∃ v as m, vs = [.str "rising", v] ∧ Tn H v as ∧ GoodA as m ∧ ∀ H', Same H H' → Q (.bl (riseOk as m)) H'
abbrev NIO : List Str := ["kind", "answers", "hung", "rises", "made", "place", "one"]
theorem scIO : FnScope NIO ["kind", "answers"] (defScope sIsOf) := ⟨rfl, rfl, rfl, by decide +kernel, rfl, by decide +kernel, by decide +kernel⟩
theorem ok_isOf {f fY fH : Addr} {fd fdY fdH : FuncData} (F : Fun K "is_of" "is_of" sIsOf f fd) (Z : Bi mg) (FY : At K mg "way_of" sWay fY fdY ["answers", "place"]) (GY : FnOk P w K mg base CX0 2 fY fdY ["answers", "place"] spWay)
    (FH : At K mg "hung_of" sHungOf fH fdH ["answers"]) (GH : FnOk P w K mg base CX0 3 fH fdH ["answers"] spHungOf) : FnOk P w K mg base CX0 4 f fd ["kind", "answers"] spIsOf := by
  refine F.ok scIO (fun vs H Q E h => ?_) (fun cdv A outer sh H vs Q E hr h => ?_)
  · obtain ⟨v, as, m, rfl, _⟩ := h
    rfl
  · obtain ⟨v, as, m, rfl, ht, g, k⟩ := h
    refine ⟨_, pss_cons (ps_set (i := 2) scIO.nd rfl (Or.inl rfl) (pe_call GH hr rfl FH.g FH.F.kp FH.b .nil pass0 (by exact (pa_cons (pv 1) pa_nil))))
      (pss_cons (ps_if (PW.pt (pw_or (pt_cmpR op_eq (pv 0) pe_str (nomark _)) (pw_or1 (pt_cmpR op_eq (pe_callB call_len_seq (by rfl) Z.len PySem.boot_len (pa_cons (pv 2) pa_nil)) pe_int (nomark _))))) (pss_one (ps_ret pe_bl)) pss_nil)
      (pss_cons (ps_if (pt_cmpR op_eq (pv 0) pe_str (nomark _)) pss_dead pss_nil)
      (pss_cons (ps_if (PW.pt (pw_or (pt_cmpR op_eq (pv 0) pe_str (nomark _)) (pw_or1 (pt_cmpR op_eq (pv 0) pe_str (nomark _)))))
        (pss_cons (ps_set (i := 3) scIO.nd rfl (Or.inl rfl) (pe_callB (cr_all rfl) (by rfl) Z.all (by decide +kernel) (pa_cons (pe_lc (own := [("place", 5)]) (g := gName 5) (tt := tYes) (te := tOp rEq (tCall spWay [] E0 (tCons (tVar 1) (tCons (tVar 5) tNil))) (tC (.str "rises"))) rfl scIO.nd (pi_list (pv 2))
            (blkOk_by (N := NIO) (sc := defScope sIsOf) (by decide +kernel)) (fun _ _ _ _ _ => pg_name (i := 5) scIO.nd rfl (Or.inl rfl)) (fun _ _ _ _ _ => pts_nil) (fun _ _ _ _ _ => pe_cmpR op_eq (pe_call GY (hr.mono (by decide)) (by rfl) FY.g FY.F.kp FY.b .nil pass0 (by exact (pa_cons (pv 1) (pa_cons (pv 5) pa_nil)))) pe_str (nomark _))) pa_nil)))
        (pss_one (ps_ret (pe_and (pv 3) (pe_one (pe_or (pe_cmpR op_eq (pv 0) pe_str (nomark _)) (pe_one pe_dead))))))) pss_nil)
      pss_dead))), ?_⟩
    refine ⟨_, rfl, v, as, m, rfl, ht, g, fun H1 L s1 eL => ?_⟩
    refine ⟨_, rfl, rfl, _, rfl, ?_⟩
    refine go_f rfl ⟨_, rfl, L, _, rfl, .inl (SqL.of eL), rfl, _, rfl, ?_⟩
    rw [List.length_map]
    have e0 : decide (V.int ((hungF as m).length : Nat) = V.int 0) = (hungF as m).isEmpty := by
      cases hungF as m with
      | nil => rfl
      | cons x l =>
        refine decide_eq_false fun z => ?_
        have := V.int.inj z
        rw [List.length_cons] at this
        omega
    rw [e0]
    by_cases hn : (hungF as m).isEmpty = true
    · refine go_t hn ?_
      have := k H1 s1
      unfold riseOk at this
      rw [hn] at this
      exact this
    · have hn' : (hungF as m).isEmpty = false := by simpa using hn
      refine go_f hn' ?_
      refine ⟨_, rfl, rfl, _, rfl, ?_⟩
      refine go_f rfl ?_
      refine ⟨_, rfl, rfl, _, rfl, go_t rfl ?_⟩
      refine ⟨_, rfl, L, rfl, ⟨_, SqL.of eL⟩, fun R hR => walk_it walk_list (fun i H' => Same H1 H' ∧ H' R = some (.lst (((hungF as m).take i).map fun p => V.bl (decide (wayF as m p = "rises"))))) ⟨same_new hR, upd_same⟩ (fun i H' _ q => SqL.of (q.1 _ _ eL)) ?_ ?_⟩
      · rintro j x _ H3 hj ⟨s3, e3⟩ ⟨rfl, hx⟩
        rw [List.getElem?_map] at hx
        obtain ⟨p, hp, rfl⟩ := Option.map_eq_some_iff.mp hx
        have hpm : p < m := by
          have := List.mem_of_getElem? hp
          unfold hungF at this
          rw [List.mem_filter, List.mem_range] at this
          exact this.1
        refine ⟨rfl, _, rfl, _, rfl, v, as, m, p, rfl, ht.same (s1.trans s3), g, hpm, fun H4 s4 => ⟨rfl, ?_⟩⟩
        rw [str_dec]
        refine ⟨_, s4 _ _ e3, ?_, same_of (s3.trans s4) hR, ?_⟩
        · have h1 := List.length_filter_le (fun p => !decide (wayF as m p = "level")) (List.range m)
          have := g.2.1
          rw [List.length_range] at h1
          rw [List.length_map, List.length_take, sizeLine_eq]
          unfold hungF
          omega
        · rw [upd_same, take_more hp, List.map_append]
          rfl
      · rintro H4 ⟨sR, eR⟩
        rw [List.length_map, List.take_length] at eR
        refine ⟨R, (hungF as m).map fun p => decide (wayF as m p = "rises"), rfl, SqL.of (by rw [List.map_map]; exact eR), ?_⟩
        have er : ((hungF as m).map fun p => decide (wayF as m p = "rises")).all id = riseOk as m := by
          unfold riseOk
          rw [hn', Bool.false_or, List.all_map]
          rfl
        rw [er]
        have kk := k H4 (s1.trans sR)
        refine ⟨_, rfl, _, rfl, ?_⟩
        by_cases hr1 : riseOk as m = true
        · refine go_t hr1 ⟨_, rfl, rfl, _, rfl, go_t rfl ?_⟩
          rw [hr1] at kk
          exact kk
        · have hr2 : riseOk as m = false := by simpa using hr1
          refine go_f hr2 ?_
          rw [hr2] at kk
          exact kk
def spHasKind : Sp := fun vs H Q _ => ∃ v as m, vs = [.str "rising", v] ∧ Tn H v as ∧ GoodA as m ∧ ∀ H', Same H H' → Q (.bl (riseOk as m)) H'
theorem scHK : FnScope ["kind", "answers"] ["kind", "answers"] (defScope sHasKind) := ⟨rfl, rfl, rfl, by decide +kernel, rfl, by decide +kernel, by decide +kernel⟩
theorem ok_hasKind {f fK fA fI : Addr} {fd fdK fdA fdI : FuncData} (F : Fun K "has_kind" "has_kind" sHasKind f fd) (FK : At K mg "need_kind" sNeedKind fK fdK ["kind"]) (GK : FnOk P w K mg base (L2.CX P w) 2 fK fdK ["kind"] (spNeedKind K cK))
    (FA : At K mg "need_answers" sNeedAns fA fdA ["value"]) (GA : FnOk P w K mg base CX0 4 fA fdA ["value"] spNeedAns) (FI : At K mg "is_of" sIsOf fI fdI ["kind", "answers"]) (GI : FnOk P w K mg base CX0 4 fI fdI ["kind", "answers"] spIsOf) :
    FnOk P w K mg base (L2.CX P w) 5 f fd ["kind", "answers"] spHasKind := by
  refine F.okX scHK (fun vs H Q E h => ?_) (fun cdv A outer sh H vs Q E hr h => ?_)
  · obtain ⟨v, as, m, rfl, _⟩ := h
    rfl
  · obtain ⟨v, as, m, rfl, ht, g, k⟩ := h
    refine ⟨_, pss_cons (ps_expr (pe_callS GK (hr.mono (by decide)) rfl FK.g FK.F.kp FK.b (fun σ => passAt (takes_of rfl rfl rfl rfl) σ) (by exact (pa_cons (pv 0) pa_nil))))
      (pss_cons (ps_expr (pe_call GA hr rfl FA.g FA.F.kp FA.b .nil pass0 (by exact (pa_cons (pv 1) pa_nil))))
      (pss_one (ps_ret (pe_call GI hr rfl FI.g FI.F.kp FI.b .nil pass0 (by exact (pa_cons (pv 0) (pa_cons (pv 1) pa_nil))))))), ?_⟩
    refine ⟨_, rfl, _, .str "rising", rfl, .str _, fun z => absurd z (by decide), fun _ H1 s1 => ?_⟩
    refine ⟨_, rfl, v, as, m, rfl, ht.same s1, g, fun H2 s2 => ?_⟩
    exact ⟨_, rfl, _, rfl, v, as, m, rfl, ht.same (s1.trans s2), g, fun H3 s3 => k H3 ((s1.trans s2).trans s3)⟩
end
end K40
/-! the rising rows. -/
namespace K40
open PySem L2 FX SQ
def lbF (a b : List Nat) : Bool := (a.zip b).all fun p => decide (p.1 ≤ p.2)
def stepR (L : List (List Nat)) : List (List Nat) := L.flatMap fun a => (L.filter fun b => lbF a b).map fun b => a ++ b
def risN : Nat → List (List Nat)
  | 0 => [[0], [1]]
  | n + 1 => stepR (risN n)
/-- so many rows, of so many places -/
theorem ris_len : ∀ n < 5, (risN n).length ≤ 168 ∧ ∀ r ∈ risN n, r.length = 2 ^ n ∧ ∀ a ∈ r, a < 2 := by decide +kernel
theorem ris_pos : ∀ n < 5, 1 < (risN n).length := by decide +kernel
section
variable {P : Program} {w : World} {K : PySem.W.Frag} {mg : Str → Option Value} {base : Heap} {B cT iT cS iS cK aK : Addr}
abbrev sRR : Stmt := top 25
abbrev sLB : Stmt := top 26
abbrev sRA : Stmt := top 29
def spLB : Sp := fun vs H Q _ => ∃ v u as bs, vs = [v, u] ∧ Tn H v as ∧ Tn H u bs ∧ as.length = bs.length ∧ as.length ≤ 64 ∧ ∀ H', Same H H' → Q (.bl (lbF as bs)) H'
abbrev NLB : List Str := ["one", "other", "low", "high"]
theorem scLB : FnScope NLB ["one", "other"] (defScope sLB) := ⟨rfl, rfl, rfl, by decide +kernel, rfl, by decide +kernel, by decide +kernel⟩
theorem ok_lb {f : Addr} {fd : FuncData} (F : Fun K "lies_below" "lies_below" sLB f fd) (Z : Bi mg) : FnOk P w K mg base CX0 1 f fd ["one", "other"] spLB := by
  refine F.ok scLB (fun vs H Q E h => ?_) (fun cdv A outer sh H vs Q E hr h => ?_)
  · obtain ⟨v, u, as, bs, rfl, _⟩ := h
    rfl
  · obtain ⟨v, u, as, bs, rfl, ht, hu, hl, h64, k⟩ := h
    refine ⟨_, pss_one (ps_ret (pe_callB (cr_all rfl) (by rfl) Z.all (by decide +kernel) (pa_cons
      (pe_lc (own := [("low", 2), ("high", 3)]) (g := gTup K 2 (gCons (gName 2) (gCons (gName 3) gNil))) (tt := tYes) (te := tOp (rI0 fun i j => .bl (decide (i ≤ j))) (tVar 2) (tVar 3)) rfl scLB.nd (pi_zip2 (by rfl) Z.zip (pa_cons (pv 0) (pa_cons (pv 1) pa_nil)))
        (blkOk_by (N := NLB) (sc := defScope sLB) (by decide +kernel)) (fun _ _ _ _ _ => pg_tup rfl (pgs_cons (pg_name (i := 2) scLB.nd rfl (Or.inl rfl)) (pgs_cons (pg_name (i := 3) scLB.nd rfl (Or.inl rfl)) pgs_nil))) (fun _ _ _ _ _ => pts_nil) (fun _ _ _ _ _ => pe_cmpR op_le (pv 2) (pv 3) (nomark _))) pa_nil))), ?_⟩
    obtain ⟨a, rfl, ea⟩ := id ht
    obtain ⟨b, rfl, eb⟩ := id hu
    have hA : ∀ H', Same H H' → SqK K H' .T a (as.map nV) := fun H' s => SqT.of (s _ _ ea)
    have hB : ∀ H', Same H H' → SqK K H' .T b (bs.map nV) := fun H' s => SqT.of (s _ _ eb)
    refine ⟨_, rfl, _, rfl, a, b, _, _, .T, .T, rfl, hA H (Same.refl H), hB H (Same.refl H), fun D hD => walk_it (walk_zip2 (n := as.length) (by rw [List.length_map, List.length_map, hl, Nat.min_self])) (fun i H' => Same H H' ∧ H' D = some (.lst (((as.zip bs).take i).map fun p => V.bl (decide (p.1 ≤ p.2))))) ⟨same_new hD, upd_same⟩ (fun i H' _ q => ⟨hA H' q.1, hB H' q.1⟩) ?_ ?_⟩
    · rintro i x H2 H3 hi ⟨s2, eD⟩ ⟨t, x1, x2, rfl, ht', rfl, hx1, hx2⟩
      have hib : i < bs.length := by omega
      have hx1 : (as.map nV)[i]? = some x1 := hx1
      have hx2 : (bs.map nV)[i]? = some x2 := hx2
      rw [List.getElem?_map, List.getElem?_eq_getElem hi] at hx1
      rw [List.getElem?_map, List.getElem?_eq_getElem hib] at hx2
      obtain rfl := (Option.some.inj hx1).symm
      obtain rfl := (Option.some.inj hx2).symm
      have s3 := same_new (o := .tup [nV as[i], nV bs[i]]) ht'
      have hz : (as.zip bs)[i]? = some (as[i], bs[i]) := by
        rw [List.getElem?_zip_eq_some]
        exact ⟨List.getElem?_eq_getElem hi, List.getElem?_eq_getElem hib⟩
      refine ⟨t, _, rfl, SqT.of upd_same, rfl, _, _, rfl, _, _, rfl, rfl, rfl, _, rfl, _, rfl, _, _, rfl, rfl, _, s3 _ _ eD, ?_, same_of (s2.trans s3) hD, ?_⟩
      · rw [List.length_map, List.length_take, sizeLine_eq]
        omega
      · rw [upd_same, take_more hz, List.map_append]
        simp only [List.map_cons, List.map_nil, Int.ofNat_le]
    · rintro H2 ⟨s2, eD⟩
      rw [show as.length = (as.zip bs).length from by rw [List.length_zip, hl, Nat.min_self], List.take_length] at eD
      refine ⟨D, (as.zip bs).map fun p => decide (p.1 ≤ p.2), rfl, SqL.of (by rw [List.map_map]; exact eD), ?_⟩
      have : ((as.zip bs).map fun p => decide (p.1 ≤ p.2)).all id = lbF as bs := by
        unfold lbF
        rw [List.all_map]
        rfl
      rw [this]
      exact k H2 s2
def spRR : Sp := fun vs H Q _ => ∃ n : Nat, vs = [.int (n : Nat)] ∧ n < 5 ∧ ∀ H' v, Same H H' → Ls H' v (risN n) → Q v H'
abbrev NRR : List Str := ["many", "rows", "_", "low", "high"]
theorem scRR : FnScope NRR ["many"] (defScope sRR) := ⟨rfl, rfl, rfl, by decide +kernel, rfl, by decide +kernel, by decide +kernel⟩
def inR (L : List (List Nat)) (a : List Nat) (k : Nat) : List (List Nat) := ((L.take k).filter fun b => lbF a b).map fun b => a ++ b
theorem inR_succ {L : List (List Nat)} {a b : List Nat} {k : Nat} (h : L[k]? = some b) : inR L a (k + 1) = inR L a k ++ (if lbF a b = true then [a ++ b] else []) := by
  unfold inR
  rw [take_more h, List.filter_append, List.map_append, List.filter_cons]
  split <;> rfl
theorem inR_len (L : List (List Nat)) (a : List Nat) (k : Nat) : (inR L a k).length ≤ L.length := by
  unfold inR
  rw [List.length_map]
  exact Nat.le_trans (List.length_filter_le _ _) (by rw [List.length_take]; omega)
theorem ok_rr {f fL : Addr} {fd fdL : FuncData} (F : Fun K "rising_rows" "rising_rows" sRR f fd) (Z : Bi mg) (FL : At K mg "lies_below" sLB fL fdL ["one", "other"]) : FnOk P w K mg base CX0 2 f fd ["many"] spRR := by
  have GL : FnOk P w K mg base CX0 1 fL fdL ["one", "other"] spLB := ok_lb FL.F Z
  refine F.ok scRR (fun vs H Q E h => ?_) (fun cdv A outer sh H vs Q E hr h => ?_)
  · obtain ⟨n, rfl, _⟩ := h
    rfl
  · obtain ⟨n, rfl, h5, k⟩ := h
    refine ⟨_, pss_cons (ps_set (i := 1) scRR.nd rfl (Or.inr rfl) (pe_lst (by exact (pa_cons (pe_tup (by exact (pa_cons pe_int pa_nil))) (pa_cons (pe_tup (by exact (pa_cons pe_int pa_nil))) pa_nil)))))
      (pss_cons (ps_for PassesOwn.never rfl (pi_range1 rfl Z.range (pa_cons (pv 0) pa_nil)) (pg_name (i := 2) scRR.nd rfl (Or.inl rfl))
        (pss_one (ps_set (i := 1) scRR.nd rfl (Or.inr rfl) (pe_lc2 (own := [("low", 3), ("high", 4)]) (vs1 := [4]) (g := gName 3) (tt := tYes) (g1 := gName 4) (tt1 := tB (tCall spLB [] E0 (tCons (tVar 3) (tCons (tVar 4) tNil)))) (wi1 := iList K (tVar 1)) (te := tOp (rCatT K) (tVar 3) (tVar 4)) rfl scRR.nd (pi_list (pv 1)) (blkOk_by (N := NRR) (sc := defScope sRR) (by decide +kernel)) (by decide)
          (fun _ _ _ _ _ => pg_name (i := 3) scRR.nd rfl (Or.inl rfl)) (fun _ _ _ _ _ => pts_nil) (fun _ _ _ _ _ => pi_list (pv 1)) (fun _ _ _ _ _ => pg_name (i := 4) scRR.nd rfl (Or.inl rfl))
          (fun _ _ _ _ _ => pts_one (pt_val (pe_call GL hr (by rfl) FL.g FL.F.kp FL.b .nil pass0 (by exact (pa_cons (pv 3) (pa_cons (pv 4) pa_nil)))))) (fun _ _ _ _ _ => pe_op op_catT (pv 3) (pv 4))))))
      (pss_one (ps_ret (pv 1)))), ?_⟩
    refine ⟨(by show 1 ≤ sizeLine; decide), fun t0 h0 => ⟨(by show 1 ≤ sizeLine; decide), fun t1 h1 => ⟨(by show 2 ≤ sizeLine; decide), fun l hl => ?_⟩⟩⟩
    have s0 := ((same_new (o := .tup [V.int 0]) h0).trans (same_new (o := .tup [V.int 1]) h1)).trans (same_new (o := .lst [.ref t0, .ref t1]) hl)
    have L0 : Ls (upd (upd (upd H t0 (.tup [V.int 0])) t1 (.tup [V.int 1])) l (.lst [.ref t0, .ref t1])) (.ref l) (risN 0) :=
      ⟨l, _, rfl, upd_same, TnL.cons ⟨t0, rfl, (same_new hl) _ _ ((same_new h1) _ _ upd_same)⟩ (TnL.cons ⟨t1, rfl, (same_new hl) _ _ upd_same⟩ TnL.nil)⟩
    generalize upd (upd (upd H t0 (.tup [V.int 0])) t1 (.tup [V.int 1])) l (.lst [.ref t0, .ref t1]) = H0 at s0 L0
    refine ⟨_, rfl, n, rfl, by omega, by omega, ?_⟩
    have e0 : ((n : Int)).toNat = n := by omega
    rw [e0]
    refine for_range (n := n) (fun i σ H' => ∃ (v : V) (u : Option V), σ = [some (.int (n : Nat)), some v, u, none, none] ∧ Same H H' ∧ Ls H' v (risN i)) ⟨_, none, rfl, s0, L0⟩ ?_ ?_
    · rintro i σ H1 hi ⟨v, u, rfl, s1, a, vs, rfl, ea, tl⟩
      obtain ⟨few, shp⟩ := ris_len i (by omega)
      generalize hL : risN i = L at *
      have lv := tl.1
      refine ⟨_, rfl, a, rfl, ⟨_, SqL.of ea⟩, fun D hD => walk_it walk_list (fun j H2 => Same H1 H2 ∧ ∃ acc, H2 D = some (.lst acc) ∧ TnL H2 acc ((L.take j).flatMap fun x => inR L x L.length)) ⟨same_new hD, [], upd_same, TnL.nil⟩ (fun _ _ _ p => SqL.of (p.1 _ _ ea)) ?_ ?_⟩
      · rintro j x _ H2 hj ⟨s2, acc, eD, ta⟩ ⟨rfl, hx⟩
        obtain ⟨x', hx', htx⟩ := tl.at hx
        refine ⟨rfl, _, rfl, a, rfl, ⟨_, SqL.of (s2 _ _ ea)⟩, walk_it walk_list (fun k H3 => Same H1 H3 ∧ ∃ acc, H3 D = some (.lst acc) ∧ TnL H3 acc (((L.take j).flatMap fun x => inR L x L.length) ++ inR L x' k)) ⟨s2, acc, eD, by simpa [inR] using ta⟩ (fun _ _ _ p => SqL.of (p.1 _ _ ea)) ?_ ?_⟩
        · rintro k' z _ H3 hk ⟨s3, acc3, eD3, ta3⟩ ⟨rfl, hz⟩
          obtain ⟨z', hz', htz⟩ := tl.at hz
          have l1 := (shp _ (List.mem_of_getElem? hx')).1
          have l2 := (shp _ (List.mem_of_getElem? hz')).1
          have p4 : 2 ^ i ≤ 2 ^ 4 := Nat.pow_le_pow_right (by decide) (by omega)
          refine ⟨rfl, _, rfl, _, rfl, x, z, x', z', rfl, htx.same s3, htz.same s3, by omega, by omega, fun H4 s4 => ⟨_, rfl, ?_⟩⟩
          have s04 := s3.trans s4
          by_cases hb : lbF x' z' = true
          · obtain ⟨ax, rfl, ex⟩ := htx.same s04
            obtain ⟨az, rfl, ez⟩ := htz.same s04
            refine go_t hb ⟨_, rfl, _, rfl, ax, az, _, _, rfl, rfl, SqT.of ex, SqT.of ez, ?_, ?_, ?_, ?_⟩
            · intro q
              have := congrArg List.length q
              rw [List.length_map, l1] at this
              have h2 := Nat.pow_pos (n := i) (show 0 < 2 by decide)
              rw [List.length_nil] at this
              omega
            · rw [List.length_map, List.length_map, sizeLine_eq]
              omega
            · intro q
              have := congrArg List.length q
              rw [List.length_map, l2] at this
              have h2 := Nat.pow_pos (n := i) (show 0 < 2 by decide)
              rw [List.length_nil] at this
              omega
            · intro _ p hp
              have eD4 := s4 _ _ eD3
              have np : D ≠ p := ne_of_none eD4 hp
              have eD5 := same_new (o := .tup (x'.map nV ++ z'.map nV)) hp _ _ eD4
              have len := (ta3.same (s4.trans (same_new (o := .tup (x'.map nV ++ z'.map nV)) hp))).1
              refine ⟨_, eD5, ?_, same_of (s04.trans (same_new hp)) hD, _, upd_same, ?_⟩
              · rw [len, List.length_append, sizeLine_eq]
                have q1 := flat_len (f := fun x => inR L x L.length) (m := L.length) (fun r => inR_len L r _) (L.take j)
                have q2 := inR_len L x' k'
                rw [List.length_take] at q1
                have q3 : L.length * min j L.length ≤ 168 * 168 := Nat.mul_le_mul few (by omega)
                omega
              · rw [inR_succ hz', if_pos hb, ← List.append_assoc]
                refine ((ta3.same (s4.trans (same_new hp))).snoc ⟨p, rfl, ?_⟩).upd eD5
                rw [upd_same, List.map_append]
          · refine go_f (by simpa using hb) ⟨s04, acc3, s4 _ _ eD3, ?_⟩
            rw [inR_succ hz', if_neg hb, List.append_nil]
            exact ta3.same s4
        · rintro H3 ⟨s3, acc3, eD3, ta3⟩
          refine ⟨s3, acc3, eD3, ?_⟩
          rw [take_more hx', List.flatMap_append]
          rw [lv] at ta3
          simpa using ta3
      · rintro H2 ⟨s2, acc, eD, ta⟩
        rw [lv, List.take_length] at ta
        refine ⟨.ref D, _, rfl, s1.trans s2, D, acc, rfl, eD, ?_⟩
        show TnL H2 acc (stepR (risN i))
        rw [hL]
        have : stepR L = L.flatMap fun x => inR L x L.length := by
          unfold stepR inR
          rw [List.take_length]
        rw [this]
        exact ta
    · rintro σ H1 ⟨v, u, rfl, s1, l1⟩
      exact ⟨_, rfl, k H1 v s1 l1⟩
end
end K40
/-! A walk over zip(..) with one name for the pair: the last pair may still be held, and then the next one is made apart. -/
namespace SQ
open PySem PySem.Spec PyProof.Rows L2
abbrev ZipAt (h : Heap) (z TI TO : Addr) (f0 : Value) (f1 : Bool) : Prop := h.get? z = some { cls := .type "zip", dict := none, data := .fields #[f0, .bool f1, .bool false, .ref TI, .ref TO], slots := #[] }
def OutOk (f0 : Value) : Prop := f0 = .none ∨ ∃ a : Addr, f0 = rawInt a
section
variable {prog : Program} {w : World} {A : Around} {E : Value → Shared → Prop} {s : Shared} {z TI TO i1 i2 : Addr} {fp1 fp2 : List Addr} {n1 n2 i : Nat} {P1 P2 : Nat → Value → Prop} {St1 St2 : Nat → Heap → Prop} {u1 u2 f0 : Value} {f1 : Bool}
theorem alive_any {a : Addr} {Q : Option Obj → Shared → Prop} (there : Q (s.heap.get? a) s) : wpAny (model prog w) A (loadIfAlive a) Q E s := fun _ _ _ => there
theorem out_free {Q : Bool → Shared → Prop} (hZ : ZipAt s.heap z TI TO f0 f1) (ok : OutOk f0) (kq : ∀ b g f, ZipAt g z TI TO f0 f → Heap.SameBut z s.heap g → Q b { s with heap := g }) :
    wpAny (model prog w) A (Builtin.SmallTypes.ownedTupleIsFree (.ref z)) Q E s := by
  unfold Builtin.SmallTypes.ownedTupleIsFree
  rcases ok with e | ⟨a, e⟩
  · subst e
    exact wpAny_bind (wpAny_field hZ rfl (x := .none) rfl (wpAny_pure (kq true s.heap f1 hZ (Heap.SameBut.refl _ _))))
  · subst e
    refine wpAny_bind (wpAny_field hZ rfl (x := rawInt a) rfl ((?_ : wpAny (model prog w) A (loadIfAlive ((a : Int).toNat) >>= _) Q E s)))
    rw [Int.toNat_natCast]
    refine wpAny_bind (alive_any ?_)
    cases hA : s.heap.get? a with
    | none => exact wpAny_pure (kq true s.heap f1 hZ (Heap.SameBut.refl _ _))
    | some oa =>
      refine wpAny_bind (wpAny_field hZ rfl (x := .bool f1) rfl ?_)
      cases f1
      · exact wpAny_bind (wpAny_setField_rec hZ (by simp) fun g hg sg => wpAny_pure (kq false g true hg sg))
      · exact wpAny_pure (kq false s.heap true hZ (Heap.SameBut.refl _ _))
/-- the next pair -/
theorem nxt_item {Q : Value → Shared → Prop} (S : ZipSep2 z TI TO i1 i2 fp1 fp2) (D1 : Draws prog w A i1 fp1 n1 P1 St1) (D2 : Draws prog w A i2 fp2 n2 P2 St2) (hZ : ZipAt s.heap z TI TO f0 f1) (ok : OutOk f0) (hI : IsTupOf2 s.heap TI (.ref i1) (.ref i2)) (hO : IsTupOf2 s.heap TO u1 u2)
    (a1 : St1 i s.heap) (a2 : St2 i s.heap) (l1 : i < n1) (l2 : i < n2)
    (kq : ∀ x1 x2 g tk f0 f1, P1 i x1 → P2 i x2 → ZipAt g z TI TO f0 f1 → OutOk f0 → IsTupOf2 g TI (.ref i1) (.ref i2) → (∃ v1 v2, IsTupOf2 g TO v1 v2) → St1 (i + 1) g → St2 (i + 1) g → IsTupOf2 g s.heap.objs.size x1 x2 →
      (∀ c o, c ≠ z → c ≠ TO → c ≠ i1 → c ≠ i2 → s.heap.get? c = some o → g.get? c = some o) → Q (.ref s.heap.objs.size) { s with heap := g, toks := tk }) :
    wpAny (model prog w) A (Builtin.«zip.__next__» ⟨[.ref z], []⟩) (fun fin t => ∃ v, fin = .done (.ret v) ∧ Q v t) E s := by
  obtain ⟨h0, gn, dr, t0, os⟩ := s
  refine wpAny_bind (m := field (.ref z) 2) (wpAny_field hZ rfl (x := .bool false) rfl (wpAny_bind (m := field (.ref z) 3) (wpAny_field hZ rfl (x := .ref TI) rfl (wpAny_bind (wpAny_seqItems hI rfl ?_)))))
  refine wpAny_bind (m := Builtin.SmallTypes.ownedTupleIsFree (.ref z)) (out_free hZ ok fun b g f gZ sg => ?_)
  have gO : IsTupOf2 g TO u1 u2 := sg.extBut _ _ S.TOz hO
  have gI : IsTupOf2 g TI (.ref i1) (.ref i2) := sg.extBut _ _ S.TIz hI
  have b1 := D1.over a1 sg S.zf1
  have b2 := D2.over a2 sg S.zf2
  have sz : g.objs.size = h0.objs.size := sg.1
  have kg : ∀ c o, c ≠ z → h0.get? c = some o → g.get? c = some o := fun c o cz e => sg.extBut _ _ cz e
  clear hZ hI hO a1 a2
  cases b
  · -- the last one is held: a pair of its own
    simp only [Bool.false_eq_true, if_false]
    refine wpAny_bind ?_
    rw [← Array.forIn_toList]
    simp only [List.forIn_cons, List.forIn_nil]
    refine wpAny_bind (wpAny_bind (wpAny_holding (wpAny_bind (m := Builtin.SmallTypes.nextOf (.ref i1)) (D1.item i ⟨g, gn, dr, t0, os⟩ _ _ l1 b1 fun x1 p tk1 y1 c1 sp => wpAny_pure (wpAny_pure ?_)))))
    replace sp : Heap.SameBut i1 g p := sp
    refine wpAny_bind (wpAny_bind (wpAny_holding (wpAny_bind (m := Builtin.SmallTypes.nextOf (.ref i2)) (D2.item i ⟨p, gn, dr, tk1, os⟩ _ _ l2 (D2.over b2 sp S.sep1_2) fun x2 q tk2 y2 c2 sq => wpAny_pure (wpAny_pure (wpAny_pure ?_))))))
    replace sq : Heap.SameBut i2 p q := sq
    refine wpAny_bind (m := newTuple [x1, x2]) (wpAny_newTuple (wpAny_pure ⟨_, rfl, ?_⟩))
    have szq : q.objs.size = h0.objs.size := by rw [sq.1, sp.1, sz]
    have up : ∀ c o, q.get? c = some o → (q.push { cls := .type "tuple", data := .seq #[x1, x2] }).get? c = some o := fun c o e => Heap.get?_push_of_some _ e
    have top : IsTupOf2 (q.push { cls := .type "tuple", data := .seq #[x1, x2] }) h0.objs.size x1 x2 := by
      rw [← szq]
      exact Heap.get?_push_size _ rfl
    have two : ∀ c o, c ≠ i1 → c ≠ i2 → g.get? c = some o → q.get? c = some o := fun c o c1 c2 e => sq.extBut _ _ c2 (sp.extBut _ _ c1 e)
    show Q (.ref q.objs.size) ⟨q.push { cls := .type "tuple", data := .seq #[x1, x2] }, gn, dr, tk2, os⟩
    rw [szq]
    exact kq x1 x2 _ tk2 f0 f y1 y2 (up _ _ (two _ _ S.zi1 S.zi2 gZ)) ok (up _ _ (two _ _ S.TIi1 S.TIi2 gI)) ⟨u1, u2, up _ _ (two _ _ S.Ti1 S.Ti2 gO)⟩ (D1.frame _ _ _ (D1.over c1 sq S.sep2_1) fun c _ o e => up c o e) (D2.frame _ _ _ c2 fun c _ o e => up c o e) top
      fun c o cz cT k1 k2 e => up _ _ (two _ _ k1 k2 (kg _ _ cz e))
  · -- the zip's own pair is filled anew
    simp only [if_true]
    refine wpAny_bind (wpAny_rule (wpAny_bind (wpAny_field gZ rfl (x := .ref TO) rfl (wpAny_bind (wpAny_setField_rec gZ (by simp) fun g0 hZ0 sg0 => ?_)))))
    replace hZ0 : ZipAt g0 z TI TO .ellipsis f := hZ0
    replace sg0 : Heap.SameBut z g g0 := sg0
    refine wpAny_bind ?_
    simp only [List.zipIdx_cons, List.zipIdx_nil, List.forIn_cons, List.forIn_nil]
    refine wpAny_bind (wpAny_bind (wpAny_onRaise (wpAny_bind (m := Builtin.SmallTypes.nextOf (.ref i1)) (D1.item i ⟨g0, gn, dr, t0, os⟩ _ _ l1 (D1.over b1 sg0 S.zf1) fun x1 p tk1 y1 c1 sp => wpAny_pure ?_))))
    replace sp : Heap.SameBut i1 g0 p := sp
    have pO : IsTupOf2 p TO u1 u2 := sp.extBut _ _ S.Ti1 (sg0.extBut _ _ S.TOz gO)
    refine wpAny_bind (wpAny_seqItems (s := ⟨p, gn, dr, tk1, os⟩) pO rfl (wpAny_bind (updateSeq_IsTupOf2 (s := ⟨p, gn, dr, tk1, os⟩) pO fun p' pO' sp' => ?_)))
    replace pO' : IsTupOf2 p' TO x1 u2 := pO'
    replace sp' : Heap.SameBut TO p p' := sp'
    refine wpAny_bind (wpAny_letGo (wpAny_pure (wpAny_bind (wpAny_bind (wpAny_onRaise ((?_ : wpAny (model prog w) A (Builtin.SmallTypes.nextOf (.ref i2) >>= _) _ _ ⟨p', gn, dr, tk1, os⟩)))))))
    refine wpAny_bind (D2.item i ⟨p', gn, dr, tk1, os⟩ _ _ l2 (D2.over (D2.over (D2.over b2 sg0 S.zf2) sp S.sep1_2) sp' S.Tf2) fun x2 q tk2 y2 c2 sq => wpAny_pure ?_)
    replace sq : Heap.SameBut i2 p' q := sq
    have qO : IsTupOf2 q TO x1 u2 := sq.extBut _ _ S.Ti2 pO'
    refine wpAny_bind (wpAny_seqItems (s := ⟨q, gn, dr, tk2, os⟩) qO rfl (wpAny_bind (updateSeq_IsTupOf2 (s := ⟨q, gn, dr, tk2, os⟩) qO fun q' qO' sq' => ?_)))
    replace qO' : IsTupOf2 q' TO x1 x2 := qO'
    replace sq' : Heap.SameBut TO q q' := sq'
    refine wpAny_bind (wpAny_letGo (wpAny_pure (wpAny_pure (wpAny_bind (wpAny_seqItems (s := ⟨q', gn, dr, tk2, os⟩) qO' rfl (wpAny_bind (wpAny_newTuple ?_)))))))
    have szq : q'.objs.size = h0.objs.size := by rw [sq'.1, sq.1, sp'.1, sp.1, sg0.1, sz]
    have all : ∀ c o, c ≠ z → c ≠ TO → c ≠ i1 → c ≠ i2 → g.get? c = some o → q'.get? c = some o := fun c o cz cT k1 k2 e => sq'.extBut _ _ cT (sq.extBut _ _ k2 (sp'.extBut _ _ cT (sp.extBut _ _ k1 (sg0.extBut _ _ cz e))))
    have qZ : ZipAt q' z TI TO .ellipsis f := sq'.extBut _ _ S.TOz.symm (sq.extBut _ _ S.zi2 (sp'.extBut _ _ S.TOz.symm (sp.extBut _ _ S.zi1 hZ0)))
    have e1 : St1 (i + 1) q' := D1.over (D1.over (D1.over c1 sp' S.Tf1) sq S.sep2_1) sq' S.Tf1
    have e2 : St2 (i + 1) q' := D2.over c2 sq' S.Tf2
    have zlt : z < q'.objs.size := Heap.lt_size qZ
    refine wpAny_bind (m := Builtin.SmallTypes.ownedTupleHandOut (.ref z) (.ref q'.objs.size)) ?_
    unfold Builtin.SmallTypes.ownedTupleHandOut
    have qZ1 : ZipAt (q'.push { cls := .type "tuple", data := .seq #[x1, x2] }) z TI TO .ellipsis f := Heap.get?_push_of_some _ qZ
    refine wpAny_bind (wpAny_setField_rec qZ1 (by simp) fun r1 rZ1 sr1 => ?_)
    replace rZ1 : ZipAt r1 z TI TO (rawInt q'.objs.size) f := rZ1
    refine wpAny_setField_rec rZ1 (by simp) fun r2 rZ2 sr2 => wpAny_pure ⟨_, rfl, ?_⟩
    replace rZ2 : ZipAt r2 z TI TO (rawInt q'.objs.size) false := rZ2
    replace sr1 : Heap.SameBut z (q'.push { cls := .type "tuple", data := .seq #[x1, x2] }) r1 := sr1
    replace sr2 : Heap.SameBut z r1 r2 := sr2
    have up : ∀ c o, c ≠ z → q'.get? c = some o → r2.get? c = some o := fun c o cz e => sr2.extBut _ _ cz (sr1.extBut _ _ cz (Heap.get?_push_of_some _ e))
    have top : IsTupOf2 r2 q'.objs.size x1 x2 := sr2.extBut _ _ (Nat.ne_of_gt zlt) (sr1.extBut _ _ (Nat.ne_of_gt zlt) (Heap.get?_push_size _ rfl))
    show Q (.ref q'.objs.size) ⟨r2, gn, dr, tk2, os⟩
    rw [szq] at top rZ2 ⊢
    exact kq x1 x2 r2 tk2 _ false y1 y2 rZ2 (.inr ⟨_, rfl⟩) (up _ _ S.TIz (all _ _ S.TIz S.TITO S.TIi1 S.TIi2 gI)) ⟨x1, x2, up _ _ S.TOz qO'⟩ (D1.frame _ _ _ e1 fun c hc o e => up c o (fun x => S.zf1 (x ▸ hc)) e) (D2.frame _ _ _ e2 fun c hc o e => up c o (fun x => S.zf2 (x ▸ hc)) e) top
      fun c o cz cT k1 k2 e => up c o cz (all c o cz cT k1 k2 (kg _ _ cz e))
/-- no pair is left -/
theorem nxt_end {Q : Fin → Shared → Prop} (S : ZipSep2 z TI TO i1 i2 fp1 fp2) (D1 : Draws prog w A i1 fp1 n1 P1 St1) (D2 : Draws prog w A i2 fp2 n2 P2 St2) (hZ : ZipAt s.heap z TI TO f0 f1) (ok : OutOk f0) (hI : IsTupOf2 s.heap TI (.ref i1) (.ref i2)) (hO : IsTupOf2 s.heap TO u1 u2)
    (a1 : St1 i s.heap) (a2 : St2 i s.heap) (l1 : i ≤ n1) (l2 : i ≤ n2) (le : i = n1 ∨ i = n2)
    (kq : ∀ g tk e, (∀ c o, c ≠ z → c ≠ TO → c ≠ i1 → c ≠ i2 → s.heap.get? c = some o → g.get? c = some o) → (∃ o, g.get? e = some o ∧ o.cls = .type "StopIteration") → E (.ref e) { s with heap := g, toks := tk }) :
    wpAny (model prog w) A (Builtin.«zip.__next__» ⟨[.ref z], []⟩) Q E s := by
  obtain ⟨h0, gn, dr, t0, os⟩ := s
  refine wpAny_bind (m := field (.ref z) 2) (wpAny_field hZ rfl (x := .bool false) rfl (wpAny_bind (m := field (.ref z) 3) (wpAny_field hZ rfl (x := .ref TI) rfl (wpAny_bind (wpAny_seqItems hI rfl ?_)))))
  refine wpAny_bind (m := Builtin.SmallTypes.ownedTupleIsFree (.ref z)) (out_free hZ ok fun b g f gZ sg => ?_)
  have gO : IsTupOf2 g TO u1 u2 := sg.extBut _ _ S.TOz hO
  have b1 := D1.over a1 sg S.zf1
  have b2 := D2.over a2 sg S.zf2
  have kg : ∀ c o, c ≠ z → h0.get? c = some o → g.get? c = some o := fun c o cz e => sg.extBut _ _ cz e
  clear hZ hI hO a1 a2
  cases b
  · simp only [Bool.false_eq_true, if_false]
    refine wpAny_bind ?_
    rw [← Array.forIn_toList]
    simp only [List.forIn_cons, List.forIn_nil]
    by_cases m1 : i < n1
    · obtain rfl : i = n2 := by omega
      refine wpAny_bind (wpAny_bind (wpAny_holding (wpAny_bind (m := Builtin.SmallTypes.nextOf (.ref i1)) (D1.item i ⟨g, gn, dr, t0, os⟩ _ _ m1 b1 fun x1 p tk1 y1 c1 sp => wpAny_pure (wpAny_pure ?_)))))
      replace sp : Heap.SameBut i1 g p := sp
      refine wpAny_bind (wpAny_bind (wpAny_holding (wpAny_bind (m := Builtin.SmallTypes.nextOf (.ref i2)) (D2.done ⟨p, gn, dr, tk1, os⟩ _ _ (D2.over b2 sp S.sep1_2) fun q e sq he => ?_))))
      replace sq : Heap.ExtBut i2 p q := sq
      exact kq q tk1 e (fun c o cz _ k1 k2 x => sq _ _ k2 (sp.extBut _ _ k1 (kg _ _ cz x))) he
    · obtain rfl : i = n1 := by omega
      refine wpAny_bind (wpAny_bind (wpAny_holding (wpAny_bind (m := Builtin.SmallTypes.nextOf (.ref i1)) (D1.done ⟨g, gn, dr, t0, os⟩ _ _ b1 fun q e sq he => ?_))))
      replace sq : Heap.ExtBut i1 g q := sq
      exact kq q t0 e (fun c o cz _ k1 k2 x => sq _ _ k1 (kg _ _ cz x)) he
  · simp only [if_true]
    refine wpAny_bind (wpAny_rule (wpAny_bind (wpAny_field gZ rfl (x := .ref TO) rfl (wpAny_bind (wpAny_setField_rec gZ (by simp) fun g0 hZ0 sg0 => ?_)))))
    replace hZ0 : ZipAt g0 z TI TO .ellipsis f := hZ0
    replace sg0 : Heap.SameBut z g g0 := sg0
    refine wpAny_bind ?_
    simp only [List.zipIdx_cons, List.zipIdx_nil, List.forIn_cons, List.forIn_nil]
    have back : ∀ (q : Heap) (tk : Nat) (e : Addr), ZipAt q z TI TO .ellipsis f → (∀ c o, c ≠ z → c ≠ TO → c ≠ i1 → c ≠ i2 → h0.get? c = some o → q.get? c = some o) → (∃ o, q.get? e = some o ∧ o.cls = .type "StopIteration") →
        wpAny (model prog w) A (setField (.ref z) 0 .none) (fun _ t => E (.ref e) t) E ⟨q, gn, dr, tk, os⟩ := fun q tk e qZ kk ⟨oe, he, ce⟩ => by
      have ez : e ≠ z := fun x => by
        subst x
        rw [qZ] at he
        cases he
        simp at ce
      refine wpAny_setField_rec (s := ⟨q, gn, dr, tk, os⟩) qZ (by simp) fun r _ sr => ?_
      replace sr : Heap.SameBut z q r := sr
      exact kq r tk e (fun c o cz cT k1 k2 x => sr.extBut _ _ cz (kk c o cz cT k1 k2 x)) ⟨oe, sr.extBut _ _ ez he, ce⟩
    by_cases m1 : i < n1
    · obtain rfl : i = n2 := by omega
      refine wpAny_bind (wpAny_bind (wpAny_onRaise (wpAny_bind (m := Builtin.SmallTypes.nextOf (.ref i1)) (D1.item i ⟨g0, gn, dr, t0, os⟩ _ _ m1 (D1.over b1 sg0 S.zf1) fun x1 p tk1 y1 c1 sp => wpAny_pure ?_))))
      replace sp : Heap.SameBut i1 g0 p := sp
      have pO : IsTupOf2 p TO u1 u2 := sp.extBut _ _ S.Ti1 (sg0.extBut _ _ S.TOz gO)
      refine wpAny_bind (wpAny_seqItems (s := ⟨p, gn, dr, tk1, os⟩) pO rfl (wpAny_bind (updateSeq_IsTupOf2 (s := ⟨p, gn, dr, tk1, os⟩) pO fun p' pO' sp' => ?_)))
      replace sp' : Heap.SameBut TO p p' := sp'
      refine wpAny_bind (wpAny_letGo (wpAny_pure (wpAny_bind (wpAny_bind (wpAny_onRaise ((?_ : wpAny (model prog w) A (Builtin.SmallTypes.nextOf (.ref i2) >>= _) _ _ ⟨p', gn, dr, tk1, os⟩)))))))
      refine wpAny_bind (D2.done ⟨p', gn, dr, tk1, os⟩ _ _ (D2.over (D2.over (D2.over b2 sg0 S.zf2) sp S.sep1_2) sp' S.Tf2) fun q e sq he => ?_)
      replace sq : Heap.ExtBut i2 p' q := sq
      exact back q tk1 e (sq _ _ S.zi2 (sp'.extBut _ _ S.TOz.symm (sp.extBut _ _ S.zi1 hZ0))) (fun c o cz cT k1 k2 x => sq _ _ k2 (sp'.extBut _ _ cT (sp.extBut _ _ k1 (sg0.extBut _ _ cz (kg _ _ cz x))))) he
    · obtain rfl : i = n1 := by omega
      refine wpAny_bind (wpAny_bind (wpAny_onRaise (wpAny_bind (m := Builtin.SmallTypes.nextOf (.ref i1)) (D1.done ⟨g0, gn, dr, t0, os⟩ _ _ (D1.over b1 sg0 S.zf1) fun q e sq he => ?_))))
      replace sq : Heap.ExtBut i1 g0 q := sq
      exact back q t0 e (sq _ _ S.zi1 hZ0) (fun c o cz cT k1 k2 x => sq _ _ k1 (sg0.extBut _ _ cz (kg _ _ cz x))) he
end
section
variable {prog : Program} {w : World} {A : Around} {z TI TO i1 i2 : Addr} {fp1 fp2 : List Addr} {n1 n2 : Nat} {P1 P2 : Nat → Value → Prop} {St1 St2 : Nat → Heap → Prop}
def ZipSt (z TI TO i1 i2 : Addr) (St1 St2 : Nat → Heap → Prop) (i : Nat) (h : Heap) : Prop := (∃ f0 f1, ZipAt h z TI TO f0 f1 ∧ OutOk f0) ∧ IsTupOf2 h TI (.ref i1) (.ref i2) ∧ (∃ u1 u2, IsTupOf2 h TO u1 u2) ∧ St1 i h ∧ St2 i h
/-- for p in zip(v1, v2): one name -/
theorem goes_zipN {x : Str} {np : Pos} (S : ZipSep2 z TI TO i1 i2 fp1 fp2) (D1 : Draws prog w A.in1 i1 fp1 n1 P1 St1) (D2 : Draws prog w A.in1 i2 fp2 n2 P2 St2) :
    GoesN prog w A (.Name x np) z (z :: TI :: TO :: (fp1 ++ fp2)) [z, TO, i1, i2] (min n1 n2) (fun i h₀ v h => ∃ T x y, v = .ref T ∧ h₀.objs.size ≤ T ∧ P1 i x ∧ P2 i y ∧ h.IsTuple T #[x, y]) (ZipSt z TI TO i1 i2 St1 St2) where
  sub := fun c hc => by
    have e : c = z ∨ c = TO ∨ c = i1 ∨ c = i2 := by simpa using hc
    have := S.mem1
    have := S.mem2
    rcases e with q | q | q | q <;> subst q <;> simp [*]
  frame := fun i h h' st hk => by
    obtain ⟨⟨f0, f1, hZ, ok⟩, hI, ⟨u1, u2, hO⟩, a1, a2⟩ := st
    exact ⟨⟨f0, f1, hk z (by simp) _ hZ, ok⟩, hk TI (by simp) _ hI, ⟨u1, u2, hk TO (by simp) _ hO⟩, D1.frame _ _ _ a1 fun b hb o e => hk b (by simp [hb]) o e, D2.frame _ _ _ a2 fun b hb o e => hk b (by simp [hb]) o e⟩
  goes := fun i s Q E hi st hQ => by
    obtain ⟨⟨f0, f1, hZ, ok⟩, hI, ⟨u1, u2, hO⟩, a1, a2⟩ := st
    have hT : s.TypeIs (.ref z) "zip" := ⟨_, hZ, rfl⟩
    refine wpAny_with_toks (n := s.toks) (Nat.le_refl _) ?_
    unfold pyNext
    refine wpAny_bind (wpAny_attempt (wpAny_callSpecial?_slot (name := Str.ofString "__next__") hT F.slot_zip_next (wpAny_call_entry F.slot_zip_next hT F.entry_zip_next
      (nxt_item S D1 D2 hZ ok hI hO a1 a2 (by omega) (by omega) fun x1 x2 g tk f0 f1 p1 p2 gZ ok' gI gO c1 c2 top kk => wpAny_pure ?_) (F.args_zip_next_1 _))))
    exact fun htk => ⟨_, rfl, wpAny_pure (hQ _ g tk ⟨_, x1, x2, rfl, Nat.le_refl _, p1, p2, ⟨_, top, rfl, 0, rfl⟩⟩ ⟨⟨f0, f1, gZ, ok'⟩, gI, gO, c1, c2⟩ (fun b o hb e => kk b o (fun q => hb (by simp [q])) (fun q => hb (by simp [q])) (fun q => hb (by simp [q])) (fun q => hb (by simp [q])) e) htk)⟩
  stops := fun s Q E st hQ => by
    obtain ⟨⟨f0, f1, hZ, ok⟩, hI, ⟨u1, u2, hO⟩, a1, a2⟩ := st
    have hT : s.TypeIs (.ref z) "zip" := ⟨_, hZ, rfl⟩
    refine wpAny_with_toks (n := s.toks) (Nat.le_refl _) ?_
    unfold pyNext
    refine wpAny_bind (wpAny_attempt (wpAny_callSpecial?_slot (name := Str.ofString "__next__") hT F.slot_zip_next (wpAny_call_entry F.slot_zip_next hT F.entry_zip_next
      (nxt_end S D1 D2 hZ ok hI hO a1 a2 (Nat.min_le_left ..) (Nat.min_le_right ..) (by omega) fun g tk e kk he => ?_) (F.args_zip_next_1 _))))
    obtain ⟨o, ho, hc⟩ := he
    refine wpAny_bind (wpAny_isInstance (T := "StopIteration") (b := true) ⟨o, ho, hc⟩ isSubtype_stop (wpAny_pure ?_))
    exact fun htk => ⟨rfl, hQ g tk (fun b o hb e => kk b o (fun q => hb (by simp [q])) (fun q => hb (by simp [q])) (fun q => hb (by simp [q])) (fun q => hb (by simp [q])) e) htk⟩
  self := fun i s Q E st hq => by
    obtain ⟨⟨f0, f1, hZ, _⟩, _⟩ := st
    have hT : s.TypeIs (.ref z) "zip" := ⟨_, hZ, rfl⟩
    exact wpAny_pyIter_slot hT F.slot_zip_iter (wpAny_call_entry F.slot_zip_iter hT F.entry_zip_iter (show wpAny _ _ (ret (.ref z)) _ _ s from wpAny_pure ⟨_, rfl, "zip", _, hT, F.slot_zip_next.lookup, hq⟩) (F.args_zip_iter_1 _))
end
theorem turn_zipN {P : Program} {w : World} {K : PySem.W.Frag} {nm : Str} {np : Pos} {k k' : Kd} {a b z TI TO i1 i2 : Addr} (S : ZipSep2 z TI TO i1 i2 [i1, a] [i2, b]) (ne1 : a ≠ i1) (ne2 : b ≠ i2) :
    Turn P w K (.Name nm np) (Itz2 K k k' a b) [z, TI, TO, i1, i2] z (ZipSt z TI TO i1 i2 (fun i h => ItK h k i1 a i) (fun i h => ItK h k' i2 b i)) where
  mem := by simp
  obj := fun i h st c hc => by
    obtain ⟨⟨f0, f1, hz, ok⟩, hTI, ⟨x, y, hTO⟩, h1, h2⟩ := st
    have e' : c = z ∨ c = TI ∨ c = TO ∨ c = i1 ∨ c = i2 := by simpa using hc
    rcases e' with q | q | q | q | q
    · subst q
      exact ⟨_, hz, fun v q => nomatch q⟩
    · subst q
      exact ⟨_, hTI, fun v q => nomatch q⟩
    · subst q
      exact ⟨_, hTO, fun v q => nomatch q⟩
    · subst q
      exact it_obj h1
    · subst q
      exact it_obj h2
  keep := fun i h h' st kp => by
    obtain ⟨⟨f0, f1, hz, ok⟩, hTI, ⟨x, y, hTO⟩, h1, h2⟩ := st
    exact ⟨⟨f0, f1, kp z (by simp) _ hz, ok⟩, kp TI (by simp) _ hTI, ⟨x, y, kp TO (by simp) _ hTO⟩, it_keep (kp i1 (by simp)) h1, it_keep (kp i2 (by simp)) h2⟩
  item := by
    intro X hP hw hK hc i pins s σ H E I hf st hg
    subst hP hw hK
    obtain ⟨⟨f0, f1, hz, ok⟩, hTI, hTO, h1, h2⟩ := st
    obtain ⟨xs, ys, x, y, qx, qy, hx, hy⟩ := hg
    obtain ⟨its, rv, p, _⟩ := there I qx
    obtain ⟨its2, rv2, p2, _⟩ := there I qy
    obtain ⟨u, hu, ru⟩ := rv.get hx
    obtain ⟨u2, hu2, ru2⟩ := rv2.get hy
    have hh : X.A.in1.handled = none := I.ok.hd hc
    have G := goes_zipN (prog := X.prog) (w := X.w) (A := X.A) (x := nm) (np := np) S (draws hh i1 a ne1 its.toArray k) (draws hh i2 b ne2 its2.toArray k')
    have sm : ∀ c ∈ [z, TI, TO, i1, i2], c < s.heap.objs.size := fun c hc' => by
      have e' : c = z ∨ c = TI ∨ c = TO ∨ c = i1 ∨ c = i2 := by simpa using hc'
      rcases e' with q | q | q | q | q
      · subst q
        exact Heap.lt_size hz
      · subst q
        exact Heap.lt_size hTI
      · subst q
        obtain ⟨_, _, e⟩ := hTO
        exact Heap.lt_size e
      · subst q
        obtain ⟨_, e, _⟩ := it_obj h1
        exact Heap.lt_size e
      · subst q
        obtain ⟨_, e, _⟩ := it_obj h2
        exact Heap.lt_size e
    have l1 : i < its.length := (List.getElem?_eq_some_iff.mp hu).1
    have l2 : i < its2.length := (List.getElem?_eq_some_iff.mp hu2).1
    refine G.goes i s (fun u s2 => ∃ x H', Inv X pins σ H' s2 ∧ RelV x u ∧ (Itz2 X.K k k' a b).yld i H x H' ∧ ZipSt z TI TO i1 i2 (fun i h => ItK h k i1 a i) (fun i h => ItK h k' i2 b i) (i + 1) s2.heap ∧ ∀ b ∈ [z, TI, TO, i1, i2], H' b = none) E
      (by simp; omega) ⟨⟨f0, f1, hz, ok⟩, hTI, hTO, ⟨h1, p⟩, h2, p2⟩ fun v h' tk hY st' keep _ => ?_
    obtain ⟨T, x', y', rfl, hT, ex, ey, hnew⟩ := hY
    have ex' : its[i]? = some x' := by simpa using ex
    have ey' : its2[i]? = some y' := by simpa using ey
    rw [hu] at ex'
    rw [hu2] at ey'
    cases ex'
    cases ey'
    have new : ObjOk X.prog X.w (upd H T (.tup [x, y])) h' T (.tup [x, y]) := ⟨by show 2 ≤ sizeLine; decide, [u, u2], .cons ru (.cons ru2 .nil), hnew⟩
    have I1 : Inv X pins σ (upd H T (.tup [x, y])) { s with heap := h', toks := tk } := I.turnedNew (t' := tk) (ch := [z, TO, i1, i2]) keep (fun c hc' => hf c (by simp at hc' ⊢; rcases hc' with q | q | q | q <;> simp [q])) hT new
    obtain ⟨g1, g2, g3, g4, g5⟩ := st'
    refine ⟨.ref T, _, I1, rfl, ⟨T, x, y, rfl, I.hok.fresh hT, rfl, fun l hl => by rw [one I hl qx]; exact hx, fun l hl => by rw [one I hl qy]; exact hy⟩, ⟨g1, g2, g3, g4.1, g5.1⟩, fun c hc' => ?_⟩
    rw [upd_ne (Nat.ne_of_lt (Nat.lt_of_lt_of_le (sm c hc') hT))]
    exact (hf c hc').1
  done := by
    intro X hP hw hK hc i pins s σ H E I hf st hg
    subst hP hw hK
    obtain ⟨⟨f0, f1, hz, ok⟩, hTI, hTO, h1, h2⟩ := st
    obtain ⟨xs, ys, qx, qy, hn⟩ := hg
    obtain ⟨its, rv, p, _⟩ := there I qx
    obtain ⟨its2, rv2, p2, _⟩ := there I qy
    have hh : X.A.in1.handled = none := I.ok.hd hc
    have G := goes_zipN (prog := X.prog) (w := X.w) (A := X.A) (x := nm) (np := np) S (draws hh i1 a ne1 its.toArray k) (draws hh i2 b ne2 its2.toArray k')
    have en : i = min its.toArray.size its2.toArray.size := by
      rw [hn, rv.length, rv2.length]
      simp
    subst en
    exact G.stops s (fun s1 => Inv X pins σ H s1) E ⟨⟨f0, f1, hz, ok⟩, hTI, hTO, ⟨h1, p⟩, h2, p2⟩ fun h' tk keep _ =>
      I.turnedL (t' := tk) (ch := [z, TO, i1, i2]) keep (fun c hc' => hf c (by simp at hc' ⊢; rcases hc' with q | q | q | q <;> simp [q]))
  self := fun A i s Q E st hq => by
    obtain ⟨⟨f0, f1, hZ, _⟩, _⟩ := st
    have hT : s.TypeIs (.ref z) "zip" := ⟨_, hZ, rfl⟩
    exact wpAny_pyIter_slot hT F.slot_zip_iter (wpAny_call_entry F.slot_zip_iter hT F.entry_zip_iter (show wpAny _ _ (ret (.ref z)) _ _ s from wpAny_pure ⟨_, rfl, "zip", _, hT, F.slot_zip_next.lookup, hq⟩) (F.args_zip_iter_1 _))
theorem pi_zipN {X : Cx} {e e2 : Expr} {ta : TA} {p pos np : Pos} {nm : Str} (hg : Gl X "zip") (hm : X.mg "zip" = none) (ha : PA X [e, e2] ta)
    (hs : starEach [e, e2] X.env = (false, eval e X.env) :: starEach [e2] X.env := by rfl) (hpl : (backTo pos (starEach [e2] X.env)).any (·.1) = false := by rfl) :
    PI X (.Name nm np) (.Call (.Name "zip" p) [e, e2] [] pos) (iZip2 X.K ta) := by
  refine ⟨fun pins s σ H R I h => Call_ (ld_blt I hg hm PyProof.Rows.boot_zip (PyProof.Rows.callWith_type1 (thn (ha.run pos pins s σ H _ I h) fun us s1 ⟨vs, H1, I1, r1, q1⟩ => ?_) hs hpl))⟩
  obtain ⟨a, b, xs, ys, k, k', ex, qx, qy, q⟩ := q1
  subst ex
  cases r1 with
  | cons r rr =>
    cases rr with
    | cons r' rr =>
      cases rr
      cases r
      cases r'
      obtain ⟨its, rv, p1, la⟩ := there I1 qx
      obtain ⟨its2, rv2, p2, lb⟩ := there I1 qy
      refine zip_begins2 (begins a its.toArray k) (begins b its2.toArray k') p1 p2 fun h' hz hTI hTO h1 h2 hsz hk => wpAny_pyIter_zip hz ?_
      have I2 : Inv X pins σ H1 { s1 with heap := h' } := I1.kept (t' := s1.toks) hk
      have S : ZipSep2 (s1.heap.objs.size + 4) (s1.heap.objs.size + 2) (s1.heap.objs.size + 3) s1.heap.objs.size (s1.heap.objs.size + 1) [s1.heap.objs.size, a] [s1.heap.objs.size + 1, b] :=
        zip_sep2 (N := s1.heap.objs.size) (fp1 := [a]) (fp2 := [b]) (fun c hc => by rw [List.mem_singleton.mp hc]; exact la) (fun c hc => by rw [List.mem_singleton.mp hc]; exact lb)
      refine ⟨s1.heap.objs.size + 4, [s1.heap.objs.size + 4, s1.heap.objs.size + 2, s1.heap.objs.size + 3, s1.heap.objs.size, s1.heap.objs.size + 1], _, _, H1, rfl, I2, turn_zipN S (Nat.ne_of_lt la) (Nat.ne_of_lt (Nat.lt_succ_of_lt lb)), ⟨⟨_, _, hz, .inl rfl⟩, hTI, ⟨_, _, hTO⟩, it_new h1, it_new h2⟩, fun c hcm => ?_, q⟩
      have hle : s1.heap.objs.size ≤ c := by
        have e' : c = s1.heap.objs.size + 4 ∨ c = s1.heap.objs.size + 2 ∨ c = s1.heap.objs.size + 3 ∨ c = s1.heap.objs.size ∨ c = s1.heap.objs.size + 1 := by simpa using hcm
        rcases e' with q | q | q | q | q
        · rw [q]; exact Nat.le_add_right _ _
        · rw [q]; exact Nat.le_add_right _ _
        · rw [q]; exact Nat.le_add_right _ _
        · rw [q]; exact Nat.le_refl _
        · rw [q]; exact Nat.le_add_right _ _
      exact I1.fpOk hle (I1.hok.fresh hle)
end SQ
/-! how many rising answers there are. -/
namespace K40
open PySem L2 FX SQ
theorem lk_relabel (c : Str → NameKind → Bool) (y : Str) : ∀ l : List (Str × NameKind), (List.lookup y l = some NameKind.cell ∨ List.lookup y l = some NameKind.free) →
    (List.lookup y (l.map fun x => if (x.2 == NameKind.free && c x.1 x.2) = true then (x.1, NameKind.cell) else x) = some NameKind.cell ∨ List.lookup y (l.map fun x => if (x.2 == NameKind.free && c x.1 x.2) = true then (x.1, NameKind.cell) else x) = some NameKind.free)
  | [], h => by simp at h
  | (n, k) :: l, h => by
    have ih := lk_relabel c y l
    rw [List.map_cons]
    by_cases e : y = n
    · subst e
      rw [List.lookup_cons_self] at h
      by_cases hc : (k == NameKind.free && c y k) = true
      · rw [if_pos hc, List.lookup_cons_self]
        exact .inl rfl
      · rw [if_neg hc, List.lookup_cons_self]
        exact h
    · have e' : (y == n) = false := by simpa using e
      rw [List.lookup_cons, e'] at h
      have h2 := ih h
      by_cases hc : (k == NameKind.free && c n k) = true
      · rw [if_pos hc, List.lookup_cons, e']
        exact h2
      · rw [if_neg hc, List.lookup_cons, e']
        exact h2
theorem blkIn {N : List Str} {scope s2 : Scope} {own : List (Str × Nat)} {cl : Addr} {C : List (Str × Addr)} {env : Env} (h : BlkOk N scope s2 own) : BlkOk N (PySem.compEnvC scope C cl env).scope s2 own := by
  refine ⟨h.kind, h.uniq, h.ix, fun y hy hk => ?_, h.own⟩
  have q := lk_relabel (fun n _ => env.scope.kind == ScopeKind.function && env.kindOf n == some NameKind.cell) y.1 scope.names (h.free y hy hk)
  have e : (PySem.compEnvC scope C cl env).scope.names = scope.names.map fun x => if (x.2 == NameKind.free && (env.scope.kind == ScopeKind.function && env.kindOf x.1 == some NameKind.cell)) = true then (x.1, NameKind.cell) else x := by
    show (PySem.relabel scope env).names = _
    unfold PySem.relabel
    show List.map _ scope.names = _
    refine List.map_congr_left fun x _ => ?_
    obtain ⟨n, k⟩ := x
    show (if _ then _ else _) = _
    rw [Bool.and_assoc]
  rw [e]
  exact q
def keyN (r : List Nat) : List L2.Key := r.map fun n : Nat => Sum.inl (n : Int)
theorem key_n (r : List Nat) : (keyN r).map kV = r.map nV := by
  unfold keyN
  rw [List.map_map]
  rfl
theorem key_inj : ∀ {r q : List Nat}, keyN r = keyN q → r = q
  | [], [], _ => rfl
  | [], _ :: _, e => by cases e
  | _ :: _, [], e => by cases e
  | x :: r, y :: q, e => by
    have e' : (Sum.inl (x : Int) :: keyN r : List L2.Key) = Sum.inl (y : Int) :: keyN q := e
    injection e' with e1 e2
    rw [key_inj e2, show x = y from by have := Sum.inl.inj e1; omega]
def belN (L : List (List Nat)) (r : List Nat) : Nat := (L.filter fun b => lbF b r).length
def aboN (L : List (List Nat)) (r : List Nat) : Nat := (L.filter fun b => lbF r b).length
def minR (a b : List Nat) : List Nat := (a.zip b).map fun p => min p.1 p.2
def maxR (a b : List Nat) : List Nat := (a.zip b).map fun p => max p.1 p.2
def pairsF (L : List (List Nat)) : List (List Nat × List Nat) := L.flatMap fun a => L.map fun b => (a, b)
def valF (L : List (List Nat)) (p : List Nat × List Nat) : Nat := belN L (minR p.1 p.2) * aboN L (maxR p.1 p.2)
def riseMany (p : Nat) : Nat := if p < 2 then p + 2 else ((pairsF (risN (p - 2))).map (valF (risN (p - 2)))).foldl (· + ·) 0
theorem joins_in : ∀ n < 4, ∀ a ∈ risN n, ∀ b ∈ risN n, minR a b ∈ risN n ∧ maxR a b ∈ risN n := by decide +kernel
theorem ris_few : ∀ n < 4, (risN n).length ≤ 20 := by decide +kernel
theorem pairs_rows (L : List (List Nat)) : (rowsOf [L.map rN, L.map rN]).map rowD = (pairsF L).map fun p => .tuple [rN p.1, rN p.2] := by
  show ((stepRows (stepRows [[]] (L.map rN)) (L.map rN)).map rowD) = _
  unfold stepRows pairsF
  simp only [List.flatMap_cons, List.flatMap_nil, List.append_nil, List.nil_append, List.map_flatMap, List.flatMap_map, List.map_map]
  rfl
section
variable {P : Program} {w : World} {K : PySem.W.Frag} {mg : Str → Option Value} {base : Heap} {B cT iT cS iS cK aK : Addr}
abbrev sRM : Stmt := top 27
abbrev sKC : Stmt := top 28
def spRA (K : PySem.W.Frag) (cS : Addr) : Sp := fun vs H Q E => ∃ v d, vs = [v] ∧ Dp K H v d ∧ (isBt 1 4 d = false → Thr cS "word" (.str "many") H E) ∧ (∀ n : Nat, d = nD n → 1 ≤ n → n ≤ 4 → ∀ H' v', Same H H' → Ts H' v' (risN n) → Q v' H')
theorem scRA : FnScope ["many"] ["many"] (defScope sRA) := ⟨rfl, rfl, rfl, by decide +kernel, rfl, by decide +kernel, by decide +kernel⟩
theorem ok_ra {f fM fR : Addr} {fd fdM fdR : FuncData} (F : Fun K "rising_answers" "rising_answers" sRA f fd) (Z : Bi mg) (FM : At K mg "need_many" sNeedMany fM fdM ["many"]) (GM : FnOk P w K mg base (L2.CX P w) 3 fM fdM ["many"] (spNeedMany K cS)) (FR : At K mg "rising_rows" sRR fR fdR ["many"]) (GR : FnOk P w K mg base CX0 2 fR fdR ["many"] spRR) :
    FnOk P w K mg base (L2.CX P w) 4 f fd ["many"] (spRA K cS) := by
  refine F.okX scRA (fun vs H Q E h => ?_) (fun cdv A outer sh H vs Q E hr h => ?_)
  · obtain ⟨v, d, rfl, _⟩ := h
    rfl
  · obtain ⟨v, d, rfl, hd, k1, k2⟩ := h
    refine ⟨_, pss_cons (ps_expr (pe_callS GM hr rfl FM.g FM.F.kp FM.b (fun σ => passAt (takes_of rfl rfl rfl rfl) σ) (by exact (pa_cons (pv 0) pa_nil))))
      (pss_one (ps_ret (pe_tupleOf (by rfl) Z.tuple (pe_call GR (hr.mono (by decide)) rfl FR.g FR.F.kp FR.b .nil pass0 (by exact (pa_cons (pv 0) pa_nil)))))), ?_⟩
    refine ⟨_, rfl, v, d, rfl, hd, k1, fun hb H1 s1 => ?_⟩
    obtain ⟨n, rfl, n1, n4⟩ : ∃ n : Nat, d = nD n ∧ 1 ≤ n ∧ n ≤ 4 := by
      unfold isBt at hb
      simp only [Bool.and_eq_true, decide_eq_true_eq] at hb
      cases d with
      | int i =>
        obtain ⟨_, h1, h2⟩ := hb
        have h1 : 1 ≤ i := h1
        have h2 : i ≤ 4 := h2
        exact ⟨i.toNat, by unfold nD; rw [Int.toNat_of_nonneg (by omega)], by omega, by omega⟩
      | none => cases hb.1
      | bool _ => cases hb.1
      | str _ => cases hb.1
      | list _ => cases hb.1
      | tuple _ => cases hb.1
      | dict _ => cases hb.1
    obtain rfl : v = nV n := by cases hd; rfl
    refine ⟨_, rfl, n, rfl, by omega, fun H2 u s2 l2 => ?_⟩
    obtain ⟨a, vs, rfl, ea, tl⟩ := l2
    refine .inl ⟨a, vs, rfl, SqL.of ea, fun t ht => ?_⟩
    exact k2 n rfl n1 n4 _ _ ((s1.trans s2).trans (same_new ht)) ⟨t, vs, rfl, upd_same, tl.same (same_new ht)⟩
theorem dpAll_ints {K : PySem.W.Frag} {H : Hp} : ∀ {vs : List V} {ns : List Nat}, DpAll K H vs (ns.map nD) → vs = ns.map nV
  | _, [], .nil => rfl
  | _, n :: ns, .cons h r => by
    cases h
    rw [dpAll_ints r]
    rfl
def spRM : Sp := fun vs H Q _ => ∃ p : Nat, vs = [.int (p : Nat)] ∧ 1 ≤ p ∧ p ≤ 5 ∧ ∀ H', Same H H' → Q (.int (riseMany p : Nat)) H'
abbrev NRM : List Str := ["places", "rows", "below", "above", "many", "one", "other", "lesser", "greater", "row", "low", "high", "pair"]
theorem scRM : FnScope NRM ["places"] (defScope sRM) := ⟨rfl, rfl, rfl, by decide +kernel, rfl, by decide +kernel, by decide +kernel⟩
abbrev teLenLc (j : Nat) (t : TE) : TE := tCB (fun xs H Q => ∃ p ys, xs = [V.ref p] ∧ (SqL K H p ys ∨ SqT K H p ys) ∧ Q (V.int ys.length) H) (tCons (tLc (iList K (tVar 1)) (gName j) (tB t) (tVar j) [j]) tNil)
theorem ok_rm {f fR fL fA : Addr} {fd fdR fdL fdA : FuncData} (F : Fun K "rising_many" "rising_many" sRM f fd) (Z : Bi mg) (FR : At K mg "rising_rows" sRR fR fdR ["many"]) (GR : FnOk P w K mg base CX0 2 fR fdR ["many"] spRR) (FL : At K mg "lies_below" sLB fL fdL ["one", "other"]) (FA : At K mg "all_rows" sRows fA fdA ["choices"]) :
    FnOk P w K mg base CX0 3 f fd ["places"] spRM := by
  have GL : FnOk P w K mg base CX0 1 fL fdL ["one", "other"] spLB := ok_lb FL.F Z
  have GA : FnOk P w K mg base CX0 1 fA fdA ["choices"] (spRows K) := ok_rows FA.F
  refine F.ok scRM (fun vs H Q E h => ?_) (fun cdv A outer sh H vs Q E hr h => ?_)
  · obtain ⟨p, rfl, _⟩ := h
    rfl
  · obtain ⟨p, rfl, p1, p5, k⟩ := h
    have hu := hr65 hr
    have hu1 := Nat.lt_of_le_of_lt (Nat.add_le_add_left (by decide : 1 ≤ 65) _) hu
    refine ⟨_, pss_cons (ps_if (pt_cmpR op_lt (pv 0) pe_int (nomark _)) (pss_one (ps_ret (pe_op op_add (pv 0) pe_int))) pss_nil)
      (pss_cons (ps_set (i := 1) scRM.nd rfl (Or.inr rfl) (pe_call GR hr rfl FR.g FR.F.kp FR.b .nil pass0 (by exact (pa_cons (pe_op op_sub (pv 0) pe_int) pa_nil))))
      (pss_cons (ps_setDcT (i := 2) (own := [("row", 9)]) (g := gName 9) (tt := tYes) (tk := tVar 9) (tv := teLenLc (K := K) 10 (tCall spLB [] E0 (tCons (tVar 10) (tCons (tVar 9) tNil)))) rfl hu1 scRM.nd rfl rfl (sw_trueD rfl rfl rfl (by decide +kernel)) (pi_list (pv 1)) (blkOk_by (N := NRM) (sc := defScope sRM) (by decide +kernel))
          (fun _ _ _ _ _ => ⟨pg_name (i := 9) scRM.nd rfl (Or.inr rfl), pts_nil, pv 9, pe_callB call_len_seq (by rfl) Z.len PySem.boot_len (pa_cons (pe_lc (own := [("low", 10)]) (g := gName 10) (tt := tB (tCall spLB [] E0 (tCons (tVar 10) (tCons (tVar 9) tNil)))) (te := tVar 10) rfl scRM.nd (pi_list (pv 1)) (by exact blkIn (N := NRM) (blkOk_by (by decide +kernel)))
            (fun _ _ _ _ _ => pg_name (i := 10) scRM.nd rfl (Or.inl rfl)) (fun _ _ _ _ _ => pts_one (pt_val (pe_call GL (hr.mono (by decide)) (by rfl) FL.g FL.F.kp FL.b .nil pass0 (by exact (pa_cons (pv 10) (pa_cons (pv 9) pa_nil)))))) (fun _ _ _ _ _ => pv 10)) pa_nil)⟩))
      (pss_cons (ps_setDcT (i := 3) (own := [("row", 9)]) (g := gName 9) (tt := tYes) (tk := tVar 9) (tv := teLenLc (K := K) 11 (tCall spLB [] E0 (tCons (tVar 9) (tCons (tVar 11) tNil)))) rfl hu1 scRM.nd rfl rfl (sw_trueD rfl rfl rfl (by decide +kernel)) (pi_list (pv 1)) (blkOk_by (N := NRM) (sc := defScope sRM) (by decide +kernel))
          (fun _ _ _ _ _ => ⟨pg_name (i := 9) scRM.nd rfl (Or.inr rfl), pts_nil, pv 9, pe_callB call_len_seq (by rfl) Z.len PySem.boot_len (pa_cons (pe_lc (own := [("high", 11)]) (g := gName 11) (tt := tB (tCall spLB [] E0 (tCons (tVar 9) (tCons (tVar 11) tNil)))) (te := tVar 11) rfl scRM.nd (pi_list (pv 1)) (by exact blkIn (N := NRM) (blkOk_by (by decide +kernel)))
            (fun _ _ _ _ _ => pg_name (i := 11) scRM.nd rfl (Or.inl rfl)) (fun _ _ _ _ _ => pts_one (pt_val (pe_call GL (hr.mono (by decide)) (by rfl) FL.g FL.F.kp FL.b .nil pass0 (by exact (pa_cons (pv 9) (pa_cons (pv 11) pa_nil)))))) (fun _ _ _ _ _ => pv 11)) pa_nil)⟩))
      (pss_cons (ps_set (i := 4) scRM.nd rfl (Or.inl rfl) pe_int)
      (pss_cons (ps_for PassesOwn.never rfl (pi_list (pe_call GA (hr.mono (by decide)) rfl FA.g FA.F.kp FA.b .nil pass0 (by exact (pa_cons (pe_lst (by exact (pa_cons (pv 1) (pa_cons (pv 1) pa_nil)))) pa_nil)))) (pg_tup rfl (pgs_cons (pg_name (i := 5) scRM.nd rfl (Or.inl rfl)) (pgs_cons (pg_name (i := 6) scRM.nd rfl (Or.inl rfl)) pgs_nil)))
        (pss_cons (ps_set (i := 7) scRM.nd rfl (Or.inl rfl) (pe_tupleOf (by rfl) Z.tuple (by exact (pe_lc (own := [("pair", 12)]) (g := gName 12) (tt := tYes) (te := tCB (rPickT K min) (tCons (tVar 12) tNil)) rfl scRM.nd (pi_zipN (by rfl) Z.zip (pa_cons (pv 5) (pa_cons (pv 6) pa_nil))) (blkOk_by (N := NRM) (sc := defScope sRM) (by decide +kernel))
            (fun _ _ _ _ _ => pg_name (i := 12) scRM.nd rfl (Or.inl rfl)) (fun _ _ _ _ _ => pts_nil) (fun _ _ _ _ _ => pe_callB (cr_minTI rfl hu) (by rfl) Z.min (by decide +kernel) (pa_cons (pv 12) pa_nil))))))
        (pss_cons (ps_set (i := 8) scRM.nd rfl (Or.inl rfl) (pe_tupleOf (by rfl) Z.tuple (by exact (pe_lc (own := [("pair", 12)]) (g := gName 12) (tt := tYes) (te := tCB (rPickT K max) (tCons (tVar 12) tNil)) rfl scRM.nd (pi_zipN (by rfl) Z.zip (pa_cons (pv 5) (pa_cons (pv 6) pa_nil))) (blkOk_by (N := NRM) (sc := defScope sRM) (by decide +kernel))
            (fun _ _ _ _ _ => pg_name (i := 12) scRM.nd rfl (Or.inl rfl)) (fun _ _ _ _ _ => pts_nil) (fun _ _ _ _ _ => pe_callB (cr_maxTI rfl hu) (by rfl) Z.max (by decide +kernel) (pa_cons (pv 12) pa_nil))))))
        (pss_one (ps_aug (i := 4) scRM.nd rfl (Or.inl rfl) (pe_op op_mul (pe_dget hu1 (pv 2) (pv 7) (fun _ _ => rfl)) (pe_dget hu1 (pv 3) (pv 8) (fun _ _ => rfl))) iop_add)))))
      (pss_one (ps_ret (pv 4)))))))), ?_⟩
    refine ⟨_, rfl, _, _, rfl, rfl, _, rfl, ?_⟩
    by_cases h2 : (p : Int) < 2
    · refine go_t (decide_eq_true h2) ⟨_, rfl, _, _, rfl, rfl, ?_⟩
      have kk := k H (Same.refl H)
      unfold riseMany at kk
      rw [if_pos (by omega)] at kk
      exact kk
    refine go_f (decide_eq_false h2) ⟨_, rfl, _, _, rfl, rfl, p - 2, (by show [V.int ((p : Int) - 2)] = _; rw [show (p : Int) - 2 = ((p - 2 : Nat) : Int) from by omega]), by omega, fun H1 v s1 l1 => ?_⟩
    have few := ris_few (p - 2) (by omega)
    have shp := (ris_len (p - 2) (by omega)).2
    have join := joins_in (p - 2) (by omega)
    have p4 : 2 ^ (p - 2) ≤ 2 ^ 3 := Nat.pow_le_pow_right (by decide) (by omega)
    have pe : riseMany p = ((pairsF (risN (p - 2))).map (valF (risN (p - 2)))).foldl (· + ·) 0 := if_neg (by omega)
    generalize hL : risN (p - 2) = L at few shp join l1 pe
    obtain ⟨a, vs, rfl, ea, tl⟩ := l1
    have lv := tl.1
    refine ⟨_, rfl, a, rfl, ⟨_, SqL.of ((Same.refl H1) _ _ ea)⟩, fun B hB => walk_it walk_list (fun i H' => Same H1 H' ∧ ∃ kvs, H' B = some (.dT kvs) ∧ kvs.length ≤ i ∧ ∀ j : Nat, j < i → ∀ r, L[j]? = some r → valV kvs (keyN r) = some (nV (belN L r))) ⟨same_new hB, [], upd_same, Nat.le_refl _, fun j hj => by omega⟩ (fun _ _ _ q => SqL.of (q.1 _ _ ((Same.refl H1) _ _ ea))) ?_ ?_⟩
    · rintro j x _ G hj ⟨sG, kvs, eD, kl, kv⟩ ⟨rfl, hx⟩
      obtain ⟨r, hr', htr⟩ := (tl.same ((Same.refl H1))).at hx
      have lr := (shp _ (List.mem_of_getElem? hr')).1
      have eG := sG _ _ ((Same.refl H1) _ _ ea)
      refine ⟨rfl, _, rfl, _, rfl, a, rfl, ⟨_, SqL.of eG⟩, fun R hR => walk_it walk_list (fun i H' => Same G H' ∧ ∃ acc, H' R = some (.lst acc) ∧ acc.length = ((L.take i).filter fun b => lbF b r).length) ⟨same_new hR, [], upd_same, rfl⟩ (fun _ _ _ q => SqL.of (q.1 _ _ eG)) ?_ ?_⟩
      · rintro k' y _ G2 hk ⟨s2, acc, eR, la⟩ ⟨rfl, hy⟩
        obtain ⟨b, hb, htb⟩ := ((tl.same ((Same.refl H1))).same sG).at hy
        have lb := (shp _ (List.mem_of_getElem? hb)).1
        refine ⟨rfl, _, rfl, _, rfl, y, x, b, r, rfl, htb.same s2, (htr.same sG).same s2, by omega, by omega, fun G3 s3 => ⟨_, rfl, ?_⟩⟩
        have kt := List.length_filter_le (fun b => lbF b r) (L.take k')
        rw [List.length_take] at kt
        by_cases hc : (lbF b r) = true
        · refine go_t hc ⟨_, rfl, _, s3 _ _ eR, by rw [la, sizeLine_eq]; omega, same_of (s2.trans s3) hR, _, upd_same, ?_⟩
          rw [List.length_append, la, take_more hb, List.filter_append, List.length_append, List.filter_cons, if_pos hc]
          rfl
        · refine go_f (by simpa using hc) ⟨s2.trans s3, acc, s3 _ _ eR, ?_⟩
          rw [la, take_more hb, List.filter_append, List.length_append, List.filter_cons, if_neg hc]
          rfl
      · rintro G2 ⟨s2, acc, eR, la⟩
        rw [lv, List.take_length] at la
        obtain ⟨b', rfl, eb'⟩ := (htr.same sG).same s2
        refine ⟨R, acc, rfl, .inl (SqL.of eR), kvs, keyN r, b', rfl, by rw [key_n]; exact eb', s2 _ _ eD, by rw [sizeLine_eq]; omega, same_of (sG.trans s2) hB, _, upd_same, ?_, fun j' hj' r' hr2 => ?_⟩
        · have := length_putK kvs (keyN r) (V.int (acc.length : Nat))
          omega
        · rw [valV_put]
          by_cases e : keyN r' = keyN r
          · rw [if_pos e]
            have er : r' = r := key_inj e
            subst er
            show some (V.int (acc.length : Nat)) = _
            rw [la]
            rfl
          · rw [if_neg e]
            refine kv j' ?_ r' hr2
            rcases Nat.lt_succ_iff_lt_or_eq.mp hj' with h | h
            · exact h
            · subst h
              rw [hr2] at hr'
              cases hr'
              exact absurd rfl e
    rintro H2 ⟨sB, kvsB, eB, klB, kvB⟩
    rw [lv] at kvB
    refine ⟨_, rfl, a, rfl, ⟨_, SqL.of (sB _ _ ea)⟩, fun C hC => walk_it walk_list (fun i H' => Same H2 H' ∧ ∃ kvs, H' C = some (.dT kvs) ∧ kvs.length ≤ i ∧ ∀ j : Nat, j < i → ∀ r, L[j]? = some r → valV kvs (keyN r) = some (nV (aboN L r))) ⟨same_new hC, [], upd_same, Nat.le_refl _, fun j hj => by omega⟩ (fun _ _ _ q => SqL.of (q.1 _ _ (sB _ _ ea))) ?_ ?_⟩
    · rintro j x _ G hj ⟨sG, kvs, eD, kl, kv⟩ ⟨rfl, hx⟩
      obtain ⟨r, hr', htr⟩ := (tl.same (sB)).at hx
      have lr := (shp _ (List.mem_of_getElem? hr')).1
      have eG := sG _ _ (sB _ _ ea)
      refine ⟨rfl, _, rfl, _, rfl, a, rfl, ⟨_, SqL.of eG⟩, fun R hR => walk_it walk_list (fun i H' => Same G H' ∧ ∃ acc, H' R = some (.lst acc) ∧ acc.length = ((L.take i).filter fun b => lbF r b).length) ⟨same_new hR, [], upd_same, rfl⟩ (fun _ _ _ q => SqL.of (q.1 _ _ eG)) ?_ ?_⟩
      · rintro k' y _ G2 hk ⟨s2, acc, eR, la⟩ ⟨rfl, hy⟩
        obtain ⟨b, hb, htb⟩ := ((tl.same (sB)).same sG).at hy
        have lb := (shp _ (List.mem_of_getElem? hb)).1
        refine ⟨rfl, _, rfl, _, rfl, x, y, r, b, rfl, (htr.same sG).same s2, htb.same s2, by omega, by omega, fun G3 s3 => ⟨_, rfl, ?_⟩⟩
        have kt := List.length_filter_le (fun b => lbF r b) (L.take k')
        rw [List.length_take] at kt
        by_cases hc : (lbF r b) = true
        · refine go_t hc ⟨_, rfl, _, s3 _ _ eR, by rw [la, sizeLine_eq]; omega, same_of (s2.trans s3) hR, _, upd_same, ?_⟩
          rw [List.length_append, la, take_more hb, List.filter_append, List.length_append, List.filter_cons, if_pos hc]
          rfl
        · refine go_f (by simpa using hc) ⟨s2.trans s3, acc, s3 _ _ eR, ?_⟩
          rw [la, take_more hb, List.filter_append, List.length_append, List.filter_cons, if_neg hc]
          rfl
      · rintro G2 ⟨s2, acc, eR, la⟩
        rw [lv, List.take_length] at la
        obtain ⟨b', rfl, eb'⟩ := (htr.same sG).same s2
        refine ⟨R, acc, rfl, .inl (SqL.of eR), kvs, keyN r, b', rfl, by rw [key_n]; exact eb', s2 _ _ eD, by rw [sizeLine_eq]; omega, same_of (sG.trans s2) hC, _, upd_same, ?_, fun j' hj' r' hr2 => ?_⟩
        · have := length_putK kvs (keyN r) (V.int (acc.length : Nat))
          omega
        · rw [valV_put]
          by_cases e : keyN r' = keyN r
          · rw [if_pos e]
            have er : r' = r := key_inj e
            subst er
            show some (V.int (acc.length : Nat)) = _
            rw [la]
            rfl
          · rw [if_neg e]
            refine kv j' ?_ r' hr2
            rcases Nat.lt_succ_iff_lt_or_eq.mp hj' with h | h
            · exact h
            · subst h
              rw [hr2] at hr'
              cases hr'
              exact absurd rfl e
    rintro H3 ⟨sC, kvsC, eC, klC, kvC⟩
    rw [lv] at kvC
    have dL : Dp K H3 (.ref a) (.list (L.map rN)) := Ls.dp ⟨a, vs, rfl, sC _ _ (sB _ _ ea), (tl.same sB).same sC⟩
    refine ⟨_, rfl, _, rfl, (by show 2 ≤ sizeLine; decide), fun l hl => ?_⟩
    have sl := same_new (o := .lst [V.ref a, .ref a]) hl
    refine ⟨.ref l, [L.map rN, L.map rN], rfl, .lst (SqL.of upd_same) (.cons (dp_same sl dL) (.cons (dp_same sl dL) .nil)), by show 2 ≤ 4; decide, ?_, fun H4 u s4 d4 _ => ?_⟩
    · intro c hc
      simp only [List.mem_cons, List.not_mem_nil, or_false, or_self] at hc
      rw [hc, List.length_map]
      exact few
    rw [pairs_rows] at d4
    obtain ⟨al, xs, rfl, ql, rl⟩ := dp_list d4
    have lx : xs.length = (pairsF L).length := by rw [dpAll_len rl, List.length_map]
    have s34 := sl.trans s4
    refine ⟨al, rfl, ⟨_, ql⟩, for_list (K := K) (a := al) (xs := xs) (fun i σ H' => ∃ u5 u6 u7 u8 : Option V, σ = [some (.int (p : Nat)), some (.ref a), some (.ref B), some (.ref C), some (.int (((((pairsF L).take i).map (valF L)).foldl (· + ·) 0 : Nat) : Int)), u5, u6, u7, u8, none, none, none, none] ∧ Same H4 H')
      ⟨none, none, none, none, rfl, Same.refl H4⟩ (fun i σ H' _ ⟨_, _, _, _, _, s⟩ => s.seq ql) ?_ ?_⟩
    · rintro i z σ G hi ⟨u5, u6, u7, u8, rfl, sG⟩
      obtain ⟨dz, hz1, hz2⟩ := dpAll_get rl hi
      rw [List.getElem?_map] at hz1
      obtain ⟨⟨x, y⟩, hxy, rfl⟩ := Option.map_eq_some_iff.mp hz1
      have hmem := List.mem_of_getElem? hxy
      obtain ⟨hx, hy⟩ : x ∈ L ∧ y ∈ L := by
        unfold pairsF at hmem
        obtain ⟨q, hq, hm⟩ := List.mem_flatMap.mp hmem
        obtain ⟨q2, hq2, e⟩ := List.mem_map.mp hm
        cases e
        exact ⟨hq, hq2⟩
      obtain ⟨tz, zs, rfl, qz, rz⟩ := dp_tup (dp_same sG hz2)
      obtain ⟨v1, v2, rfl, d1, d2⟩ : ∃ v1 v2, zs = [v1, v2] ∧ Dp K G v1 (rN x) ∧ Dp K G v2 (rN y) := by
        cases rz with
        | cons h1 r => cases r with
          | cons h2 r => cases r with
            | nil => exact ⟨_, _, rfl, h1, h2⟩
      obtain ⟨c1, w1, rfl, q1, r1⟩ := dp_tup d1
      obtain ⟨c2, w2, rfl, q2, r2⟩ := dp_tup d2
      obtain rfl := dpAll_ints r1
      obtain rfl := dpAll_ints r2
      have hA : ∀ H', Same G H' → SqK K H' .T c1 (x.map nV) := fun H' s => seqT s q1
      have hB : ∀ H', Same G H' → SqK K H' .T c2 (y.map nV) := fun H' s => seqT s q2
      have lxx := (shp x hx).1
      have lxy : x.length = y.length := by rw [lxx, (shp y hy).1]
      refine ⟨tz, _, rfl, qz, rfl, _, _, rfl, _, _, rfl, rfl, ?_⟩
      refine ⟨_, rfl, _, rfl, c1, c2, _, _, .T, .T, rfl, hA G (Same.refl G), hB G (Same.refl G), fun M hM => walk_it (walk_zip2 (n := x.length) (by rw [List.length_map, List.length_map, lxy, Nat.min_self])) (fun i H' => Same G H' ∧ H' M = some (.lst (((x.zip y).take i).map fun p => nV (min p.1 p.2)))) ⟨same_new hM, upd_same⟩ (fun i H' _ q => ⟨hA H' ((Same.refl G).trans q.1), hB H' ((Same.refl G).trans q.1)⟩) ?_ ?_⟩
      · rintro i z G2 G3 hi ⟨s2, eD⟩ ⟨t, z1, z2, rfl, ht', rfl, hz1, hz2⟩
        have hib : i < y.length := by omega
        have hz1 : (x.map nV)[i]? = some z1 := hz1
        have hz2 : (y.map nV)[i]? = some z2 := hz2
        rw [List.getElem?_map, List.getElem?_eq_getElem hi] at hz1
        rw [List.getElem?_map, List.getElem?_eq_getElem hib] at hz2
        obtain rfl := (Option.some.inj hz1).symm
        obtain rfl := (Option.some.inj hz2).symm
        have s3 := same_new (o := .tup [nV x[i], nV y[i]]) ht'
        have hz : (x.zip y)[i]? = some (x[i], y[i]) := by
          rw [List.getElem?_zip_eq_some]
          exact ⟨List.getElem?_eq_getElem hi, List.getElem?_eq_getElem hib⟩
        refine ⟨rfl, _, rfl, t, (x[i] : Int), [(y[i] : Int)], rfl, SqT.of upd_same, _, s3 _ _ eD, ?_, same_of (s2.trans s3) hM, ?_⟩
        · rw [List.length_map, List.length_take, sizeLine_eq]
          omega
        · rw [upd_same, take_more hz, List.map_append]
          show some (HO.lst (_ ++ [V.int (min (x[i] : Int) (y[i] : Int))])) = some (HO.lst (_ ++ [V.int ((min x[i] y[i] : Nat) : Int)]))
          rw [show min (x[i] : Int) (y[i] : Int) = ((min x[i] y[i] : Nat) : Int) from by omega]
      rintro G1 ⟨sM, eM⟩
      rw [show x.length = (x.zip y).length from by rw [List.length_zip, lxy, Nat.min_self], List.take_length] at eM
      refine .inl ⟨M, _, rfl, SqL.of eM, fun T1 hT1 => ?_⟩
      have s5 : Same G (upd G1 T1 (.tup ((x.zip y).map fun p => nV (min p.1 p.2)))) := sM.trans (same_new hT1)
      have e5 : (upd G1 T1 (.tup ((x.zip y).map fun p => nV (min p.1 p.2)))) T1 = some (.tup ((keyN (minR x y)).map kV)) := by
        rw [upd_same, key_n]
        unfold minR
        rw [List.map_map]
        rfl
      generalize upd G1 T1 (.tup ((x.zip y).map fun p => nV (min p.1 p.2))) = G5 at s5 e5
      refine ⟨_, rfl, _, rfl, c1, c2, _, _, .T, .T, rfl, hA G5 s5, hB G5 s5, fun N hN => walk_it (walk_zip2 (n := x.length) (by rw [List.length_map, List.length_map, lxy, Nat.min_self])) (fun i H' => Same G5 H' ∧ H' N = some (.lst (((x.zip y).take i).map fun p => nV (max p.1 p.2)))) ⟨same_new hN, upd_same⟩ (fun i H' _ q => ⟨hA H' (s5.trans q.1), hB H' (s5.trans q.1)⟩) ?_ ?_⟩
      · rintro i z G2 G3 hi ⟨s2, eD⟩ ⟨t, z1, z2, rfl, ht', rfl, hz1, hz2⟩
        have hib : i < y.length := by omega
        have hz1 : (x.map nV)[i]? = some z1 := hz1
        have hz2 : (y.map nV)[i]? = some z2 := hz2
        rw [List.getElem?_map, List.getElem?_eq_getElem hi] at hz1
        rw [List.getElem?_map, List.getElem?_eq_getElem hib] at hz2
        obtain rfl := (Option.some.inj hz1).symm
        obtain rfl := (Option.some.inj hz2).symm
        have s3 := same_new (o := .tup [nV x[i], nV y[i]]) ht'
        have hz : (x.zip y)[i]? = some (x[i], y[i]) := by
          rw [List.getElem?_zip_eq_some]
          exact ⟨List.getElem?_eq_getElem hi, List.getElem?_eq_getElem hib⟩
        refine ⟨rfl, _, rfl, t, (x[i] : Int), [(y[i] : Int)], rfl, SqT.of upd_same, _, s3 _ _ eD, ?_, same_of (s2.trans s3) hN, ?_⟩
        · rw [List.length_map, List.length_take, sizeLine_eq]
          omega
        · rw [upd_same, take_more hz, List.map_append]
          show some (HO.lst (_ ++ [V.int (max (x[i] : Int) (y[i] : Int))])) = some (HO.lst (_ ++ [V.int ((max x[i] y[i] : Nat) : Int)]))
          rw [show max (x[i] : Int) (y[i] : Int) = ((max x[i] y[i] : Nat) : Int) from by omega]
      rintro G6 ⟨sN, eN⟩
      rw [show x.length = (x.zip y).length from by rw [List.length_zip, lxy, Nat.min_self], List.take_length] at eN
      refine .inl ⟨N, _, rfl, SqL.of eN, fun T2 hT2 => ?_⟩
      have e7 : (upd G6 T2 (.tup ((x.zip y).map fun p => nV (max p.1 p.2)))) T2 = some (.tup ((keyN (maxR x y)).map kV)) := by
        rw [upd_same, key_n]
        unfold maxR
        rw [List.map_map]
        rfl
      have s67 := same_new (o := .tup ((x.zip y).map fun p => nV (max p.1 p.2))) hT2
      have s57 := sN.trans s67
      have s7 := s5.trans s57
      generalize upd G6 T2 (.tup ((x.zip y).map fun p => nV (max p.1 p.2))) = G7 at e7 s57 s7 s67
      have s37 := (s34.trans sG).trans s7
      obtain ⟨m1, m2⟩ := join x hx y hy
      obtain ⟨j1, hj1⟩ := List.mem_iff_getElem?.mp m1
      obtain ⟨j2, hj2⟩ := List.mem_iff_getElem?.mp m2
      have g1 := kvB j1 (List.getElem?_eq_some_iff.mp hj1).1 _ hj1
      have g2 := kvC j2 (List.getElem?_eq_some_iff.mp hj2).1 _ hj2
      have b20 : belN L (minR x y) ≤ 20 := Nat.le_trans (List.length_filter_le _ _) few
      refine ⟨_, rfl, _, rfl, _, rfl, B, _, rfl, (by rw [← g1]; exact DGet.t (s37 _ _ (sC _ _ eB)) (s57 _ _ e5)), _, rfl, _, rfl, C, _, rfl, (by rw [← g2]; exact DGet.t (s37 _ _ eC) e7), _, _, rfl, rfl, .inl ⟨by omega, by omega⟩, _, _, rfl, rfl, some (.ref c1), some (.ref c2), some (.ref T1), some (.ref T2), ?_, sG.trans s7⟩
      rw [take_more hxy, List.map_append, List.foldl_append]
      rfl
    · rintro σ G ⟨u5, u6, u7, u8, rfl, sG⟩
      rw [lx, List.take_length, ← pe]
      exact ⟨_, rfl, k _ ((((s1.trans sB).trans sC).trans s34).trans sG)⟩
end
end K40
/-! how many answers are of a kind. -/
namespace K40
open PySem L2 FX SQ
def cntF (x : Str) (p : Nat) : Nat := if x = "wires" then p + 2 else if x = "nots" then 2 * p + 2 else if x = "rising" then riseMany p else if x = "sums" then 2 ^ (p + 1) else if x = "all" then 2 ^ (2 ^ p) else 2 ^ p + 1
section
variable {P : Program} {w : World} {K : PySem.W.Frag} {mg : Str → Option Value} {base : Heap} {B cT iT cS iS cK aK : Addr}
def spKC (K : PySem.W.Frag) (cK cS : Addr) : Sp := fun vs H Q E => ∃ vk vp dk dp, vs = [vk, vp] ∧ Dp K H vk dk ∧ Dp K H vp dp ∧ (∀ p : Nat, dk = .str "rising" → dp = nD p → p ≠ 6) ∧ (okK dk = false → Thr0 cK H E) ∧ (okK dk = true → isBt 1 6 dp = false → Thr cS "word" (.str "places") H E) ∧
  (∀ (x : Str) (p : Nat), dk = .str x → okK dk = true → dp = nD p → 1 ≤ p → p ≤ 6 → ∀ H', Same H H' → Q (.int (cntF x p : Nat)) H')
theorem scKC : FnScope ["kind", "places"] ["kind", "places"] (defScope sKC) := ⟨rfl, rfl, rfl, by decide +kernel, rfl, by decide +kernel, by decide +kernel⟩
theorem ok_kc {f fK fB fM fW : Addr} {fd fdK fdB fdM fdW : FuncData} (F : Fun K "kind_count" "kind_count" sKC f fd) (Z : Bi mg) (T : Ers K mg B cT iT cS iS cK aK) (FK : At K mg "need_kind" sNeedKind fK fdK ["kind"]) (GK : FnOk P w K mg base (L2.CX P w) 2 fK fdK ["kind"] (spNeedKind K cK))
    (FB : At K mg "is_between" sBetween fB fdB ["least", "most", "value"]) (GB : FnOk P w K mg base CX0 2 fB fdB ["least", "most", "value"] (spB2 K isBt)) (FM : At K mg "rising_many" sRM fM fdM ["places"]) (GM : FnOk P w K mg base CX0 3 fM fdM ["places"] spRM) (FW : At K mg "power" sPower fW fdW ["base", "times"]) :
    FnOk P w K mg base (L2.CX P w) 4 f fd ["kind", "places"] (spKC K cK cS) := by
  have GW : FnOk P w K mg base CX0 1 fW fdW ["base", "times"] spPower := ok_power FW.F Z
  refine F.okX scKC (fun vs H Q E h => ?_) (fun cdv A outer sh H vs Q E hr h => ?_)
  · obtain ⟨vk, vp, dk, dp, rfl, _⟩ := h
    rfl
  · obtain ⟨vk, vp, dk, dp, rfl, hk, hp, h5, k1, k2, k3⟩ := h
    refine ⟨_, pss_cons (ps_expr (pe_callS GK (hr.mono (by decide)) rfl FK.g FK.F.kp FK.b (fun σ => passAt (takes_of rfl rfl rfl rfl) σ) (by exact (pa_cons (pv 0) pa_nil))))
      (pss_cons (ps_if (pt_not (pt_val (pe_call GB (hr.mono (by decide)) rfl FB.g FB.F.kp FB.b .nil pass0 (by exact (pa_cons pe_int (pa_cons pe_int (pa_cons (pv 1) pa_nil)))))))
        (pss_one (ps_err rfl T.s.T T.s.U hr (takes_of rfl rfl rfl rfl) (by exact (pa_cons pe_str pa_nil)))) pss_nil)
      (pss_cons (ps_if (pt_cmpR op_eq (pv 0) pe_str (nomark _)) (pss_one (ps_ret (pe_op op_add (pv 1) pe_int))) pss_nil)
      (pss_cons (ps_if (pt_cmpR op_eq (pv 0) pe_str (nomark _)) (pss_one (ps_ret (pe_op op_add (pe_op op_mul pe_int (pv 1)) pe_int))) pss_nil)
      (pss_cons (ps_if (pt_cmpR op_eq (pv 0) pe_str (nomark _)) (pss_one (ps_ret (pe_call GM hr rfl FM.g FM.F.kp FM.b .nil pass0 (by exact (pa_cons (pv 1) pa_nil))))) pss_nil)
      (pss_cons (ps_if (pt_cmpR op_eq (pv 0) pe_str (nomark _)) (pss_one (ps_ret (pe_call GW (hr.mono (by decide)) rfl FW.g FW.F.kp FW.b .nil pass0 (by exact (pa_cons pe_int (pa_cons (pe_op op_add (pv 1) pe_int) pa_nil)))))) pss_nil)
      (pss_one (ps_ret (pe_ifExp (pt_cmpR op_eq (pv 0) pe_str (nomark _)) (pe_call GW (hr.mono (by decide)) rfl FW.g FW.F.kp FW.b .nil pass0 (by exact (pa_cons pe_int (pa_cons (pe_call GW (hr.mono (by decide)) rfl FW.g FW.F.kp FW.b .nil pass0 (by exact (pa_cons pe_int (pa_cons (pv 1) pa_nil)))) pa_nil))))
        (pe_op op_add (pe_call GW (hr.mono (by decide)) rfl FW.g FW.F.kp FW.b .nil pass0 (by exact (pa_cons pe_int (pa_cons (pv 1) pa_nil)))) pe_int))))))))), ?_⟩
    refine ⟨_, rfl, vk, dk, rfl, hk, k1, fun hk1 H1 s1 => ?_⟩
    refine ⟨_, rfl, 1, 6, vp, dp, rfl, dp_same s1 hp, fun H2 s2 => ⟨_, rfl, ?_⟩⟩
    by_cases hb : isBt 1 6 dp = true
    case neg =>
      have hf : isBt 1 6 dp = false := by simpa using hb
      refine go_t (by rw [hf]; rfl) ?_
      exact ⟨_, rfl, fun d' hd' => k2 hk1 hf H2 d' (s1.trans s2) hd'⟩
    refine go_f (by rw [hb]; rfl) ?_
    obtain ⟨p, rfl, p1, p6⟩ : ∃ n : Nat, dp = nD n ∧ 1 ≤ n ∧ n ≤ 6 := by
      unfold isBt at hb
      simp only [Bool.and_eq_true, decide_eq_true_eq] at hb
      cases dp with
      | int i =>
        obtain ⟨_, h1, h2⟩ := hb
        have h1 : 1 ≤ i := h1
        have h2 : i ≤ 6 := h2
        exact ⟨i.toNat, by unfold nD; rw [Int.toNat_of_nonneg (by omega)], by omega, by omega⟩
      | none => cases hb.1
      | bool _ => cases hb.1
      | str _ => cases hb.1
      | list _ => cases hb.1
      | tuple _ => cases hb.1
      | dict _ => cases hb.1
    obtain rfl : vp = nV p := by cases hp; rfl
    obtain ⟨x, rfl⟩ : ∃ x, dk = .str x := by
      unfold okK at hk1
      rw [Bool.and_eq_true] at hk1
      cases dk with
      | str x => exact ⟨x, rfl⟩
      | int i => cases hk1.1
      | none => cases hk1.1
      | bool _ => cases hk1.1
      | list _ => cases hk1.1
      | tuple _ => cases hk1.1
      | dict _ => cases hk1.1
    obtain rfl : vk = .str x := by cases hk; rfl
    have kk := k3 x p rfl hk1 rfl p1 p6
    have s02 := s1.trans s2
    unfold cntF at kk
    have tp := fun n : Nat => pow_n 2 n
    refine ⟨_, rfl, rfl, _, rfl, ?_⟩
    rw [str_dec]
    by_cases e1 : x = "wires"
    · rw [if_pos e1] at kk
      exact go_t (decide_eq_true e1) ⟨_, rfl, _, _, rfl, rfl, kk H2 s02⟩
    refine go_f (decide_eq_false e1) ⟨_, rfl, rfl, _, rfl, ?_⟩
    rw [if_neg e1] at kk
    rw [str_dec]
    by_cases e2 : x = "nots"
    · rw [if_pos e2] at kk
      refine go_t (decide_eq_true e2) ⟨_, rfl, _, _, rfl, rfl, .inl ⟨by decide, by decide⟩, _, _, rfl, rfl, ?_⟩
      exact kk H2 s02
    refine go_f (decide_eq_false e2) ⟨_, rfl, rfl, _, rfl, ?_⟩
    rw [if_neg e2] at kk
    rw [str_dec]
    by_cases e3 : x = "rising"
    · rw [if_pos e3] at kk
      exact go_t (decide_eq_true e3) ⟨_, rfl, p, rfl, p1, (by have := h5 p (by rw [e3]) rfl; omega), fun H3 s3 => kk H3 (s02.trans s3)⟩
    refine go_f (decide_eq_false e3) ⟨_, rfl, rfl, _, rfl, ?_⟩
    rw [if_neg e3] at kk
    have kk := kk H2 s02
    rw [str_dec]
    by_cases e4 : x = "sums"
    · rw [if_pos e4] at kk
      refine go_t (decide_eq_true e4) ⟨_, rfl, _, _, rfl, rfl, 2, p + 1, rfl, by decide, by decide, by omega, ?_⟩
      rw [show pow' 2 (p + 1) = ((2 ^ (p + 1) : Nat) : Int) from tp _]
      exact kk
    refine go_f (decide_eq_false e4) ?_
    rw [if_neg e4] at kk
    refine ⟨_, rfl, rfl, _, rfl, ?_⟩
    rw [str_dec]
    have small : 2 ^ p ≤ 2 ^ 6 := Nat.pow_le_pow_right (by decide) p6
    by_cases e5 : x = "all"
    · rw [if_pos e5] at kk
      refine go_t (decide_eq_true e5) ⟨_, rfl, 2, p, rfl, by decide, by decide, by omega, 2, 2 ^ p, ?_, by decide, by decide, by omega, ?_⟩
      · show [V.int 2, V.int (pow' 2 p)] = _
        rw [show pow' 2 p = ((2 ^ p : Nat) : Int) from tp _]
      · rw [show pow' 2 (2 ^ p) = ((2 ^ (2 ^ p) : Nat) : Int) from tp _]
        exact kk
    · rw [if_neg e5] at kk
      refine go_f (decide_eq_false e5) ⟨_, rfl, 2, p, rfl, by decide, by decide, by omega, _, _, rfl, rfl, ?_⟩
      rw [show pow' 2 p = ((2 ^ p : Nat) : Int) from tp _]
      exact kk
end
end K40
/-! tuples put together, and parts of them: whatever comes. -/
namespace SQ
open PySem PySem.Spec PyProof.Rows L2 FX K40
theorem cat_any {K : PySem.W.Frag} {H : Hp} {Q : VK} {a b : Addr} {xs ys : List V} (ha : SqT K H a xs) (hb : SqT K H b ys) (hz : xs.length + ys.length ≤ sizeLine) (k : ∀ H' c, Same H H' → SqT K H' c (xs ++ ys) → Q (.ref c) H') : rCatA K (.ref a) (.ref b) H Q :=
  ⟨a, b, xs, ys, rfl, rfl, ha, hb, hz, fun e => by
    subst e
    exact k H b (Same.refl _) hb, fun _ e => by
    subst e
    exact k H a (Same.refl _) (by rw [List.append_nil]; exact ha), fun _ _ p hp => k _ p (same_new hp) (SqT.of upd_same)⟩
theorem sl_any {K : PySem.W.Frag} {H : Hp} {Q : VK} {a : Addr} {xs : List V} {lo hi : Option Int} (ha : SqT K H a xs) (k : ∀ H' c, Same H H' → SqT K H' c (cutV xs lo hi) → Q (.ref c) H') : rSlA K (.ref a) lo hi H Q :=
  ⟨a, xs, rfl, ha, fun h => k H a (Same.refl _) (by
    unfold cutV
    rw [h.1, h.2, List.drop_zero, Nat.sub_zero, List.take_length]
    exact ha), fun _ p hp => k _ p (same_new hp) (SqT.of upd_same)⟩
end SQ
/-! the law's own rows. -/
namespace K40
open PySem L2 FX SQ
def lrows : Nat → List (List Nat)
  | 0 => [[]]
  | n + 1 => (lrows n).flatMap fun r => [r ++ [0], r ++ [1]]
theorem lrows_len : ∀ n < 7, (lrows n).length = 2 ^ n ∧ ∀ r ∈ lrows n, r.length = n ∧ ∀ a ∈ r, a < 2 := by decide +kernel
theorem two_len (l : List (List Nat)) : (l.flatMap fun r => [r ++ [0], r ++ [1]]).length = 2 * l.length := by
  induction l with
  | nil => rfl
  | cons a l ih =>
    rw [List.flatMap_cons, List.length_append, ih]
    show 2 + 2 * l.length = 2 * (l.length + 1)
    omega
theorem seqT_off {K : PySem.W.Frag} {H : Hp} {D a : Addr} {l xs : List V} (e : H D = some (.lst l)) (q : SqT K H a xs) : SqT K (off H D) a xs := by
  rcases q with (h | ⟨o, h⟩) | h
  · exact .inl (.inl (by
      rw [off_ne (by
        rintro rfl
        rw [e] at h
        cases h)]
      exact h))
  · exact .inl (.inr ⟨o, by
      rw [off_ne (by
        rintro rfl
        rw [e] at h
        cases h)]
      exact h⟩)
  · exact .inr h
theorem depth_n : ∀ ns : List Nat, PyData.depthAll (ns.map nD) ≤ 1
  | [] => by decide
  | n :: r => by
    have := depth_n r
    show max (PyData.depth (nD n)) (PyData.depthAll (r.map nD)) ≤ 1
    exact Nat.max_le.mpr ⟨by show PyData.depth (.int n) ≤ 1; simp [PyData.depth], this⟩
theorem lay_n : ∀ os : List Nat, PyData.canLayAll0 (os.map nD) = true
  | [] => rfl
  | n :: r => lay_n r
theorem shaped_n (ns : List Nat) : SeqAt.shaped (.list (ns.map nD)) = true := by
  unfold SeqAt.shaped
  rw [Bool.and_eq_true]
  refine ⟨lay_n ns, decide_eq_true ?_⟩
  have := depth_n ns
  show PyData.depth (.list (ns.map nD)) ≤ 64
  simp only [PyData.depth]
  omega
theorem eqv_nil (ns : List Nat) : PyData.eqv (.list (ns.map nD)) (.list []) = ns.isEmpty := by
  cases ns <;> rfl
section
variable {P : Program} {w : World} {K : PySem.W.Frag} {mg : Str → Option Value} {base : Heap} {B cT iT cS iS cK aK : Addr}
abbrev sLR : Stmt := top 35
abbrev sLRi : Stmt := top 36
abbrev sLIB : Stmt := top 37
def spLR (K : PySem.W.Frag) : Sp := fun vs H Q _ => ∃ n : Nat, vs = [.int (n : Nat)] ∧ n < 7 ∧ ∀ H' v, Same H H' → Dp K H' v (.list ((lrows n).map rN)) → Q v H'
abbrev NLR : List Str := ["many", "rows", "turn", "later", "row"]
theorem scLR : FnScope NLR ["many"] (defScope sLR) := ⟨rfl, rfl, rfl, by decide +kernel, rfl, by decide +kernel, by decide +kernel⟩
theorem ok_lr {f : Addr} {fd : FuncData} (F : Fun K "_law_rows" "_law_rows" sLR f fd) (Z : Bi mg) : FnOk P w K mg base CX0 1 f fd ["many"] (spLR K) := by
  refine F.ok scLR (fun vs H Q E h => ?_) (fun cdv A outer sh H vs Q E hr h => ?_)
  · obtain ⟨n, rfl, _⟩ := h
    rfl
  · obtain ⟨n, rfl, h7, k⟩ := h
    refine ⟨_, pss_cons (ps_set (i := 1) scLR.nd rfl (Or.inl rfl) (pe_lst (by exact (pa_cons (pe_tup pa_nil) pa_nil))))
      (pss_cons (ps_for PassesOwn.never rfl (pi_range1 rfl Z.range (pa_cons (pv 0) pa_nil)) (pg_name (i := 2) scLR.nd rfl (Or.inl rfl))
        (pss_cons (ps_set (i := 3) scLR.nd rfl (Or.inl rfl) (pe_lst pa_nil))
        (pss_cons (ps_for PassesOwn.never rfl (pi_list (pv 1)) (pg_name (i := 4) scLR.nd rfl (Or.inl rfl))
          (pss_one (ps_expr (pe_bm PySem.F.plainAttrs_list PySem.F.slot_list_extend PySem.F.type_list_extend mt_extend (pv 3) (pa_cons (pe_lst (by exact (pa_cons (pe_op op_catA (pv 4) (pe_tup (by exact (pa_cons pe_int pa_nil)))) (pa_cons (pe_op op_catA (pv 4) (pe_tup (by exact (pa_cons pe_int pa_nil)))) pa_nil)))) pa_nil)))))
        (pss_one (ps_set (i := 1) scLR.nd rfl (Or.inl rfl) (pv 3))))))
      (pss_one (ps_ret (pv 1)))), ?_⟩
    refine ⟨(by show 0 ≤ sizeLine; decide), fun t ht => ⟨(by show 1 ≤ sizeLine; decide), fun l hl => ?_⟩⟩
    have s0 := (same_new (o := .tup []) ht).trans (same_new (o := .lst [V.ref t]) hl)
    have d0 : Dp K (upd (upd H t (.tup [])) l (.lst [.ref t])) (.ref l) (.list ((lrows 0).map rN)) := .lst (SqL.of upd_same) (.cons (.tup (SqT.of ((same_new hl) _ _ upd_same)) .nil) .nil)
    generalize upd (upd H t (.tup [])) l (.lst [.ref t]) = H0 at s0 d0
    refine ⟨_, rfl, n, rfl, by omega, by omega, ?_⟩
    have e0 : ((n : Int)).toNat = n := by omega
    rw [e0]
    refine for_range (n := n) (fun i σ H' => ∃ (v : V) (u1 u2 u3 : Option V), σ = [some (.int (n : Nat)), some v, u1, u2, u3] ∧ Same H H' ∧ Dp K H' v (.list ((lrows i).map rN))) ⟨_, none, none, none, rfl, s0, d0⟩ ?_ ?_
    · rintro i σ H1 hi ⟨v, u1, u2, u3, rfl, s1, d1⟩
      obtain ⟨len, shp⟩ := lrows_len i (by omega)
      obtain ⟨a, xs, rfl, qa, ra⟩ := dp_list d1
      generalize hL : lrows i = L at *
      have lx : xs.length = L.length := by rw [dpAll_len ra, List.length_map]
      have p6 : 2 ^ i ≤ 2 ^ 6 := Nat.pow_le_pow_right (by decide) (by omega)
      refine ⟨(by show 0 ≤ sizeLine; decide), fun D hD => ?_⟩
      refine ⟨_, rfl, a, rfl, ⟨_, (same_new hD).seq qa⟩, for_list (K := K) (a := a) (xs := xs) (fun j σ H' => ∃ (w1 w3 : Option V), σ = [some (.int (n : Nat)), some (.ref a), w1, some (.ref D), w3] ∧ Same H1 H' ∧ Grow K H' D (((L.take j).flatMap fun r => [r ++ [0], r ++ [1]]).map rN)) ⟨_, _, rfl, same_new hD, Grow.nil⟩ (fun j σ H' _ ⟨_, _, _, s, _⟩ => s.seq qa) ?_ ?_⟩
      · rintro j x σ H2 hj ⟨w1, w3, rfl, s2, g2⟩
        obtain ⟨dx, hdx, hxd⟩ := dpAll_get ra hj
        rw [List.getElem?_map] at hdx
        obtain ⟨r, hr', rfl⟩ := Option.map_eq_some_iff.mp hdx
        have lr := (shp _ (List.mem_of_getElem? hr')).1
        obtain ⟨ar, xr, rfl, qr, rr⟩ := dp_tup hxd
        obtain rfl := dpAll_ints rr
        obtain ⟨acc, eD, _⟩ := id g2
        have lacc := g2.len eD
        rw [List.length_map, two_len, List.length_take] at lacc
        refine ⟨_, rfl, .inl ⟨rfl, _, SqL.of eD⟩, _, rfl, (by show 1 ≤ sizeLine; decide), fun t1 ht1 => ?_⟩
        have sa := same_new (o := .tup [V.int 0]) ht1
        refine cat_any (K := K) (seqT (s2.trans sa) qr) (SqT.of upd_same) (by rw [List.length_map, sizeLine_eq]; show r.length + 1 ≤ _; omega) fun H3 c1 s3 q1 => ?_
        refine ⟨_, rfl, (by show 1 ≤ sizeLine; decide), fun t2 ht2 => ?_⟩
        have sb := same_new (o := .tup [V.int 1]) ht2
        refine cat_any (K := K) (seqT (((s2.trans sa).trans s3).trans sb) qr) (SqT.of upd_same) (by rw [List.length_map, sizeLine_eq]; show r.length + 1 ≤ _; omega) fun H4 c2 s4 q2 => ⟨(by show 2 ≤ sizeLine; decide), fun b hb => ?_⟩
        have sz := same_new (o := .lst [V.ref c1, V.ref c2]) hb
        have s24 := ((sa.trans s3).trans sb).trans s4
        have s25 := s24.trans sz
        have eD5 := s25 _ _ eD
        refine ⟨D, b, acc, [.ref c1, .ref c2], rfl, rfl, eD5, upd_same, by rw [lacc, sizeLine_eq]; show _ + 2 ≤ _; omega, _, _, rfl, same_of (s2.trans s25) hD, ?_⟩
        obtain ⟨vs, eV, dV⟩ := id g2
        rw [eD] at eV
        cases eV
        refine ⟨_, upd_same, ?_⟩
        rw [off_upd, take_more hr', List.flatMap_append, List.map_append]
        refine dpAll_app (dpAll_same (off_mono fun c o _ e => s25 c o e) dV) ?_
        have f1 : DpAll K (off (upd H4 b (.lst [V.ref c1, V.ref c2])) D) (r.map nV ++ [V.int 0]) ((r ++ [0]).map nD) := by
          have := dp_n (K := K) (H := off (upd H4 b (.lst [V.ref c1, V.ref c2])) D) (r ++ [0])
          rw [List.map_append] at this
          exact this
        have f2 : DpAll K (off (upd H4 b (.lst [V.ref c1, V.ref c2])) D) (r.map nV ++ [V.int 1]) ((r ++ [1]).map nD) := by
          have := dp_n (K := K) (H := off (upd H4 b (.lst [V.ref c1, V.ref c2])) D) (r ++ [1])
          rw [List.map_append] at this
          exact this
        exact .cons (.tup (seqT_off eD5 (seqT ((sb.trans s4).trans sz) q1)) f1) (.cons (.tup (seqT_off eD5 (seqT sz q2)) f2) .nil)
      · rintro σ H2 ⟨w1, w3, rfl, s2, g2⟩
        rw [lx, List.take_length] at g2
        refine ⟨_, rfl, .ref D, _, _, _, rfl, s1.trans s2, ?_⟩
        show Dp K H2 _ (.list (((lrows i).flatMap fun r => [r ++ [0], r ++ [1]]).map rN))
        rw [hL]
        exact g2.dp
    · rintro σ H1 ⟨v, u1, u2, u3, rfl, s1, d1⟩
      exact ⟨_, rfl, k H1 v s1 d1⟩
end
end K40
/-! the law's own rising rows. -/
namespace K40
open PySem L2 FX SQ
theorem lb_iff : ∀ {a b : List Nat}, a.length = b.length → (lbF a b = true ↔ ∀ i, i < a.length → a.getD i 0 ≤ b.getD i 0)
  | [], [], _ => ⟨fun _ i hi => absurd hi (Nat.not_lt_zero _), fun _ => rfl⟩
  | [], _ :: _, e => by cases e
  | _ :: _, [], e => by cases e
  | x :: a, y :: b, e => by
    have ih := lb_iff (a := a) (b := b) (by simpa using e)
    have e1 : lbF (x :: a) (y :: b) = (decide (x ≤ y) && lbF a b) := rfl
    rw [e1, Bool.and_eq_true, decide_eq_true_eq, ih]
    constructor
    · rintro ⟨h1, h2⟩ i hi
      cases i with
      | zero => exact h1
      | succ i => exact h2 i (by simpa using hi)
    · intro h
      exact ⟨h 0 (by simp), fun i hi => h (i + 1) (by simpa using hi)⟩
def offN (a b : List Nat) (n : Nat) : List Nat := (List.range n).filter fun i => decide (b.getD i 0 < a.getD i 0)
theorem off_lb {a b : List Nat} (e : a.length = b.length) : (offN a b a.length).isEmpty = lbF a b := by
  rw [Bool.eq_iff_iff, lb_iff e, List.isEmpty_iff]
  unfold offN
  rw [List.filter_eq_nil_iff]
  constructor
  · intro h i hi
    have := h i (List.mem_range.mpr hi)
    rw [decide_eq_true_eq] at this
    omega
  · intro h i hi
    rw [List.mem_range] at hi
    rw [decide_eq_true_eq]
    have := h i hi
    omega
section
variable {P : Program} {w : World} {K : PySem.W.Frag} {mg : Str → Option Value} {base : Heap} {B cT iT cS iS cK aK : Addr}
def spLIB : Sp := fun vs H Q _ => ∃ v u as bs, vs = [v, u] ∧ Tn H v as ∧ Tn H u bs ∧ as.length = bs.length ∧ as.length ≤ 64 ∧ ∀ H', Same H H' → Q (.bl (lbF as bs)) H'
abbrev NLIB : List Str := ["low", "high", "at", "value"]
theorem scLIB : FnScope NLIB ["low", "high"] (defScope sLIB) := ⟨rfl, rfl, rfl, by decide +kernel, rfl, by decide +kernel, by decide +kernel⟩
theorem ok_lib {f : Addr} {fd : FuncData} (F : Fun K "_law_is_below" "_law_is_below" sLIB f fd) (Z : Bi mg) : FnOk P w K mg base CX0 1 f fd ["low", "high"] spLIB := by
  refine F.ok scLIB (fun vs H Q E h => ?_) (fun cdv A outer sh H vs Q E hr h => ?_)
  · obtain ⟨v, u, as, bs, rfl, _⟩ := h
    rfl
  · obtain ⟨v, u, as, bs, rfl, ht, hu, hl, h64, k⟩ := h
    have h65 := hr65 hr
    have hlen := hl
    refine ⟨_, pss_one (ps_ret (pe_cmpR (op_eqD (Nat.lt_of_le_of_lt (Nat.add_le_add_left (by decide : 64 ≤ 65) _) h65))
      (pe_lc (own := [("at", 2), ("value", 3)]) (g := gTup K 2 (gCons (gName 2) (gCons (gName 3) gNil))) (tt := tTest (tOp (rI0 fun i j => .bl (decide (i > j))) (tVar 3) (tOp (rIxT K) (tVar 1) (tVar 2)))) (te := tVar 2) rfl scLIB.nd (pi_enum2 (by rfl) Z.enumerate (pa_cons (pv 0) pa_nil))
        (blkOk_by (N := NLIB) (sc := defScope sLIB) (by decide +kernel)) (fun _ _ _ _ _ => pg_tup rfl (pgs_cons (pg_name (i := 2) scLIB.nd rfl (Or.inl rfl)) (pgs_cons (pg_name (i := 3) scLIB.nd rfl (Or.inl rfl)) pgs_nil)))
        (fun _ _ _ _ _ => pts_one (pt_cmpR op_gt (pv 3) (pe_ix ix_tup (pv 1) (pv 2) (fun _ _ => rfl)) (nomark _))) (fun _ _ _ _ _ => pv 2)) (pe_lst pa_nil) (nomark _))), ?_⟩
    obtain ⟨a, rfl, ea⟩ := id ht
    obtain ⟨b, rfl, eb⟩ := id hu
    have hA : ∀ H', Same H H' → SqK K H' .T a (as.map nV) := fun H' s => SqT.of (s _ _ ea)
    refine ⟨_, rfl, a, as.map nV, .T, rfl, hA H (Same.refl H), fun D hD => walk_it (walk_enum2 (k := .T) (a := a) (xs := as.map nV) (n := as.length) (by rw [List.length_map])) (fun i H' => Same H H' ∧ H' D = some (.lst ((offN as bs i).map nV))) ⟨same_new hD, upd_same⟩ (fun i H' _ q => hA H' q.1) ?_ ?_⟩
    · rintro i x H2 H3 hi ⟨s2, eD⟩ ⟨t, x1, x2, rfl, ht', rfl, hx1, hx2⟩
      obtain rfl : x1 = .int (i : Nat) := (Option.some.inj hx1).symm
      have hib : i < bs.length := by omega
      have hx2 : (as.map nV)[i]? = some x2 := hx2
      rw [get_n hi] at hx2
      obtain rfl := (Option.some.inj hx2).symm
      have s3 := same_new (o := .tup [.int (i : Nat), nV (as.getD i 0)]) ht'
      have s23 := s2.trans s3
      refine ⟨t, _, rfl, SqT.of upd_same, rfl, _, _, rfl, _, _, rfl, rfl, rfl, _, rfl, _, rfl, _, rfl, b, _, _, _, rfl, rfl, SqT.of (s23 _ _ eb), atI_nat (get_n hib), _, _, rfl, rfl, _, rfl, ?_⟩
      have ef : offN as bs (i + 1) = offN as bs i ++ (if bs.getD i 0 < as.getD i 0 then [i] else []) := by
        unfold offN
        rw [List.range_succ, List.filter_append, List.filter_cons]
        by_cases c : bs.getD i 0 < as.getD i 0
        · rw [if_pos c, if_pos (decide_eq_true c)]
          rfl
        · rw [if_neg c, if_neg (by rw [decide_eq_true_eq]; exact c)]
          rfl
      by_cases c : bs.getD i 0 < as.getD i 0
      · refine go_t (decide_eq_true (by omega)) ⟨_, rfl, _, s3 _ _ eD, ?_, same_of s23 hD, ?_⟩
        · have := List.length_filter_le (fun i => decide (bs.getD i 0 < as.getD i 0)) (List.range i)
          rw [List.length_range] at this
          rw [List.length_map, sizeLine_eq]
          unfold offN
          omega
        · rw [upd_same, ef, if_pos c, List.map_append]
          rfl
      · refine go_f (decide_eq_false (by omega)) ⟨s23, ?_⟩
        rw [ef, if_neg c, List.append_nil]
        exact s3 _ _ eD
    · rintro H2 ⟨s2, eD⟩
      refine ⟨(by show 0 ≤ sizeLine; decide), fun l hl => ?_⟩
      have s3 := same_new (o := .lst []) hl
      refine ⟨.list ((offN as bs as.length).map nD), .list [], .lst (SqL.of (s3 _ _ eD)) (dp_n _), .lst (SqL.of upd_same) .nil, shaped_n _, rfl, ?_⟩
      rw [eqv_nil, off_lb hlen]
      exact k _ (s2.trans s3)
end
end K40
/-! the law's own rising rows, put in order. -/
namespace K40
open PySem L2 FX SQ
theorem TnL.uncons {H : Hp} {v : V} {vs : List V} {L : List (List Nat)} (h : TnL H (v :: vs) L) : ∃ x M, L = x :: M ∧ Tn H v x ∧ TnL H vs M := by
  cases L with
  | nil => cases h.1
  | cons x M => exact ⟨x, M, rfl, h.2 0 v x rfl rfl, by simpa using h.1, fun i v' o' a b => h.2 (i + 1) v' o' a b⟩
theorem TnL.app {H : Hp} : ∀ {vs ws : List V} {L M : List (List Nat)}, TnL H vs L → TnL H ws M → TnL H (vs ++ ws) (L ++ M)
  | [], ws, L, M, h, g => by
    cases L with
    | nil => exact g
    | cons x L => cases h.1
  | v :: vs, ws, L, M, h, g => by
    obtain ⟨x, N, rfl, h1, h2⟩ := h.uncons
    exact TnL.cons h1 (TnL.app h2 g)
theorem TnL.perm {H : Hp} {ys vs : List V} (p : ys.Perm vs) : ∀ {L : List (List Nat)}, TnL H vs L → ∃ M, TnL H ys M ∧ M.Perm L := by
  induction p with
  | nil => exact fun h => ⟨_, h, .refl _⟩
  | cons x p ih =>
    intro L h
    obtain ⟨r, N, rfl, h1, h2⟩ := h.uncons
    obtain ⟨M, m1, m2⟩ := ih h2
    exact ⟨r :: M, TnL.cons h1 m1, m2.cons r⟩
  | swap x y l =>
    intro L h
    obtain ⟨r, N, rfl, h1, h2⟩ := h.uncons
    obtain ⟨q, O, rfl, h3, h4⟩ := h2.uncons
    exact ⟨q :: r :: O, TnL.cons h3 (TnL.cons h1 h4), .swap r q O⟩
  | trans p q ih1 ih2 =>
    intro L h
    obtain ⟨M, m1, m2⟩ := ih2 h
    obtain ⟨N, n1, n2⟩ := ih1 m1
    exact ⟨N, n1, n2.trans m2⟩
def codeN : List Nat → Nat
  | [] => 0
  | d :: r => d * 2 ^ r.length + codeN r
theorem code_n : ∀ r : List Nat, TS.code 2 (r.map fun n : Nat => (n : Int)) = (codeN r : Nat)
  | [] => rfl
  | d :: r => by
    show (d : Int) * 2 ^ (r.map fun n : Nat => (n : Int)).length + TS.code 2 (r.map fun n : Nat => (n : Int)) = ((d * 2 ^ r.length + codeN r : Nat) : Int)
    rw [code_n r, List.length_map, Int.natCast_add, Int.natCast_mul, Int.natCast_pow]
    rfl
theorem codeN_lt : ∀ r : List Nat, (∀ a ∈ r, a < 2) → codeN r < 2 ^ r.length
  | [], _ => by decide
  | d :: r, h => by
    have ih := codeN_lt r fun a ha => h a (List.mem_cons_of_mem _ ha)
    have hd := h d (List.mem_cons_self ..)
    show d * 2 ^ r.length + codeN r < 2 ^ (r.length + 1)
    rw [Nat.pow_succ]
    have : d * 2 ^ r.length ≤ 1 * 2 ^ r.length := Nat.mul_le_mul_right _ (by omega)
    omega
theorem codeN_inj : ∀ {r q : List Nat}, r.length = q.length → (∀ a ∈ r, a < 2) → (∀ a ∈ q, a < 2) → codeN r = codeN q → r = q
  | [], [], _, _, _, _ => rfl
  | [], _ :: _, e, _, _, _ => by cases e
  | _ :: _, [], e, _, _, _ => by cases e
  | d :: r, c :: q, e, h1, h2, hc => by
    have e' : r.length = q.length := by simpa using e
    have b1 := codeN_lt r fun a ha => h1 a (List.mem_cons_of_mem _ ha)
    have b2 := codeN_lt q fun a ha => h2 a (List.mem_cons_of_mem _ ha)
    have hd := h1 d (List.mem_cons_self ..)
    have hq := h2 c (List.mem_cons_self ..)
    have hc : d * 2 ^ r.length + codeN r = c * 2 ^ q.length + codeN q := hc
    rw [← e'] at hc b2
    obtain rfl | rfl : d = 0 ∨ d = 1 := by omega
    all_goals obtain rfl | rfl : c = 0 ∨ c = 1 := by omega
    · rw [codeN_inj (r := r) (q := q) e' (fun a ha => h1 a (List.mem_cons_of_mem _ ha)) (fun a ha => h2 a (List.mem_cons_of_mem _ ha)) (by omega)]
    · omega
    · omega
    · rw [codeN_inj (r := r) (q := q) e' (fun a ha => h1 a (List.mem_cons_of_mem _ ha)) (fun a ha => h2 a (List.mem_cons_of_mem _ ha)) (by omega)]
def asc : List Nat → Bool
  | a :: b :: l => decide (a ≤ b) && asc (b :: l)
  | _ => true
theorem asc_le : ∀ {l : List Nat} {a : Nat}, asc (a :: l) = true → ∀ b ∈ l, a ≤ b
  | [], _, _, b, hb => by cases hb
  | c :: l, a, h, b, hb => by
    have h : (decide (a ≤ c) && asc (c :: l)) = true := h
    rw [Bool.and_eq_true, decide_eq_true_eq] at h
    rcases List.mem_cons.mp hb with e | hb
    · rw [e]
      exact h.1
    · exact Nat.le_trans h.1 (asc_le h.2 b hb)
theorem asc_pw : ∀ {l : List Nat}, asc l = true → l.Pairwise (· ≤ ·)
  | [], _ => .nil
  | [a], _ => List.pairwise_singleton _ _
  | a :: b :: l, h => by
    refine List.Pairwise.cons (asc_le h) (asc_pw ?_)
    have h : (decide (a ≤ b) && asc (b :: l)) = true := h
    rw [Bool.and_eq_true] at h
    exact h.2
theorem ris_asc : ∀ n < 5, asc ((risN n).map codeN) = true := by decide +kernel
theorem pw_of {K : PySem.W.Frag} {H : Hp} : ∀ {ys : List V} {M : List (List Nat)}, TnL H ys M → ys.Pairwise (fun x y => ∀ n m, TupI K H x n → TupI K H y m → TS.code 2 n ≤ TS.code 2 m) → M.Pairwise fun r q => codeN r ≤ codeN q
  | [], [], _, _ => .nil
  | [], _ :: _, h, _ => by cases h.1
  | _ :: _, [], h, _ => by cases h.1
  | y :: ys, r :: M, h, p => by
    obtain ⟨x, N, e, h1, h2⟩ := h.uncons
    cases e
    have p1 := List.pairwise_cons.mp p
    refine List.Pairwise.cons (fun q hq => ?_) (pw_of h2 p1.2)
    obtain ⟨i, hi⟩ := List.mem_iff_getElem?.mp hq
    have hi' := (List.getElem?_eq_some_iff.mp hi).1
    have hy : ys[i]? = some (ys[i]'(by rw [h2.1]; exact hi')) := List.getElem?_eq_getElem _
    obtain ⟨a1, e1, t1⟩ := h1
    obtain ⟨a2, e2, t2⟩ := h2.2 i _ q hy hi
    have := p1.1 _ (List.mem_of_getElem? hy) (r.map fun n : Nat => (n : Int)) (q.map fun n : Nat => (n : Int)) ⟨a1, e1, SqT.of (by rw [t1, List.map_map]; rfl)⟩ ⟨a2, e2, SqT.of (by rw [t2, List.map_map]; rfl)⟩
    rw [code_n, code_n] at this
    omega
theorem sorted_is {K : PySem.W.Frag} {H : Hp} {n : Nat} (hn : n < 5) {ys vs : List V} (p : ys.Perm vs) (h : TnL H vs (risN n)) (pw : ys.Pairwise (fun x y => ∀ n m, TupI K H x n → TupI K H y m → TS.code 2 n ≤ TS.code 2 m)) : TnL H ys (risN n) := by
  obtain ⟨M, m1, m2⟩ := h.perm p
  have e : M = risN n := by
    refine List.Perm.eq_of_pairwise (le := fun r q => codeN r ≤ codeN q) (fun a b ha hb h1 h2 => ?_) (pw_of m1 pw) (List.pairwise_map.mp (asc_pw (ris_asc n hn))) m2
    obtain ⟨la, a2⟩ := (ris_len n hn).2 a (m2.mem_iff.mp ha)
    obtain ⟨lb, b2⟩ := (ris_len n hn).2 b hb
    exact codeN_inj (by rw [la, lb]) a2 b2 (Nat.le_antisymm h1 h2)
  rw [← e]
  exact m1
section
variable {P : Program} {w : World} {K : PySem.W.Frag} {mg : Str → Option Value} {base : Heap} {B cT iT cS iS cK aK : Addr}
def spLRi : Sp := fun vs H Q _ => ∃ n : Nat, vs = [.int (n : Nat)] ∧ n < 5 ∧ ∀ H' v, Same H H' → Ls H' v (risN n) → Q v H'
abbrev NLRi : List Str := ["many", "found", "turn", "later", "low", "high"]
theorem scLRi : FnScope NLRi ["many"] (defScope sLRi) := ⟨rfl, rfl, rfl, by decide +kernel, rfl, by decide +kernel, by decide +kernel⟩
theorem ok_lri {f fL : Addr} {fd fdL : FuncData} (F : Fun K "_law_rising" "_law_rising" sLRi f fd) (Z : Bi mg) (hso : mg "sorted" = none) (FL : At K mg "_law_is_below" sLIB fL fdL ["low", "high"]) : FnOk P w K mg base CX0 2 f fd ["many"] spLRi := by
  have GL : FnOk P w K mg base CX0 1 fL fdL ["low", "high"] spLIB := ok_lib FL.F Z
  refine F.ok scLRi (fun vs H Q E h => ?_) (fun cdv A outer sh H vs Q E hr h => ?_)
  · obtain ⟨n, rfl, _⟩ := h
    rfl
  · obtain ⟨n, rfl, h5, k⟩ := h
    have pos : 1 ≤ 2 ^ n := Nat.pow_pos (by decide)
    refine ⟨_, pss_cons (ps_set (i := 1) scLRi.nd rfl (Or.inl rfl) (pe_lst (by exact (pa_cons (pe_tup (by exact (pa_cons pe_int pa_nil))) (pa_cons (pe_tup (by exact (pa_cons pe_int pa_nil))) pa_nil)))))
      (pss_cons (ps_for PassesOwn.never rfl (pi_range1 rfl Z.range (pa_cons (pv 0) pa_nil)) (pg_name (i := 2) scLRi.nd rfl (Or.inl rfl))
        (pss_cons (ps_set (i := 3) scLRi.nd rfl (Or.inl rfl) (pe_lst pa_nil))
        (pss_cons (ps_for PassesOwn.never rfl (pi_list (pv 1)) (pg_name (i := 4) scLRi.nd rfl (Or.inr rfl))
          (pss_one (ps_expr (pe_bm PySem.F.plainAttrs_list PySem.F.slot_list_extend PySem.F.type_list_extend mt_extend (pv 3) (pa_cons
            (pe_lc (own := [("high", 5)]) (g := gName 5) (tt := tB (tCall spLIB [] E0 (tCons (tVar 4) (tCons (tVar 5) tNil)))) (te := tOp (rCatT K) (tVar 4) (tVar 5)) rfl scLRi.nd (pi_list (pv 1)) (blkOk_by (N := NLRi) (sc := defScope sLRi) (by decide +kernel)) (fun _ _ _ _ _ => pg_name (i := 5) scLRi.nd rfl (Or.inl rfl))
              (fun _ _ _ _ _ => pts_one (pt_val (pe_call GL hr (by rfl) FL.g FL.F.kp FL.b .nil pass0 (by exact (pa_cons (pv 4) (pa_cons (pv 5) pa_nil)))))) (fun _ _ _ _ _ => pe_op op_catT (pv 4) (pv 5))) pa_nil)))))
        (pss_one (ps_set (i := 1) scLRi.nd rfl (Or.inl rfl) (pv 3))))))
      (pss_one (ps_ret (pe_callB (cr_sortedTN (d := 2 ^ n) (B := 2) pos) (by rfl) hso (by decide +kernel) (pa_cons (pv 1) pa_nil))))), ?_⟩
    refine ⟨(by show 1 ≤ sizeLine; decide), fun t0 h0 => ⟨(by show 1 ≤ sizeLine; decide), fun t1 h1 => ⟨(by show 2 ≤ sizeLine; decide), fun l hl => ?_⟩⟩⟩
    have s0 := ((same_new (o := .tup [V.int 0]) h0).trans (same_new (o := .tup [V.int 1]) h1)).trans (same_new (o := .lst [.ref t0, .ref t1]) hl)
    have L0 : Ls (upd (upd (upd H t0 (.tup [V.int 0])) t1 (.tup [V.int 1])) l (.lst [.ref t0, .ref t1])) (.ref l) (risN 0) :=
      ⟨l, _, rfl, upd_same, TnL.cons ⟨t0, rfl, (same_new hl) _ _ ((same_new h1) _ _ upd_same)⟩ (TnL.cons ⟨t1, rfl, (same_new hl) _ _ upd_same⟩ TnL.nil)⟩
    generalize upd (upd (upd H t0 (.tup [V.int 0])) t1 (.tup [V.int 1])) l (.lst [.ref t0, .ref t1]) = H0 at s0 L0
    refine ⟨_, rfl, n, rfl, by omega, by omega, ?_⟩
    have e0 : ((n : Int)).toNat = n := by omega
    rw [e0]
    refine for_range (n := n) (fun i σ H' => ∃ (v : V) (u1 u2 u3 : Option V), σ = [some (.int (n : Nat)), some v, u1, u2, u3, none] ∧ Same H H' ∧ Ls H' v (risN i)) ⟨_, none, none, none, rfl, s0, L0⟩ ?_ ?_
    · rintro i σ H1 hi ⟨v, u1, u2, u3, rfl, s1, a, vs, rfl, ea, tl⟩
      obtain ⟨few, shp⟩ := ris_len i (by omega)
      generalize hL : risN i = L at *
      have lv := tl.1
      have p4 : 2 ^ i ≤ 2 ^ 4 := Nat.pow_le_pow_right (by decide) (by omega)
      refine ⟨(by show 0 ≤ sizeLine; decide), fun D hD => ?_⟩
      refine ⟨_, rfl, a, rfl, ⟨_, SqL.of ((same_new hD) _ _ ea)⟩, for_list (K := K) (a := a) (xs := vs) (fun j σ H' => ∃ (w1 w3 : Option V), σ = [some (.int (n : Nat)), some (.ref a), w1, some (.ref D), w3, none] ∧ Same H1 H' ∧ ∃ acc, H' D = some (.lst acc) ∧ TnL H' acc ((L.take j).flatMap fun x => inR L x L.length)) ⟨_, _, rfl, same_new hD, [], upd_same, TnL.nil⟩ (fun j σ H' _ ⟨_, _, _, s, _⟩ => SqL.of (s _ _ ea)) ?_ ?_⟩
      · rintro j x σ H2 hj ⟨w1, w3, rfl, s2, acc, eD, ta⟩
        obtain ⟨x', hx', htx⟩ := tl.at hj
        have l1 := (shp _ (List.mem_of_getElem? hx')).1
        have ea2 := s2 _ _ ea
        refine ⟨_, rfl, .inl ⟨rfl, _, SqL.of eD⟩, _, rfl, a, rfl, ⟨_, SqL.of ea2⟩, fun R hR => walk_it walk_list (fun k H3 => Same H2 H3 ∧ ∃ acc2, H3 R = some (.lst acc2) ∧ TnL H3 acc2 (inR L x' k)) ⟨same_new hR, [], upd_same, TnL.nil⟩ (fun _ _ _ p => SqL.of (p.1 _ _ ea2)) ?_ ?_⟩
        · rintro k' z _ H3 hk ⟨s3, acc3, eR, ta3⟩ ⟨rfl, hz⟩
          obtain ⟨z', hz', htz⟩ := tl.at hz
          have l2 := (shp _ (List.mem_of_getElem? hz')).1
          have s13 := s2.trans s3
          refine ⟨rfl, _, rfl, _, rfl, x, z, x', z', rfl, htx.same s13, htz.same s13, by omega, by omega, fun H4 s4 => ⟨_, rfl, ?_⟩⟩
          have s14 := s13.trans s4
          by_cases hb : lbF x' z' = true
          · obtain ⟨ax, rfl, ex⟩ := htx.same s14
            obtain ⟨az, rfl, ez⟩ := htz.same s14
            have h2 := Nat.pow_pos (n := i) (show 0 < 2 by decide)
            refine go_t hb ⟨_, rfl, _, rfl, ax, az, _, _, rfl, rfl, SqT.of ex, SqT.of ez, ?_, ?_, ?_, ?_⟩
            · intro q
              have := congrArg List.length q
              rw [List.length_map, l1, List.length_nil] at this
              omega
            · rw [List.length_map, List.length_map, sizeLine_eq]
              omega
            · intro q
              have := congrArg List.length q
              rw [List.length_map, l2, List.length_nil] at this
              omega
            · intro _ p hp
              have eR4 := s4 _ _ eR
              have sp := same_new (o := .tup (x'.map nV ++ z'.map nV)) hp
              have eR5 := sp _ _ eR4
              have len := ta3.1
              refine ⟨_, eR5, ?_, same_of ((s3.trans s4).trans sp) hR, _, upd_same, ?_⟩
              · rw [len, sizeLine_eq]
                have := inR_len L x' k'
                omega
              · rw [inR_succ hz', if_pos hb]
                refine ((ta3.same (s4.trans sp)).snoc ⟨p, rfl, ?_⟩).upd eR5
                rw [upd_same, List.map_append]
          · refine go_f (by simpa using hb) ⟨s3.trans s4, acc3, s4 _ _ eR, ?_⟩
            rw [inR_succ hz', if_neg hb, List.append_nil]
            exact ta3.same s4
        · rintro H3 ⟨s3, acc3, eR, ta3⟩
          rw [lv] at ta3
          have eD3 := s3 _ _ eD
          refine ⟨D, R, acc, acc3, rfl, rfl, eD3, eR, ?_, _, _, rfl, same_of (s2.trans s3) hD, _, upd_same, ?_⟩
          · rw [ta.1, ta3.1, sizeLine_eq]
            have q1 := flat_len (f := fun x => inR L x L.length) (m := L.length) (fun r => inR_len L r _) (L.take j)
            have q2 := inR_len L x' L.length
            rw [List.length_take] at q1
            have q3 : L.length * min j L.length ≤ 168 * 168 := Nat.mul_le_mul few (by omega)
            omega
          · rw [take_more hx', List.flatMap_append]
            have := ((ta.same s3).app ta3).upd (o := .lst (acc ++ acc3)) eD3
            simpa using this
      · rintro σ H2 ⟨w1, w3, rfl, s2, acc, eD, ta⟩
        rw [lv, List.take_length] at ta
        refine ⟨_, rfl, .ref D, _, _, _, rfl, s1.trans s2, D, acc, rfl, eD, ?_⟩
        show TnL H2 acc (stepR (risN i))
        rw [hL]
        have : stepR L = L.flatMap fun x => inR L x L.length := by
          unfold stepR inR
          rw [List.take_length]
        rw [this]
        exact ta
    · rintro σ H1 ⟨v, u1, u2, u3, rfl, s1, a, vs, rfl, ea, tl⟩
      refine ⟨_, rfl, a, vs, rfl, SqL.of ea, fun x hx => ?_, fun ys p hp pw hn => ?_⟩
      · obtain ⟨i, hi⟩ := List.mem_iff_getElem?.mp hx
        obtain ⟨r, hr', t, e, ht⟩ := tl.at hi
        obtain ⟨lr, br⟩ := (ris_len n h5).2 r (List.mem_of_getElem? hr')
        refine ⟨r.map fun n : Nat => (n : Int), ⟨t, e, SqT.of (by rw [ht, List.map_map]; rfl)⟩, by rw [List.length_map, lr], fun m hm => ?_⟩
        obtain ⟨b, hb, rfl⟩ := List.mem_map.mp hm
        have := br b hb
        omega
      · have sn := same_new (o := .lst ys) hn
        exact k _ _ (s1.trans sn) ⟨p, ys, rfl, upd_same, (sorted_is h5 hp tl pw).same sn⟩
end
end K40
/-! facts about numbers. -/
namespace K40
open PySem
def markN (ns : List Nat) : Nat := ns.foldl (fun m v => 2 * m + v) 0
def fiveN : Nat := (((risN 4).map markN).map fun l => (((risN 4).map markN).filter fun h => (l &&& h) == l).length).foldl (· + ·) 0
def marks4 : List Nat := (risN 4).map markN
def fiveM (M : List Nat) : Nat := (M.map fun l => (M.filter fun h => (l &&& h) == l).length).foldl (· + ·) 0
theorem five_is : fiveM ((risN 4).map markN) = 7581 := by decide +kernel
theorem rise5 : riseMany 5 = 7581 := by decide +kernel
theorem rise_few : ∀ n < 5, 1 ≤ n → riseMany n = (risN n).length := by decide +kernel
def partN (row lot : List Nat) : List Nat := ((row.zip lot).filter fun p => p.2 == 1).map (·.1)
def partsN (rows : List (List Nat)) (lot : List Nat) : List (List Nat) := rows.map fun row => partN row lot
def addN (x : Str) (rows : List (List Nat)) (lot : List Nat) : List Nat :=
  (if (x = "wires" ∨ x = "nots") ∧ lot.foldl (· + ·) 0 = 1 then markN ((partsN rows lot).map fun p => List.headD p 0) :: (if x = "nots" then [markN ((partsN rows lot).map fun p => 1 - List.headD p 0)] else []) else []) ++
  (if x = "ands" then [markN ((partsN rows lot).map fun p => (List.tail p).foldl min (List.headD p 0))] else []) ++
  (if x = "ors" then [markN ((partsN rows lot).map fun p => (List.tail p).foldl max (List.headD p 0))] else []) ++
  (if x = "sums" then [markN ((partsN rows lot).map fun p => List.foldl (· + ·) 0 p % 2), markN ((partsN rows lot).map fun p => (List.foldl (· + ·) 0 p + 1) % 2)] else [])
def foundN (x : Str) (n : Nat) : List Nat := 0 :: markN ((lrows n).map fun _ => 1) :: (((lrows n).drop 1).flatMap (addN x (lrows n)))
def nodupB : List Nat → Bool
  | [] => true
  | a :: l => !l.contains a && nodupB l
theorem nodup_of : ∀ {l : List Nat}, nodupB l = true → l.Nodup
  | [], _ => .nil
  | a :: l, h => by
    have h : (!l.contains a && nodupB l) = true := h
    rw [Bool.and_eq_true, Bool.not_eq_true'] at h
    refine List.Pairwise.cons (fun b hb e => ?_) (nodup_of h.2)
    subst e
    have := h.1
    rw [List.contains_iff_mem.mpr hb] at this
    cases this
def fiveK : List Str := ["wires", "nots", "ands", "ors", "sums"]
theorem found_is : ∀ x ∈ fiveK, ∀ n < 7, 1 ≤ n → nodupB (foundN x n) = true ∧ (foundN x n).length = cntF x n := by decide +kernel
end K40
/-! How many a list of unlike ints has as a set. -/
namespace SQ
open PySem PySem.Spec PyProof.Rows L2
def tLenSetN (K : PySem.W.Frag) (ta : TE) : TE := fun σ H Q => ta σ H fun x H1 => ∃ (l : Addr) (ns : List Int), x = .ref l ∧ SqL K H1 l (ns.map V.int) ∧ ns.length ≤ 4000 ∧ ns.Nodup ∧ Q (.int ns.length) H1
theorem pe_lenSetN {X : Cx} {a : Expr} {ta : TE} {p p2 q pos : Pos} (hg : Gl X "len") (hm : X.mg "len" = none) (hg2 : Gl X "set") (hm2 : X.mg "set" = none) (ha : PE X a ta) (hc : X.calm = true := by rfl)
    (na : starEach [a] X.env = (false, eval a X.env) :: starEach [] X.env := by rfl) : PE X (.Call (.Name "len" p) [.Call (.Name "set" p2) [a] [] q] [] pos) (tLenSetN X.K ta) := by
  refine ⟨fun pins s σ H Q I h => Call_ (ld_blt I hg hm boot_len (PyProof.Rows.callWith_builtin1 (PyProof.Rows.args_cons ?_ rfl) rfl rfl))⟩
  refine Call_ (ld_blt I hg2 hm2 boot_set (PyProof.Rows.callWith_type1 (PyProof.Rows.args_cons (thn (ha.run pins s σ H _ I h) ?_) na) na rfl))
  rintro v s1 ⟨x, H1, I1, r1, l, ns, rfl, hq, few, nd, k⟩
  refine PyProof.Rows.args_nil ?_
  obtain rfl : v = Value.ref l := r1
  obtain ⟨its, r, pl, hz⟩ := I1.list hq
  have el : its.toArray.size = ns.length := by rw [List.size_toArray, ← r.length, List.length_map]
  refine call_set_list (I1.ok.hd hc) pl.isList (by simpa using ints_of_vals r) (by rw [el]; unfold scanBound; omega) fun h' tk hS hk => PyProof.Rows.args_nil ?_
  rw [el, RZ.firstMet_nodup nd ns.length (Nat.le_refl _), List.take_length] at hS
  obtain ⟨o, es, ep, t, ho, hex, hd, _, _, _, hf, hn⟩ := hS
  have I2 : Inv X pins σ H1 { s1 with heap := h', toks := tk } := I1.kept fun b o e => hk b o (Heap.lt_size e) e
  exact call_len_set ho hex hd hf (by omega) ⟨.int ns.length, H1, I2.tok _, ⟨_, by rw [hn]⟩, k⟩
end SQ
/-! marks. -/
namespace K40
open PySem L2 FX SQ
theorem and_n (l h : Nat) : Builtin.bitAnd (l : Int) (h : Int) = ((l &&& h : Nat) : Int) := by
  unfold Builtin.bitAnd
  rw [decide_eq_true (show (0 : Int) ≤ l by omega), decide_eq_true (show (0 : Int) ≤ h by omega)]
  rfl
def fiveT (M : List Nat) (i : Nat) : Nat := ((M.take i).map fun l => (M.filter fun h => (l &&& h) == l).length).foldl (· + ·) 0
section
variable {P : Program} {w : World} {K : PySem.W.Frag} {mg : Str → Option Value} {base : Heap} {B cT iT cS iS cK aK : Addr}
abbrev sFive : Stmt := top 38
abbrev sMark : Stmt := top 39
def spMark (K : PySem.W.Frag) : Sp := fun vs H Q _ => ∃ (a : Addr) (kd : Kd) (ns : List Nat), vs = [.ref a] ∧ SqK K H kd a (ns.map nV) ∧ Q (.int (markN ns : Nat)) H
abbrev NMk : List Str := ["answers", "mark", "value"]
theorem scMk : FnScope NMk ["answers"] (defScope sMark) := ⟨rfl, rfl, rfl, by decide +kernel, rfl, by decide +kernel, by decide +kernel⟩
theorem ok_mark {f : Addr} {fd : FuncData} (F : Fun K "_law_mark" "_law_mark" sMark f fd) : FnOk P w K mg base CX0 1 f fd ["answers"] (spMark K) := by
  refine F.ok scMk (fun vs H Q E h => ?_) (fun cdv A outer sh H vs Q E hr h => ?_)
  · obtain ⟨a, kd, ns, rfl, _⟩ := h
    rfl
  · obtain ⟨a, kd, ns, rfl, q, k⟩ := h
    refine ⟨_, pss_cons (ps_set (i := 1) scMk.nd rfl (Or.inl rfl) pe_int)
      (pss_cons (ps_for PassesOwn.never rfl (pi_sq (pv 0)) (pg_name (i := 2) scMk.nd rfl (Or.inl rfl))
        (pss_one (ps_set (i := 1) scMk.nd rfl (Or.inl rfl) (pe_op op_add (pe_op op_mul pe_int (pv 1)) (pv 2)))))
      (pss_one (ps_ret (pv 1)))), ?_⟩
    refine iSq_of (kd := kd) (fun Q kq => ⟨_, rfl, kq⟩) q (for_it (walk_sq (k := kd) (a := a) (xs := ns.map nV) (n := ns.length) (by rw [List.length_map])) (fun i σ H' => ∃ u : Option V, σ = [some (.ref a), some (.int (markN (ns.take i) : Nat)), u] ∧ H' = H) ⟨none, rfl, rfl⟩ (fun i σ H' _ ⟨_, _, e⟩ => e ▸ q) ?_ ?_)
    · rintro i x σ H1 H2 hi ⟨u, rfl, rfl⟩ ⟨rfl, hx⟩
      have hx : (ns.map nV)[i]? = some x := hx
      rw [get_n hi] at hx
      obtain rfl := (Option.some.inj hx).symm
      refine ⟨_, rfl, _, _, rfl, rfl, .inl ⟨by decide, by decide⟩, _, rfl, _, _, rfl, rfl, some (nV (ns.getD i 0)), ?_, rfl⟩
      have hg : ns[i]? = some (ns.getD i 0) := by
        rw [List.getD_eq_getElem?_getD, List.getElem?_eq_getElem hi]
        rfl
      have e : markN (ns.take (i + 1)) = 2 * markN (ns.take i) + ns.getD i 0 := by
        rw [take_more hg]
        unfold markN
        rw [List.foldl_append]
        rfl
      rw [e]
      rfl
    · rintro σ H1 ⟨u, rfl, rfl⟩
      rw [List.take_length]
      exact ⟨_, rfl, k⟩
def spFive : Sp := fun vs H Q _ => vs = [] ∧ ∀ H', Same H H' → Q (.int 7581) H'
abbrev NFv : List Str := ["marks", "total", "low", "answers", "high"]
theorem scFv : FnScope NFv [] (defScope sFive) := ⟨rfl, rfl, rfl, by decide +kernel, rfl, by decide +kernel, by decide +kernel⟩
theorem ris4_len : (risN 4).length = 168 := by decide +kernel
theorem ok_five {f fR fM : Addr} {fd fdR fdM : FuncData} (F : Fun K "_law_five" "_law_five" sFive f fd) (Z : Bi mg) (FR : At K mg "_law_rising" sLRi fR fdR ["many"]) (GR : FnOk P w K mg base CX0 2 fR fdR ["many"] spLRi) (FM : At K mg "_law_mark" sMark fM fdM ["answers"]) :
    FnOk P w K mg base CX0 3 f fd [] spFive := by
  have GM : FnOk P w K mg base CX0 1 fM fdM ["answers"] (spMark K) := ok_mark FM.F
  refine F.ok scFv (fun vs H Q E h => ?_) (fun cdv A outer sh H vs Q E hr h => ?_)
  · rw [h.1]
    rfl
  · obtain ⟨rfl, k⟩ := h
    refine ⟨_, pss_cons (ps_setLc (i := 0) (own := [("answers", 3)]) (g := gName 3) (tt := tYes) (te := tCall (spMark K) [] E0 (tCons (tVar 3) tNil)) rfl scFv.nd rfl rfl (sw_true rfl rfl rfl (by decide +kernel)) (pi_list (pe_call GR hr rfl FR.g FR.F.kp FR.b .nil pass0 (by exact (pa_cons pe_int pa_nil))))
          (blkOk_by (N := NFv) (sc := defScope sFive) (by decide +kernel)) (fun _ _ _ _ _ => pg_name (i := 3) scFv.nd rfl (Or.inl rfl)) (fun _ _ _ _ _ => pts_nil) (fun _ _ _ _ _ => pe_call GM (hr.mono (by decide)) (by rfl) FM.g FM.F.kp FM.b .nil pass0 (by exact (pa_cons (pv 3) pa_nil))))
      (pss_cons (ps_set (i := 1) scFv.nd rfl (Or.inl rfl) pe_int)
      (pss_cons (ps_for PassesOwn.never rfl (pi_list (pv 0)) (pg_name (i := 2) scFv.nd rfl (Or.inr rfl))
        (pss_one (ps_set (i := 1) scFv.nd rfl (Or.inl rfl) (pe_op op_add (pv 1) (pe_callB call_len_seq (by rfl) Z.len PySem.boot_len (pa_cons
          (pe_lc (own := [("high", 4)]) (g := gName 4) (tt := tTest (tOp rEq (tOp (rI0 fun i j => .int (Builtin.bitAnd i j)) (tVar 2) (tVar 4)) (tVar 2))) (te := tVar 4) rfl scFv.nd (pi_list (pv 0)) (blkOk_by (N := NFv) (sc := defScope sFive) (by decide +kernel)) (fun _ _ _ _ _ => pg_name (i := 4) scFv.nd rfl (Or.inl rfl))
            (fun _ _ _ _ _ => pts_one (pt_cmpR op_eq (pe_op op_and (pv 2) (pv 4)) (pv 2) (nomark _))) (fun _ _ _ _ _ => pv 4)) pa_nil))))))
      (pss_one (ps_ret (pv 1))))), ?_⟩
    refine ⟨4, rfl, by decide, fun H1 v s1 l1 => ?_⟩
    have l168 := ris4_len
    have fin := five_is
    generalize hL : risN 4 = L at l1 l168 fin
    obtain ⟨a, vs, rfl, ea, tl⟩ := l1
    have lv := tl.1
    refine ⟨a, rfl, ⟨_, SqL.of ea⟩, fun D hD => walk_it walk_list (fun i H' => Same H1 H' ∧ H' D = some (.lst (((L.take i).map markN).map nV))) ⟨same_new hD, upd_same⟩ (fun i H' _ q => SqL.of (q.1 _ _ ea)) ?_ ?_⟩
    · rintro j x _ H2 hj ⟨s2, eD⟩ ⟨rfl, hx⟩
      obtain ⟨r, hr', t, rfl, et⟩ := tl.at hx
      refine ⟨rfl, _, rfl, t, .T, r, rfl, SqT.of (s2 _ _ et), _, eD, ?_, same_of s2 hD, ?_⟩
      · rw [List.length_map, List.length_map, List.length_take, sizeLine_eq]
        omega
      · rw [upd_same, take_more hr', List.map_append, List.map_append]
        rfl
    rintro H2 ⟨s2, eD⟩
    rw [lv, List.take_length] at eD
    generalize hM : L.map markN = M at eD fin
    have lM : M.length = 168 := by rw [← hM, List.length_map, l168]
    refine ⟨_, rfl, D, rfl, ⟨_, SqL.of eD⟩, for_list (K := K) (a := D) (xs := M.map nV) (fun i σ H' => ∃ u : Option V, σ = [some (.ref D), some (.int (fiveT M i : Nat)), u, none, none] ∧ Same H2 H') ⟨none, rfl, Same.refl _⟩ (fun i σ H' _ ⟨_, _, s⟩ => SqL.of (s _ _ eD)) ?_ ?_⟩
    · rintro j x σ H3 hj ⟨u, rfl, s3⟩
      rw [List.getElem?_map] at hj
      obtain ⟨l, hl, rfl⟩ := Option.map_eq_some_iff.mp hj
      have eD3 := s3 _ _ eD
      refine ⟨_, rfl, _, rfl, D, rfl, ⟨_, SqL.of eD3⟩, fun R hR => walk_it walk_list (fun i H' => Same H3 H' ∧ H' R = some (.lst (((M.take i).filter fun h => (l &&& h) == l).map nV))) ⟨same_new hR, upd_same⟩ (fun i H' _ q => SqL.of (q.1 _ _ eD3)) ?_ ?_⟩
      · rintro i y _ H4 hi ⟨s4, eR⟩ ⟨rfl, hy⟩
        rw [List.getElem?_map] at hy
        obtain ⟨h, hh, rfl⟩ := Option.map_eq_some_iff.mp hy
        refine ⟨rfl, _, rfl, _, rfl, _, _, rfl, rfl, _, rfl, rfl, _, rfl, ?_⟩
        have ec : decide (V.int (Builtin.bitAnd (l : Int) (h : Int)) = V.int (l : Nat)) = ((l &&& h) == l) := by
          rw [and_n]
          by_cases e : (l &&& h) = l
          · rw [e]
            simp
          · rw [beq_eq_false_iff_ne.mpr e]
            exact decide_eq_false fun z => e (by
              have := V.int.inj z
              omega)
        rw [ec]
        by_cases he : ((l &&& h) == l) = true
        · refine go_t he ⟨_, rfl, _, eR, ?_, same_of s4 hR, ?_⟩
          · have h1 := List.length_filter_le (fun h => (l &&& h) == l) (M.take i)
            rw [List.length_take] at h1
            rw [List.length_map, sizeLine_eq]
            omega
          · rw [upd_same, take_more hh, List.filter_append, List.map_append, List.filter_cons, if_pos he]
            rfl
        · refine go_f (by simpa using he) ⟨s4, ?_⟩
          rw [take_more hh, List.filter_append, List.filter_cons, if_neg he]
          show H4 R = some (.lst ((_ ++ []).map nV))
          rw [List.append_nil]
          exact eR
      · rintro H4 ⟨s4, eR⟩
        rw [List.length_map, List.take_length] at eR
        refine ⟨R, _, rfl, .inl (SqL.of eR), _, _, rfl, rfl, some (nV l), ?_, s3.trans s4⟩
        rw [List.length_map]
        show _ = [some (V.ref D), some (V.int (fiveT M (j + 1) : Nat)), some (nV l), none, none]
        have e : fiveT M (j + 1) = fiveT M j + (M.filter fun h => (l &&& h) == l).length := by
          unfold fiveT
          rw [take_more hl, List.map_append, List.foldl_append]
          rfl
        rw [e]
        rfl
    · rintro σ H3 ⟨u, rfl, s3⟩
      have e : fiveT M (M.map nV).length = 7581 := by
        rw [List.length_map]
        unfold fiveT
        rw [List.take_length]
        exact fin
      rw [e]
      exact ⟨_, rfl, k _ ((s1.trans s2).trans s3)⟩
end
end K40
/-! all answers of a kind, by the law's own lists. -/
namespace K40
open PySem L2 FX SQ
def lN (ns : List Nat) : D := .list (ns.map nD)
theorem off_upd_ne {H : Hp} {a b : Addr} {o : HO} (h : b ≠ a) : off (upd H b o) a = upd (off H a) b o := by
  funext c
  by_cases e : c = a
  · subst e
    rw [off_same, upd_ne (Ne.symm h), off_same]
  · rw [off_ne e]
    by_cases e2 : c = b
    · subst e2
      rw [upd_same, upd_same]
    · rw [upd_ne e2, upd_ne e2, off_ne e]
theorem off_none {H : Hp} {a b : Addr} (h : H b = none) : off H a b = none := by
  by_cases e : b = a
  · rw [e, off_same]
  · rw [off_ne e]
    exact h
theorem off_sm {H H' : Hp} {a : Addr} (s : Same H H') : Same (off H a) (off H' a) := off_mono fun c o _ e => s c o e
theorem part_ne : ∀ n < 7, ∀ lot ∈ (lrows n).drop 1, ∀ row ∈ lrows n, (partN row lot).isEmpty = false := by decide +kernel
theorem fmin_mem : ∀ (l : List Nat) (a : Nat), l.foldl min a ∈ a :: l
  | [], a => List.mem_cons_self ..
  | b :: l, a => by
    have ih := fmin_mem l (min a b)
    rw [List.foldl_cons]
    rcases List.mem_cons.mp ih with e | e
    · rw [e]
      by_cases h : a ≤ b
      · rw [Nat.min_eq_left h]
        exact List.mem_cons_self ..
      · rw [Nat.min_eq_right (by omega)]
        exact List.mem_cons_of_mem _ (List.mem_cons_self ..)
    · exact List.mem_cons_of_mem _ (List.mem_cons_of_mem _ e)
theorem fmin_le : ∀ (l : List Nat) (a : Nat), l.foldl min a ≤ a ∧ ∀ y ∈ l, l.foldl min a ≤ y
  | [], a => ⟨Nat.le_refl _, fun y hy => by cases hy⟩
  | b :: l, a => by
    obtain ⟨h1, h2⟩ := fmin_le l (min a b)
    rw [List.foldl_cons]
    refine ⟨by omega, fun y hy => ?_⟩
    rcases List.mem_cons.mp hy with e | e
    · omega
    · exact h2 y e
theorem fmax_mem : ∀ (l : List Nat) (a : Nat), l.foldl max a ∈ a :: l
  | [], a => List.mem_cons_self ..
  | b :: l, a => by
    have ih := fmax_mem l (max a b)
    rw [List.foldl_cons]
    rcases List.mem_cons.mp ih with e | e
    · rw [e]
      by_cases h : a ≤ b
      · rw [Nat.max_eq_right h]
        exact List.mem_cons_of_mem _ (List.mem_cons_self ..)
      · rw [Nat.max_eq_left (by omega)]
        exact List.mem_cons_self ..
    · exact List.mem_cons_of_mem _ (List.mem_cons_of_mem _ e)
theorem fmax_le : ∀ (l : List Nat) (a : Nat), a ≤ l.foldl max a ∧ ∀ y ∈ l, y ≤ l.foldl max a
  | [], a => ⟨Nat.le_refl _, fun y hy => by cases hy⟩
  | b :: l, a => by
    obtain ⟨h1, h2⟩ := fmax_le l (max a b)
    rw [List.foldl_cons]
    refine ⟨by omega, fun y hy => ?_⟩
    rcases List.mem_cons.mp hy with e | e
    · omega
    · exact h2 y e
abbrev zI (ns : List Nat) : List Int := ns.map fun n : Nat => (n : Int)
theorem min_is {p : List Nat} (ne : p.isEmpty = false) {m : Int} (h1 : m ∈ zI p) (h2 : ∀ y ∈ zI p, m ≤ y) : m = (((List.tail p).foldl min (List.headD p 0) : Nat) : Int) := by
  cases p with
  | nil => cases ne
  | cons a l =>
    show m = ((l.foldl min a : Nat) : Int)
    obtain ⟨b, hb, rfl⟩ := List.mem_map.mp h1
    have q1 := h2 _ (List.mem_map.mpr ⟨_, fmin_mem l a, rfl⟩)
    obtain ⟨q2, q3⟩ := fmin_le l a
    rcases List.mem_cons.mp hb with e | e
    · omega
    · have := q3 b e
      omega
theorem max_is {p : List Nat} (ne : p.isEmpty = false) {m : Int} (h1 : m ∈ zI p) (h2 : ∀ y ∈ zI p, y ≤ m) : m = (((List.tail p).foldl max (List.headD p 0) : Nat) : Int) := by
  cases p with
  | nil => cases ne
  | cons a l =>
    show m = ((l.foldl max a : Nat) : Int)
    obtain ⟨b, hb, rfl⟩ := List.mem_map.mp h1
    have q1 := h2 _ (List.mem_map.mpr ⟨_, fmax_mem l a, rfl⟩)
    obtain ⟨q2, q3⟩ := fmax_le l a
    rcases List.mem_cons.mp hb with e | e
    · omega
    · have := q3 b e
      omega
theorem fold_add : ∀ (l : List Nat) (a : Nat), l.foldl (· + ·) a = a + l.foldl (· + ·) 0
  | [], a => rfl
  | b :: l, a => by
    rw [List.foldl_cons, List.foldl_cons, fold_add l (a + b), fold_add l (0 + b)]
    omega
theorem sum_is : ∀ p : List Nat, (zI p).sum = ((List.foldl (· + ·) 0 p : Nat) : Int)
  | [] => rfl
  | a :: l => by
    have ih := sum_is l
    have e : (zI (a :: l)).sum = (a : Int) + (zI l).sum := List.sum_cons
    rw [e, ih, List.foldl_cons, fold_add l (0 + a)]
    omega
section
variable {P : Program} {w : World} {K : PySem.W.Frag} {mg : Str → Option Value} {base : Heap} {B cT iT cS iS cK aK : Addr}
abbrev sListed : Stmt := top 40
abbrev tAppM (K : PySem.W.Frag) (te : TE) : TS := tDrop (tBM K "list" rAppend (tVar 3) (tCons (tCall (spMark K) [] E0 (tCons (tLc (iList K (tVar 5)) (gName 9) tYes te [9]) tNil)) tNil))
theorem appM {te : TE} {f : List Nat → Nat} {parts : List (List Nat)} {Fd Pa : Addr} {vals : List Nat} {s0 s1 s2 s4 : Option V} {G : Hp} {En : Ends} (eF : G Fd = some (.lst (vals.map nV))) (few : vals.length < 1000) (np : parts.length ≤ 64) (dP : Dp K (off G Fd) (.ref Pa) (.list (parts.map lN)))
    (ok : ∀ (b : Addr) (p : List Nat) (H' : Hp) (Q : VK), p ∈ parts → SqL K H' b (p.map nV) → Q (nV (f p)) H' → te [s0, s1, s2, some (.ref Fd), s4, some (.ref Pa), none, none, none, some (.ref b)] H' Q)
    (next : ∀ H', Same (off G Fd) (off H' Fd) → H' Fd = some (.lst ((vals ++ [markN (parts.map f)]).map nV)) → En.nx [s0, s1, s2, some (.ref Fd), s4, some (.ref Pa), none, none, none, none] H') :
    tAppM K te En [s0, s1, s2, some (.ref Fd), s4, some (.ref Pa), none, none, none, none] G := by
  obtain ⟨Pa', xs, e, qP, rP⟩ := dp_list (dp_same off_le dP)
  cases e
  have lx : xs.length = parts.length := by rw [dpAll_len rP, List.length_map]
  refine ⟨_, rfl, .inl ⟨rfl, _, SqL.of eF⟩, _, rfl, Pa, rfl, ⟨_, qP⟩, fun R hR => walk_it walk_list (fun i H' => Same G H' ∧ H' R = some (.lst (((parts.take i).map f).map nV))) ⟨same_new hR, upd_same⟩ (fun _ _ _ q => q.1.seq qP) ?_ ?_⟩
  · rintro i x _ H2 hi ⟨s2', eR⟩ ⟨rfl, hx⟩
    obtain ⟨dx, hdx, hxd⟩ := dpAll_get rP hx
    rw [List.getElem?_map] at hdx
    obtain ⟨p, hp, rfl⟩ := Option.map_eq_some_iff.mp hdx
    obtain ⟨b, ys, rfl, qb, rb⟩ := dp_list hxd
    obtain rfl := dpAll_ints rb
    refine ⟨rfl, ok b p H2 _ (List.mem_of_getElem? hp) (s2'.seq qb) ⟨_, eR, ?_, same_of s2' hR, ?_⟩⟩
    · rw [List.length_map, List.length_map, List.length_take, sizeLine_eq]
      omega
    · rw [upd_same, take_more hp, List.map_append, List.map_append]
      rfl
  · rintro H2 ⟨s2', eR⟩
    rw [lx, List.take_length] at eR
    refine ⟨R, .L, parts.map f, rfl, SqL.of eR, Fd, _, _, rfl, rfl, s2' _ _ eF, by rw [List.length_map, sizeLine_eq]; omega, next _ ?_ ?_⟩
    · rw [off_upd]
      exact off_sm s2'
    · rw [upd_same, List.map_append]
      rfl
end
end K40
/-! all answers of a kind, by the law's own lists. -/
namespace K40
open PySem L2 FX SQ
theorem cut1 {xs : List V} (h : 1 ≤ xs.length) : cutV xs (some 1) none = xs.drop 1 := by
  have e : HT.sIx xs.length 0 (some 1) = 1 := by
    show (if (1 : Int) < 0 then ((1 : Int) + (xs.length : Int)).toNat else min (1 : Int).toNat xs.length) = 1
    rw [if_neg (by decide)]
    show min 1 xs.length = 1
    omega
  unfold cutV
  rw [e]
  show List.take (xs.length - 1) (List.drop 1 xs) = _
  rw [← List.length_drop, List.take_length]
theorem head_n {p : List Nat} (ne : p.isEmpty = false) : (p.map nV)[0]? = some (nV (List.headD p 0)) := by
  cases p with
  | nil => cases ne
  | cons a l => rfl
theorem zI_seq {K : PySem.W.Frag} {H : Hp} {b : Addr} {p : List Nat} (q : SqL K H b (p.map nV)) : SqL K H b ((zI p).map V.int) := by
  rw [List.map_map]
  exact q
theorem none_same {H H' : Hp} {a : Addr} (s : Same H H') (h : H' a = none) : H a = none := by
  cases e : H a with
  | none => rfl
  | some o =>
    rw [s a o e] at h
    cases h
theorem addN_len (x : Str) (rows : List (List Nat)) (lot : List Nat) : (addN x rows lot).length ≤ 6 := by
  unfold addN
  simp only [List.length_append]
  have a1 : (if (x = "wires" ∨ x = "nots") ∧ lot.foldl (· + ·) 0 = 1 then markN ((partsN rows lot).map fun p => List.headD p 0) :: (if x = "nots" then [markN ((partsN rows lot).map fun p => 1 - List.headD p 0)] else []) else []).length ≤ 2 := by
    split
    · split <;> simp
    · simp
  have a2 : ∀ (c : Prop) [Decidable c] (l : List Nat) (k : Nat), l.length ≤ k → (if c then l else []).length ≤ k := fun c _ l k h => by
    split
    · exact h
    · exact Nat.zero_le _
  have b1 := a2 (x = "ands") [markN ((partsN rows lot).map fun p => (List.tail p).foldl min (List.headD p 0))] 1 (Nat.le_refl _)
  have b2 := a2 (x = "ors") [markN ((partsN rows lot).map fun p => (List.tail p).foldl max (List.headD p 0))] 1 (Nat.le_refl _)
  have b3 := a2 (x = "sums") [markN ((partsN rows lot).map fun p => List.foldl (· + ·) 0 p % 2), markN ((partsN rows lot).map fun p => (List.foldl (· + ·) 0 p + 1) % 2)] 2 (Nat.le_refl _)
  omega
section
variable {P : Program} {w : World} {K : PySem.W.Frag} {mg : Str → Option Value} {base : Heap} {B cT iT cS iS cK aK : Addr}
def spListed : Sp := fun vs H Q _ => ∃ (x : Str) (n : Nat), vs = [.str x, .int (n : Nat)] ∧ x ∈ fiveK ∧ n < 7 ∧ 1 ≤ n ∧ ∀ H', Same H H' → Q (.int (cntF x n : Nat)) H'
abbrev NLi : List Str := ["kind", "many", "rows", "found", "lot", "parts", "row", "value", "is_in", "part"]
theorem scLi : FnScope NLi ["kind", "many"] (defScope sListed) := ⟨rfl, rfl, rfl, by decide +kernel, rfl, by decide +kernel, by decide +kernel⟩
abbrev teIn (K : PySem.W.Frag) : TE := tLc (iZip2 K (tCons (tVar 6) (tCons (tVar 4) tNil))) (gTup K 2 (gCons (gName 7) (gCons (gName 8) gNil))) (tTest (tOp rEq (tVar 8) (tC (.int 1)))) (tVar 7) [7, 8]
abbrev teAt (K : PySem.W.Frag) : TE := tOp (rIxL K) (tVar 9) (tC (.int 0))
abbrev teNo (K : PySem.W.Frag) : TE := tOp (rI0 fun i j => .int (i - j)) (tC (.int 1)) (tOp (rIxL K) (tVar 9) (tC (.int 0)))
abbrev rInt1 : List V → Hp → VK → Prop := fun xs H Q => (∃ i, xs = [V.int i] ∧ Q (V.int i) H) ∨ ∃ k, xs = [V.bl k] ∧ Q (V.int (if k = true then 1 else 0)) H
abbrev teSum (K : PySem.W.Frag) : TE := tOp (rI (fun _ j => 0 < j) fun i j => .int (i % j)) (tCB rInt1 (tCons (tCB (rSum K) (tCons (tVar 9) tNil)) tNil)) (tC (.int 2))
abbrev teSum1 (K : PySem.W.Frag) : TE := tOp (rI (fun _ j => 0 < j) fun i j => .int (i % j)) (tCB rInt1 (tCons (tOp (rI0 fun i j => .int (i + j)) (tCB (rSum K) (tCons (tVar 9) tNil)) (tC (.int 1))) tNil)) (tC (.int 2))
theorem ok_listed {f fR fM : Addr} {fd fdR fdM : FuncData} (F : Fun K "_law_listed" "_law_listed" sListed f fd) (Z : Bi mg) (hsum : mg "sum" = none) (FR : At K mg "_law_rows" sLR fR fdR ["many"]) (FM : At K mg "_law_mark" sMark fM fdM ["answers"]) : FnOk P w K mg base CX0 2 f fd ["kind", "many"] spListed := by
  have GM : FnOk P w K mg base CX0 1 fM fdM ["answers"] (spMark K) := ok_mark FM.F
  have GR : FnOk P w K mg base CX0 1 fR fdR ["many"] (spLR K) := ok_lr FR.F Z
  refine F.ok scLi (fun vs H Q E h => ?_) (fun cdv A outer sh H vs Q E hr h => ?_)
  · obtain ⟨x, n, rfl, _⟩ := h
    rfl
  · obtain ⟨x, n, rfl, hx, h7, h1, k⟩ := h
    refine ⟨_, pss_cons (ps_set (i := 2) scLi.nd rfl (Or.inl rfl) (pe_call GR hr rfl FR.g FR.F.kp FR.b .nil pass0 (by exact (pa_cons (pv 1) pa_nil))))
      (pss_cons (ps_set (i := 3) scLi.nd rfl (Or.inl rfl) (pe_lst (by exact (pa_cons pe_int (pa_cons (pe_call GM hr rfl FM.g FM.F.kp FM.b .nil pass0 (by exact (pa_cons (pe_lc (own := [("row", 6)]) (g := gName 6) (tt := tYes) (te := tC (.int 1)) rfl scLi.nd (pi_list (pv 2)) (blkOk_by (N := NLi) (sc := defScope sListed) (by decide +kernel)) (fun _ _ _ _ _ => pg_name (i := 6) scLi.nd rfl (Or.inl rfl)) (fun _ _ _ _ _ => pts_nil) (fun _ _ _ _ _ => pe_int)) pa_nil))) pa_nil)))))
      (pss_cons (ps_for PassesOwn.never rfl (pi_list (pe_slice sl_list (pv 2) (po_some pe_int) po_none)) (pg_name (i := 4) scLi.nd rfl (Or.inr rfl))
        (pss_cons (ps_setLc (i := 5) (own := [("row", 6)]) (g := gName 6) (tt := tYes) (te := teIn K) rfl scLi.nd rfl rfl (sw_true rfl rfl rfl (by decide +kernel)) (pi_list (pv 2)) (blkOk_by (N := NLi) (sc := defScope sListed) (by decide +kernel)) (fun _ _ _ _ _ => pg_name (i := 6) scLi.nd rfl (Or.inl rfl)) (fun _ _ _ _ _ => pts_nil)
            (fun _ _ _ _ _ => pe_lc (own := [("value", 7), ("is_in", 8)]) (g := gTup K 2 (gCons (gName 7) (gCons (gName 8) gNil))) (tt := tTest (tOp rEq (tVar 8) (tC (.int 1)))) (te := tVar 7) rfl scLi.nd (pi_zip2 (by rfl) Z.zip (pa_cons (pv 6) (pa_cons (pv 4) pa_nil))) (by exact blkIn (N := NLi) (blkOk_by (by decide +kernel)))
              (fun _ _ _ _ _ => pg_tup rfl (pgs_cons (pg_name (i := 7) scLi.nd rfl (Or.inl rfl)) (pgs_cons (pg_name (i := 8) scLi.nd rfl (Or.inl rfl)) pgs_nil))) (fun _ _ _ _ _ => pts_one (pt_cmpR op_eq (pv 8) pe_int (nomark _))) (fun _ _ _ _ _ => pv 7)))
        (C8.pss_cut (ps_if (PW.pt (pw_and (pt_cmpR op_in_seq (pv 0) (pe_tup (by exact (pa_cons pe_str (pa_cons pe_str pa_nil)))) (by with_unfolding_all rfl)) (pw_and1 (pt_cmpR op_eq (pe_callB (cr_sumT rfl) (by rfl) hsum (by decide +kernel) (pa_cons (pv 4) pa_nil)) pe_int (nomark _)))))
          (pss_cons (ps_expr (pe_bm PySem.F.plainAttrs_list PySem.F.slot_list_append PySem.F.type_list_append mt_append (pv 3) (pa_cons (pe_call GM hr rfl FM.g FM.F.kp FM.b .nil pass0 (by exact (pa_cons (pe_lc (own := [("part", 9)]) (g := gName 9) (tt := tYes) (te := teAt K) rfl scLi.nd (pi_list (pv 5)) (blkOk_by (N := NLi) (sc := defScope sListed) (by decide +kernel)) (fun _ _ _ _ _ => pg_name (i := 9) scLi.nd rfl (Or.inl rfl)) (fun _ _ _ _ _ => pts_nil) (fun _ _ _ _ _ => pe_ix ix_list (pv 9) pe_int (fun _ _ => rfl))) pa_nil))) pa_nil)))
          (pss_one (ps_if (pt_cmpR op_eq (pv 0) pe_str (nomark _)) (pss_one (ps_expr (pe_bm PySem.F.plainAttrs_list PySem.F.slot_list_append PySem.F.type_list_append mt_append (pv 3) (pa_cons (pe_call GM hr rfl FM.g FM.F.kp FM.b .nil pass0 (by exact (pa_cons (pe_lc (own := [("part", 9)]) (g := gName 9) (tt := tYes) (te := teNo K) rfl scLi.nd (pi_list (pv 5)) (blkOk_by (N := NLi) (sc := defScope sListed) (by decide +kernel)) (fun _ _ _ _ _ => pg_name (i := 9) scLi.nd rfl (Or.inl rfl)) (fun _ _ _ _ _ => pts_nil) (fun _ _ _ _ _ => pe_op op_sub pe_int (pe_ix ix_list (pv 9) pe_int (fun _ _ => rfl)))) pa_nil))) pa_nil)))) pss_nil))) pss_nil)
        (C8.pss_cut (ps_if (pt_cmpR op_eq (pv 0) pe_str (nomark _)) (pss_one (ps_expr (pe_bm PySem.F.plainAttrs_list PySem.F.slot_list_append PySem.F.type_list_append mt_append (pv 3) (pa_cons (pe_call GM hr rfl FM.g FM.F.kp FM.b .nil pass0 (by exact (pa_cons (pe_lc (own := [("part", 9)]) (g := gName 9) (tt := tYes) (te := tCB (rMin K) (tCons (tVar 9) tNil)) rfl scLi.nd (pi_list (pv 5)) (blkOk_by (N := NLi) (sc := defScope sListed) (by decide +kernel)) (fun _ _ _ _ _ => pg_name (i := 9) scLi.nd rfl (Or.inl rfl)) (fun _ _ _ _ _ => pts_nil) (fun _ _ _ _ _ => pe_callB (cr_min rfl) (by rfl) Z.min (by decide +kernel) (pa_cons (pv 9) pa_nil))) pa_nil))) pa_nil)))) pss_nil)
        (C8.pss_cut (ps_if (pt_cmpR op_eq (pv 0) pe_str (nomark _)) (pss_one (ps_expr (pe_bm PySem.F.plainAttrs_list PySem.F.slot_list_append PySem.F.type_list_append mt_append (pv 3) (pa_cons (pe_call GM hr rfl FM.g FM.F.kp FM.b .nil pass0 (by exact (pa_cons (pe_lc (own := [("part", 9)]) (g := gName 9) (tt := tYes) (te := tCB (rMax K) (tCons (tVar 9) tNil)) rfl scLi.nd (pi_list (pv 5)) (blkOk_by (N := NLi) (sc := defScope sListed) (by decide +kernel)) (fun _ _ _ _ _ => pg_name (i := 9) scLi.nd rfl (Or.inl rfl)) (fun _ _ _ _ _ => pts_nil) (fun _ _ _ _ _ => pe_callB (cr_max rfl) (by rfl) Z.max (by decide +kernel) (pa_cons (pv 9) pa_nil))) pa_nil))) pa_nil)))) pss_nil)
        (pss_one (ps_if (pt_cmpR op_eq (pv 0) pe_str (nomark _))
          (pss_cons (ps_expr (pe_bm PySem.F.plainAttrs_list PySem.F.slot_list_append PySem.F.type_list_append mt_append (pv 3) (pa_cons (pe_call GM hr rfl FM.g FM.F.kp FM.b .nil pass0 (by exact (pa_cons (pe_lc (own := [("part", 9)]) (g := gName 9) (tt := tYes) (te := teSum K) rfl scLi.nd (pi_list (pv 5)) (blkOk_by (N := NLi) (sc := defScope sListed) (by decide +kernel)) (fun _ _ _ _ _ => pg_name (i := 9) scLi.nd rfl (Or.inl rfl)) (fun _ _ _ _ _ => pts_nil)
              (fun _ _ _ _ _ => pe_op op_mod (pe_callTy call_int1 (by rfl) Z.int (by decide +kernel) (pa_cons (pe_callB (cr_sum rfl) (by rfl) hsum (by decide +kernel) (pa_cons (pv 9) pa_nil)) pa_nil)) pe_int)) pa_nil))) pa_nil)))
          (pss_one (ps_expr (pe_bm PySem.F.plainAttrs_list PySem.F.slot_list_append PySem.F.type_list_append mt_append (pv 3) (pa_cons (pe_call GM hr rfl FM.g FM.F.kp FM.b .nil pass0 (by exact (pa_cons (pe_lc (own := [("part", 9)]) (g := gName 9) (tt := tYes) (te := teSum1 K) rfl scLi.nd (pi_list (pv 5)) (blkOk_by (N := NLi) (sc := defScope sListed) (by decide +kernel)) (fun _ _ _ _ _ => pg_name (i := 9) scLi.nd rfl (Or.inl rfl)) (fun _ _ _ _ _ => pts_nil)
              (fun _ _ _ _ _ => pe_op op_mod (pe_callTy call_int1 (by rfl) Z.int (by decide +kernel) (pa_cons (pe_op op_add (pe_callB (cr_sum rfl) (by rfl) hsum (by decide +kernel) (pa_cons (pv 9) pa_nil)) pe_int) pa_nil)) pe_int)) pa_nil))) pa_nil))))) pss_nil)))))))
      (pss_one (ps_ret (pe_lenSetN (by rfl) Z.len (by rfl) Z.set (pv 3)))))), ?_⟩
    refine ⟨_, rfl, n, rfl, h7, fun H1 v s1 d1 => ?_⟩
    obtain ⟨ra, xs, rfl, qr, rr⟩ := dp_list d1
    have lx : xs.length = (lrows n).length := by rw [dpAll_len rr, List.length_map]
    obtain ⟨len, shp⟩ := lrows_len n h7
    have p64 : 2 ^ n ≤ 2 ^ 6 := Nat.pow_le_pow_right (by decide) (by omega)
    have p2 : 2 ^ 1 ≤ 2 ^ n := Nat.pow_le_pow_right (by decide) h1
    obtain ⟨fnd, fln⟩ := found_is x hx n h7 h1
    refine ⟨_, rfl, ra, rfl, ⟨_, qr⟩, fun R hR => walk_it walk_list (fun i H' => Same H1 H' ∧ H' R = some (.lst ((((lrows n).take i).map fun _ => 1).map nV))) ⟨same_new hR, upd_same⟩ (fun _ _ _ q => q.1.seq qr) ?_ ?_⟩
    · rintro i z _ H2 hi ⟨s2, eR⟩ ⟨rfl, hz⟩
      obtain ⟨dz, hdz, _⟩ := dpAll_get rr hz
      rw [List.getElem?_map] at hdz
      obtain ⟨r, hr', _⟩ := Option.map_eq_some_iff.mp hdz
      refine ⟨rfl, _, eR, ?_, same_of s2 hR, ?_⟩
      · rw [List.length_map, List.length_map, List.length_take, sizeLine_eq]
        omega
      · rw [upd_same, take_more hr', List.map_append, List.map_append]
        rfl
    rintro H2 ⟨s2, eR⟩
    rw [lx, List.take_length] at eR
    refine ⟨R, .L, (lrows n).map fun _ => 1, rfl, SqL.of eR, (by show 2 ≤ sizeLine; decide), fun Fd hF => ?_⟩
    have n1F : H1 Fd = none := none_same s2 hF
    have sF := same_new (o := .lst [V.int 0, V.int (markN ((lrows n).map fun _ => 1) : Nat)]) hF
    have eF0 : (upd H2 Fd (.lst [V.int 0, V.int (markN ((lrows n).map fun _ => 1) : Nat)])) Fd = some (.lst ((0 :: markN ((lrows n).map fun _ => 1) :: []).map nV)) := upd_same
    have s12 := s2.trans sF
    generalize upd H2 Fd (.lst [V.int 0, V.int (markN ((lrows n).map fun _ => 1) : Nat)]) = G0 at sF eF0 s12
    refine ⟨_, rfl, 1, rfl, ra, xs, rfl, s12.seq qr, fun sp hsp => ?_⟩
    rw [cut1 (by omega)]
    have eFs := same_new (o := .lst (xs.drop 1)) hsp _ _ eF0
    have s13 := s12.trans (same_new (o := .lst (xs.drop 1)) hsp)
    have esp : (upd G0 sp (.lst (xs.drop 1))) sp = some (.lst (xs.drop 1)) := upd_same
    have nsp : sp ≠ Fd := fun e => by
      rw [e, eF0] at hsp
      cases hsp
    generalize upd G0 sp (.lst (xs.drop 1)) = G1 at eFs s13 esp
    have sO : Same H1 (off G1 Fd) := fun c o e => by
      rw [off_ne (ne_of_none e n1F)]
      exact s13 c o e
    have bs : ∀ H', Same (off G1 Fd) (off H' Fd) → Same H1 H' := fun H' s => (sO.trans s).trans off_le
    refine ⟨sp, rfl, ⟨_, SqL.of esp⟩, for_list (K := K) (a := sp) (xs := xs.drop 1) (fun j σ H' => ∃ (s4 s5 : Option V), σ = [some (.str x), some (.int (n : Nat)), some (.ref ra), some (.ref Fd), s4, s5, none, none, none, none] ∧ Same (off G1 Fd) (off H' Fd) ∧
      H' Fd = some (.lst ((0 :: markN ((lrows n).map fun _ => 1) :: ((((lrows n).drop 1).take j).flatMap (addN x (lrows n)))).map nV))) ⟨none, none, rfl, Same.refl _, eFs⟩ (fun j σ H' _ ⟨_, _, _, s, _⟩ => SqL.of (off_le _ _ (s _ _ (by rw [off_ne nsp]; exact esp)))) ?_ ?_⟩
    · rintro j y σ H2 hj ⟨s4, s5, rfl, sj, eFj⟩
      have hj' : xs[j + 1]? = some y := by
        rw [List.getElem?_drop] at hj
        rw [Nat.add_comm]
        exact hj
      obtain ⟨dy, hdy, hyd⟩ := dpAll_get rr hj'
      rw [List.getElem?_map] at hdy
      obtain ⟨lot, hlot, rfl⟩ := Option.map_eq_some_iff.mp hdy
      have hl1 : ((lrows n).drop 1)[j]? = some lot := by
        rw [List.getElem?_drop, Nat.add_comm]
        exact hlot
      obtain ⟨la, ls, rfl, ql, rl⟩ := dp_tup hyd
      obtain rfl := dpAll_ints rl
      have llot := (shp _ (List.mem_of_getElem? hlot)).1
      have pne := part_ne n h7 lot (List.mem_of_getElem? hl1)
      have jl : j < (lrows n).length := by
        have := (List.getElem?_eq_some_iff.mp hlot).1
        omega
      have fewV : (0 :: markN ((lrows n).map fun _ => 1) :: ((((lrows n).drop 1).take j).flatMap (addN x (lrows n)))).length ≤ 500 := by
        have q := flat_len (f := addN x (lrows n)) (m := 6) (fun r => addN_len x (lrows n) r) (((lrows n).drop 1).take j)
        have q2 : (((lrows n).drop 1).take j).length ≤ j := by
          rw [List.length_take]
          omega
        rw [List.length_cons, List.length_cons]
        omega
      generalize hV0 : (0 :: markN ((lrows n).map fun _ => 1) :: ((((lrows n).drop 1).take j).flatMap (addN x (lrows n)))) = V0 at eFj fewV
      have b12 := bs H2 sj
      refine ⟨_, rfl, ra, rfl, ⟨_, b12.seq qr⟩, fun R1 hR1 => ?_⟩
      have nR1 : R1 ≠ Fd := fun e => by
        rw [e, eFj] at hR1
        cases hR1
      refine walk_it walk_list (fun i H' => Same H2 H' ∧ Grow K (off H' Fd) R1 (((lrows n).take i).map fun row => lN (partN row lot))) ⟨same_new hR1, by
        rw [off_upd_ne nR1]
        exact Grow.nil⟩ (fun _ _ _ q => (b12.trans q.1).seq qr) ?_ ?_
      · rintro i z _ H3 hi ⟨s3, g3⟩ ⟨rfl, hz⟩
        obtain ⟨dz, hdz, hzd⟩ := dpAll_get rr hz
        rw [List.getElem?_map] at hdz
        obtain ⟨row, hrow, rfl⟩ := Option.map_eq_some_iff.mp hdz
        have lrow := (shp _ (List.mem_of_getElem? hrow)).1
        obtain ⟨za, zs, rfl, qz, rz⟩ := dp_tup hzd
        obtain rfl := dpAll_ints rz
        have b13 := b12.trans s3
        have hA : ∀ H', Same H3 H' → SqK K H' .T za (row.map nV) := fun H' s => seqT (b13.trans s) qz
        have hB : ∀ H', Same H3 H' → SqK K H' .T la (lot.map nV) := fun H' s => seqT (b13.trans s) ql
        obtain ⟨acc, eR1o, _⟩ := id g3
        have eR1 : H3 R1 = some (.lst acc) := off_le _ _ eR1o
        have lacc := g3.len eR1o
        rw [List.length_map, List.length_take] at lacc
        refine ⟨rfl, _, rfl, _, rfl, za, la, _, _, .T, .T, rfl, hA H3 (Same.refl H3), hB H3 (Same.refl H3), fun R2 hR2 => walk_it (walk_zip2 (n := row.length) (by rw [List.length_map, List.length_map, lrow, llot, Nat.min_self])) (fun i' H' => Same H3 H' ∧ H' R2 = some (.lst (((((row.zip lot).take i').filter fun p => p.2 == 1).map (·.1)).map nV))) ⟨same_new hR2, upd_same⟩ (fun i' H' _ q => ⟨hA H' q.1, hB H' q.1⟩) ?_ ?_⟩
        · rintro i' q G2 G3 hi' ⟨s2', eD⟩ ⟨t, z1, z2, rfl, ht', rfl, hz1, hz2⟩
          have hib : i' < lot.length := by omega
          have hz1 : (row.map nV)[i']? = some z1 := hz1
          have hz2 : (lot.map nV)[i']? = some z2 := hz2
          rw [List.getElem?_map, List.getElem?_eq_getElem hi'] at hz1
          rw [List.getElem?_map, List.getElem?_eq_getElem hib] at hz2
          obtain rfl := (Option.some.inj hz1).symm
          obtain rfl := (Option.some.inj hz2).symm
          have s3' := same_new (o := .tup [nV row[i'], nV lot[i']]) ht'
          have hzz : (row.zip lot)[i']? = some (row[i'], lot[i']) := by
            rw [List.getElem?_zip_eq_some]
            exact ⟨List.getElem?_eq_getElem hi', List.getElem?_eq_getElem hib⟩
          have e1 : decide (V.int (lot[i'] : Nat) = V.int 1) = (lot[i'] == 1) := by
            by_cases e : lot[i'] = 1
            · rw [e]
              rfl
            · rw [beq_eq_false_iff_ne.mpr e]
              exact decide_eq_false fun z => e (by
                have := V.int.inj z
                omega)
          refine ⟨t, _, rfl, SqT.of upd_same, rfl, _, _, rfl, _, _, rfl, rfl, rfl, _, rfl, rfl, _, rfl, ?_⟩
          show if decide (V.int (lot[i'] : Nat) = V.int 1) = true then _ else _
          rw [e1]
          by_cases c : (lot[i'] == 1) = true
          · refine go_t c ⟨_, rfl, _, s3' _ _ eD, ?_, same_of (s2'.trans s3') hR2, ?_⟩
            · have := List.length_filter_le (fun p : Nat × Nat => p.2 == 1) ((row.zip lot).take i')
              rw [List.length_take] at this
              rw [List.length_map, List.length_map, sizeLine_eq]
              omega
            · rw [upd_same, take_more hzz, List.filter_append, List.map_append, List.map_append, List.filter_cons, if_pos c]
              rfl
          · refine go_f (by simpa using c) ⟨s2'.trans s3', ?_⟩
            rw [take_more hzz, List.filter_append, List.filter_cons, if_neg c]
            show _ = some (HO.lst (((List.filter _ _ ++ []).map _).map _))
            rw [List.append_nil]
            exact s3' _ _ eD
        · rintro H4 ⟨s4', eR2⟩
          rw [show row.length = (row.zip lot).length from by rw [List.length_zip, lrow, llot, Nat.min_self], List.take_length] at eR2
          have n21 : R2 ≠ R1 := fun e => by
            rw [e, eR1] at hR2
            cases hR2
          have n2F : R2 ≠ Fd := fun e => by
            rw [e, s3 _ _ eFj] at hR2
            cases hR2
          refine ⟨acc, s4' _ _ eR1, by rw [lacc, sizeLine_eq]; omega, same_of (s3.trans s4') hR1, ?_⟩
          rw [off_upd_ne nR1, take_more hrow, List.map_append]
          exact (g3.keep (off_sm s4')).put (off_sm s4' _ _ eR1o) (.lst (SqL.of (by
            rw [off_ne n21, off_ne n2F]
            exact eR2)) (dp_n _))
      rintro H3 ⟨s3, g3⟩
      rw [lx, List.take_length] at g3
      have dP0 := g3.dp
      have dP : Dp K (off H3 Fd) (.ref R1) (.list ((partsN (lrows n) lot).map lN)) := by
        unfold partsN
        rw [List.map_map]
        exact dP0
      have np : (partsN (lrows n) lot).length ≤ 64 := by
        unfold partsN
        rw [List.length_map]
        omega
      have pp : ∀ p ∈ partsN (lrows n) lot, p.isEmpty = false := fun p hp => by
        unfold partsN at hp
        obtain ⟨row, hrow, rfl⟩ := List.mem_map.mp hp
        exact pne row hrow
      have eF3 := s3 _ _ eFj
      have b13 := b12.trans s3
      have sj3 := sj.trans (off_sm s3)
      generalize hPS : partsN (lrows n) lot = PS at dP np pp
      have bit : ∀ p ∈ PS, List.headD p 0 ≤ 1 := fun p hp => by
        rw [← hPS] at hp
        unfold partsN at hp
        obtain ⟨row, hrow, rfl⟩ := List.mem_map.mp hp
        have ne := pne row hrow
        have hb : ∀ a ∈ partN row lot, a < 2 := fun a ha => by
          unfold partN at ha
          obtain ⟨q, hq, rfl⟩ := List.mem_map.mp ha
          exact (shp row hrow).2 _ (List.of_mem_zip (List.mem_filter.mp hq).1).1
        cases hpt : partN row lot with
        | nil => rw [hpt] at ne; cases ne
        | cons a l =>
          have := hb a (by rw [hpt]; exact List.mem_cons_self ..)
          show a ≤ 1
          omega
      generalize hA1 : (if (x = "wires" ∨ x = "nots") ∧ lot.foldl (· + ·) 0 = 1 then markN (PS.map fun p => List.headD p 0) :: (if x = "nots" then [markN (PS.map fun p => 1 - List.headD p 0)] else []) else []) = A1
      generalize hA2 : (if x = "ands" then [markN (PS.map fun p => (List.tail p).foldl min (List.headD p 0))] else []) = A2
      generalize hA3 : (if x = "ors" then [markN (PS.map fun p => (List.tail p).foldl max (List.headD p 0))] else []) = A3
      generalize hA4 : (if x = "sums" then [markN (PS.map fun p => List.foldl (· + ·) 0 p % 2), markN (PS.map fun p => (List.foldl (· + ·) 0 p + 1) % 2)] else []) = A4
      have fw1 : A1.length ≤ 2 := by
        rw [← hA1]
        split
        · split <;> simp
        · simp
      have fw2 : A2.length ≤ 1 := by
        rw [← hA2]
        split <;> simp
      have fw3 : A3.length ≤ 1 := by
        rw [← hA3]
        split <;> simp
      refine ⟨fun σ' H' => σ' = [some (V.str x), some (V.int (n : Nat)), some (V.ref ra), some (V.ref Fd), some (V.ref la), some (V.ref R1), none, none, none, none] ∧ Same (off H3 Fd) (off H' Fd) ∧ H' Fd = some (.lst ((V0 ++ A1).map nV)), ?_, ?_⟩
      · refine ⟨_, rfl, (by show 2 ≤ sizeLine; decide), fun t ht => ⟨t, _, rfl, .inr (SqT.of upd_same), rfl, rfl, _, rfl, ?_⟩⟩
        rw [show inV (V.str x) [V.str "wires", V.str "nots"] = decide (x = "wires" ∨ x = "nots") from (inV_str x ["wires", "nots"]).trans (by rw [Bool.eq_iff_iff, List.contains_iff_mem, decide_eq_true_eq, List.mem_cons, List.mem_singleton])]
        have st := same_new (o := .tup [V.str "wires", V.str "nots"]) ht
        have eFt := st _ _ eF3
        have dPt := dp_same (off_sm st) dP
        have b1t := b13.trans st
        generalize upd H3 t (.tup [V.str "wires", V.str "nots"]) = Ht at st eFt dPt b1t
        by_cases hw : x = "wires" ∨ x = "nots"
        case neg =>
          refine go_f (decide_eq_false hw) ⟨rfl, off_sm st, ?_⟩
          rw [← hA1, if_neg (fun q => hw q.1), List.append_nil]
          exact eFt
        refine go_t (decide_eq_true hw) ⟨_, rfl, la, zI lot, rfl, ?_, rfl, _, rfl, ?_⟩
        · have q := seqT b1t ql
          show SqT K Ht la ((lot.map _).map _)
          rw [List.map_map]
          exact q
        rw [sum_is]
        by_cases hs : lot.foldl (· + ·) 0 = 1
        case neg =>
          refine go_f (decide_eq_false fun z => hs (by have := V.int.inj z; omega)) ⟨rfl, off_sm st, ?_⟩
          rw [← hA1, if_neg (fun q => hs q.2), List.append_nil]
          exact eFt
        refine go_t (decide_eq_true (by rw [hs]; rfl)) ?_
        rw [if_pos ⟨hw, hs⟩] at hA1
        refine appM (f := fun p => List.headD p 0) eFt (by omega) np dPt (fun b p H' Q hp q kq => ⟨_, rfl, b, _, _, nV (List.headD p 0), rfl, rfl, q, atI_nat (j := 0) (head_n (pp p hp)), kq⟩) fun H5 s5' e5 => ?_
        refine ⟨_, rfl, rfl, _, rfl, ?_⟩
        rw [str_dec]
        by_cases hn : x = "nots"
        · rw [if_pos hn] at hA1
          refine go_t (decide_eq_true hn) ?_
          refine appM (f := fun p => 1 - List.headD p 0) e5 (by rw [List.length_append, List.length_singleton]; omega) np (dp_same s5' dPt) (fun b p H' Q hp q kq => ⟨_, rfl, b, _, _, nV (List.headD p 0), rfl, rfl, q, atI_nat (j := 0) (head_n (pp p hp)), _, _, rfl, rfl, by
            have h2 := bit p hp
            show Q (V.int (1 - (List.headD p 0 : Nat))) H'
            rw [show (1 : Int) - (List.headD p 0 : Nat) = ((1 - List.headD p 0 : Nat) : Int) from by omega]
            exact kq⟩) fun H6 s6' e6 => ⟨rfl, ((off_sm st).trans s5').trans s6', ?_⟩
          rw [← hA1, e6, List.append_assoc]
          rfl
        · rw [if_neg hn] at hA1
          refine go_f (decide_eq_false hn) ⟨rfl, (off_sm st).trans s5', ?_⟩
          rw [← hA1, e5]
      rintro _ H4 ⟨rfl, o4, e4⟩
      refine ⟨fun σ' H' => σ' = [some (V.str x), some (V.int (n : Nat)), some (V.ref ra), some (V.ref Fd), some (V.ref la), some (V.ref R1), none, none, none, none] ∧ Same (off H3 Fd) (off H' Fd) ∧ H' Fd = some (.lst ((V0 ++ A1 ++ A2).map nV)), ?_, ?_⟩
      · refine ⟨_, rfl, rfl, _, rfl, ?_⟩
        rw [str_dec]
        by_cases hn : x = "ands"
        · rw [if_pos hn] at hA2
          refine go_t (decide_eq_true hn) ?_
          refine appM (f := fun p => (List.tail p).foldl min (List.headD p 0)) e4 (by simp only [List.length_append]; omega) np (dp_same o4 dP) (fun b p H' Q hp q kq => ⟨_, rfl, b, zI p, rfl, zI_seq q, by rw [List.length_map]; exact List.length_pos_iff.mpr (fun e => by have := pp p hp; rw [e] at this; cases this), fun m h1 h2 => by
            rw [min_is (pp p hp) h1 h2]
            exact kq⟩) fun H6 s6' e6 => ⟨rfl, o4.trans s6', ?_⟩
          rw [← hA2, e6]
        · rw [if_neg hn] at hA2
          refine go_f (decide_eq_false hn) ⟨rfl, o4, ?_⟩
          rw [← hA2, List.append_nil]
          exact e4
      rintro _ H5 ⟨rfl, o5, e5⟩
      refine ⟨fun σ' H' => σ' = [some (V.str x), some (V.int (n : Nat)), some (V.ref ra), some (V.ref Fd), some (V.ref la), some (V.ref R1), none, none, none, none] ∧ Same (off H3 Fd) (off H' Fd) ∧ H' Fd = some (.lst ((V0 ++ A1 ++ A2 ++ A3).map nV)), ?_, ?_⟩
      · refine ⟨_, rfl, rfl, _, rfl, ?_⟩
        rw [str_dec]
        by_cases hn : x = "ors"
        · rw [if_pos hn] at hA3
          refine go_t (decide_eq_true hn) ?_
          refine appM (f := fun p => (List.tail p).foldl max (List.headD p 0)) e5 (by simp only [List.length_append]; omega) np (dp_same o5 dP) (fun b p H' Q hp q kq => ⟨_, rfl, b, zI p, rfl, zI_seq q, by rw [List.length_map]; exact List.length_pos_iff.mpr (fun e => by have := pp p hp; rw [e] at this; cases this), fun m h1 h2 => by
            rw [max_is (pp p hp) h1 h2]
            exact kq⟩) fun H6 s6' e6 => ⟨rfl, o5.trans s6', ?_⟩
          rw [← hA3, e6]
        · rw [if_neg hn] at hA3
          refine go_f (decide_eq_false hn) ⟨rfl, o5, ?_⟩
          rw [← hA3, List.append_nil]
          exact e5
      rintro _ H6 ⟨rfl, o6, e6⟩
      have last : V0 ++ A1 ++ A2 ++ A3 ++ A4 = 0 :: markN ((lrows n).map fun _ => 1) :: ((((lrows n).drop 1).take (j + 1)).flatMap (addN x (lrows n))) := by
        rw [take_more hl1, List.flatMap_append, ← hV0, ← hA1, ← hA2, ← hA3, ← hA4, ← hPS]
        unfold addN
        simp [List.append_assoc]
      refine ⟨_, rfl, rfl, _, rfl, ?_⟩
      rw [str_dec]
      by_cases hn : x = "sums"
      · rw [if_pos hn] at hA4
        refine go_t (decide_eq_true hn) ?_
        refine appM (f := fun p => List.foldl (· + ·) 0 p % 2) e6 (by simp only [List.length_append]; omega) np (dp_same o6 dP) (fun b p H' Q hp q kq => ⟨_, rfl, b, zI p, rfl, zI_seq q, .inl ⟨_, rfl, _, _, rfl, rfl, (by show (0 : Int) < 2; decide), by
            rw [sum_is]
            exact kq⟩⟩) fun H7 s7' e7 => ?_
        refine appM (f := fun p => (List.foldl (· + ·) 0 p + 1) % 2) e7 (by simp only [List.length_append, List.length_singleton]; omega) np (dp_same (o6.trans s7') dP) (fun b p H' Q hp q kq => ⟨_, rfl, b, zI p, rfl, zI_seq q, _, _, rfl, rfl, .inl ⟨_, rfl, _, _, rfl, rfl, (by show (0 : Int) < 2; decide), by
            rw [sum_is]
            exact kq⟩⟩) fun H8 s8' e8 => ⟨_, _, rfl, sj3.trans ((o6.trans s7').trans s8'), ?_⟩
        rw [e8, ← last, ← hA4, List.append_assoc _ [_] [_]]
        rfl
      · rw [if_neg hn] at hA4
        refine go_f (decide_eq_false hn) ⟨_, _, rfl, sj3.trans o6, ?_⟩
        rw [← last, ← hA4, List.append_nil]
        exact e6
    · rintro σ H2 ⟨s4, s5, rfl, sj, eFj⟩
      rw [List.length_drop, lx, show (lrows n).length - 1 = ((lrows n).drop 1).length from by rw [List.length_drop], List.take_length] at eFj
      refine ⟨_, rfl, Fd, zI (foundN x n), rfl, SqL.of (by rw [List.map_map]; exact eFj), ?_, ?_, ?_⟩
      · rw [List.length_map]
        have q := flat_len (f := addN x (lrows n)) (m := 6) (fun r => addN_len x (lrows n) r) ((lrows n).drop 1)
        have q2 : ((lrows n).drop 1).length ≤ 64 := by
          rw [List.length_drop]
          omega
        unfold foundN
        rw [List.length_cons, List.length_cons]
        omega
      · exact List.pairwise_map.mpr (List.Pairwise.imp (fun {a b} h e => h (by omega)) (nodup_of fnd))
      · rw [List.length_map, fln]
        exact k H2 (s1.trans (bs H2 sj))
end
end K40
/-! what is due; what a work is refused with. -/
namespace K40
open PySem L2 FX SQ LamX
section
variable {P : Program} {w : World} {K : PySem.W.Frag} {mg : Str → Option Value} {base : Heap} {B cT iT cS iS cK aK : Addr}
abbrev sDue : Stmt := top 41
def spDue : Sp := fun vs H Q _ => ∃ (x : Str) (n : Nat), vs = [.str x, .int (n : Nat)] ∧ x ∈ KS ∧ n < 7 ∧ 1 ≤ n ∧ (x = "rising" → n ≤ 5) ∧ ∀ H', Same H H' → Q (.int (cntF x n : Nat)) H'
abbrev NDu : List Str := ["kind", "many", "many_rows", "due", "turn"]
theorem scDu : FnScope NDu ["kind", "many"] (defScope sDue) := ⟨rfl, rfl, rfl, by decide +kernel, rfl, by decide +kernel, by decide +kernel⟩
theorem cnt_all (n : Nat) : cntF "all" n = 2 ^ (2 ^ n) := by
  unfold cntF
  rw [if_neg (by decide), if_neg (by decide), if_neg (by decide), if_neg (by decide), if_pos rfl]
theorem cnt_rise (n : Nat) : cntF "rising" n = riseMany n := by
  unfold cntF
  rw [if_neg (by decide), if_neg (by decide), if_pos rfl]
theorem ok_due {f fR fV fG fL : Addr} {fd fdR fdV fdG fdL : FuncData} (F : Fun K "_law_due" "_law_due" sDue f fd) (Z : Bi mg) (FR : At K mg "_law_rows" sLR fR fdR ["many"]) (FV : At K mg "_law_five" sFive fV fdV []) (GV : FnOk P w K mg base CX0 3 fV fdV [] spFive)
    (FG : At K mg "_law_rising" sLRi fG fdG ["many"]) (GG : FnOk P w K mg base CX0 2 fG fdG ["many"] spLRi) (FL : At K mg "_law_listed" sListed fL fdL ["kind", "many"]) (GL : FnOk P w K mg base CX0 2 fL fdL ["kind", "many"] spListed) :
    FnOk P w K mg base CX0 4 f fd ["kind", "many"] spDue := by
  have GR : FnOk P w K mg base CX0 1 fR fdR ["many"] (spLR K) := ok_lr FR.F Z
  refine F.ok scDu (fun vs H Q E h => ?_) (fun cdv A outer sh H vs Q E hr h => ?_)
  · obtain ⟨x, n, rfl, _⟩ := h
    rfl
  · obtain ⟨x, n, rfl, hx, h7, h1, h5, k⟩ := h
    refine ⟨_, pss_cons (ps_if (pt_cmpR op_eq (pv 0) pe_str (nomark _))
        (pss_cons (ps_par rfl scDu.nd (i := 2) (j := 3) rfl rfl (by decide) rfl rfl (by exact (pa_cons (pe_callB call_len_seq (by rfl) Z.len PySem.boot_len (pa_cons (pe_call GR (hr.mono (by decide)) rfl FR.g FR.F.kp FR.b .nil pass0 (by exact (pa_cons (pv 1) pa_nil))) pa_nil)) (pa_cons pe_int pa_nil))) (by rfl))
        (pss_cons (ps_for PassesOwn.never rfl (pi_range1 rfl Z.range (pa_cons (pv 2) pa_nil)) (pg_name (i := 4) scDu.nd rfl (Or.inl rfl))
          (pss_one (ps_set (i := 3) scDu.nd rfl (Or.inl rfl) (pe_op op_mul pe_int (pv 3)))))
        (pss_one (ps_ret (pv 3))))) pss_nil)
      (pss_cons (ps_if (pt_cmpR op_eq (pv 0) pe_str (nomark _)) (pss_one (ps_ret (pe_ifExp (pt_cmpR op_eq (pv 1) pe_int (nomark _)) (pe_call0 GV hr (by rfl) FV.g FV.F.kp FV.b .nil pass0) (pe_callB call_len_seq (by rfl) Z.len PySem.boot_len (pa_cons (pe_call GG (hr.mono (by decide)) rfl FG.g FG.F.kp FG.b .nil pass0 (by exact (pa_cons (pv 1) pa_nil))) pa_nil))))) pss_nil)
      (pss_one (ps_ret (pe_call GL (hr.mono (by decide)) rfl FL.g FL.F.kp FL.b .nil pass0 (by exact (pa_cons (pv 0) (pa_cons (pv 1) pa_nil))))))), ?_⟩
    refine ⟨_, rfl, rfl, _, rfl, ?_⟩
    rw [str_dec]
    by_cases e1 : x = "all"
    · subst e1
      refine go_t (decide_eq_true rfl) ⟨_, rfl, n, rfl, h7, fun H1 v s1 d1 => ?_⟩
      obtain ⟨a, xs, rfl, q, r⟩ := dp_list d1
      have lx : xs.length = 2 ^ n := by rw [dpAll_len r, List.length_map, (lrows_len n h7).1]
      have p64 : 2 ^ n ≤ 2 ^ 6 := Nat.pow_le_pow_right (by decide) (by omega)
      refine ⟨a, xs, rfl, .inl q, _, _, rfl, ?_⟩
      rw [lx]
      refine ⟨_, rfl, ((2 ^ n : Nat) : Int), rfl, by omega, by omega, ?_⟩
      rw [Int.toNat_natCast]
      refine for_range (n := 2 ^ n) (fun i σ H' => ∃ u : Option V, σ = [some (.str "all"), some (.int (n : Nat)), some (.int (2 ^ n : Nat)), some (.int (2 ^ i : Nat)), u] ∧ H' = H1) ⟨none, rfl, rfl⟩ ?_ ?_
      · rintro i σ H' hi ⟨u, rfl, rfl⟩
        refine ⟨_, rfl, _, _, rfl, rfl, .inl ⟨by decide, by decide⟩, some (.int (0 + (i : Int))), ?_, rfl⟩
        show _ = [_, _, _, some (V.int (2 ^ (i + 1) : Nat)), some (V.int (0 + (i : Int)))]
        rw [Nat.pow_succ, Nat.mul_comm]
        rfl
      · rintro σ H' ⟨u, rfl, rfl⟩
        refine ⟨_, rfl, ?_⟩
        rw [← cnt_all]
        exact k _ s1
    refine go_f (decide_eq_false e1) ⟨_, rfl, rfl, _, rfl, ?_⟩
    rw [str_dec]
    by_cases e2 : x = "rising"
    · subst e2
      rw [cnt_rise] at k
      have n5 := h5 rfl
      refine go_t (decide_eq_true rfl) ⟨_, rfl, rfl, _, rfl, ?_⟩
      by_cases hn : n = 5
      · subst hn
        rw [rise5] at k
        exact go_t (decide_eq_true rfl) ⟨rfl, fun H1 s1 => k H1 s1⟩
      · refine go_f (decide_eq_false fun z => hn (by have := V.int.inj z; omega)) ⟨_, rfl, n, rfl, by omega, fun H1 v s1 l1 => ?_⟩
        obtain ⟨a, vs, rfl, ea, tl⟩ := l1
        refine ⟨a, vs, rfl, .inl (SqL.of ea), ?_⟩
        rw [tl.1, ← rise_few n (by omega) h1]
        exact k H1 s1
    refine go_f (decide_eq_false e2) ⟨_, rfl, _, rfl, x, n, rfl, ?_, h7, h1, k⟩
    unfold KS at hx
    unfold fiveK
    simp only [List.mem_cons, List.not_mem_nil, or_false] at hx ⊢
    rcases hx with h | h | h | h | h | h | h
    · exact .inl h
    · exact .inr (.inl h)
    · exact .inr (.inr (.inl h))
    · exact .inr (.inr (.inr (.inl h)))
    · exact absurd h e2
    · exact .inr (.inr (.inr (.inr h)))
    · exact absurd h e1
end
abbrev sErr : Stmt := top 34
/-- the error of a class is caught and told -/
def Hit (C : Addr) (fl : Str) (wd : Str) (Q : VK) (cls : Value) (d : Option Addr) (H : Hp) : Prop := cls = .ref C ∧ ∃ dd v, d = some dd ∧ H dd = some (.xd [(fl, v)]) ∧ ∀ t, H t = none → Q (.ref t) (upd H t (.tup [.str wd, v]))
def Hit0 (C : Addr) (wd : Str) (Q : VK) (cls : Value) (H : Hp) : Prop := cls = .ref C ∧ ∀ t, H t = none → Q (.ref t) (upd H t (.tup [.str wd, .int 0]))
def ErrW (cK cS : Addr) (Q : VK) : XK := fun cls d H => Hit0 cK "kind" Q cls H ∨ Hit cS "word" "size" Q cls d H
def NoW (Q : VK) : VK := fun _ H' => ([V.str "none", V.int 0] : List V).length ≤ sizeLine ∧ ∀ t, H' t = none → Q (.ref t) (upd H' t (.tup [V.str "none", V.int 0]))
def TTerr (cK cS : Addr) : (XK → Hp → VK → Prop) → Hp → VK → Prop := fun tl H Q => tl (ErrW cK cS Q) H (NoW Q)
def suErr (C : Addr) (fl wd : Str) : Su := fun a cls d => tRet (tTup (tCons (tC (.str wd)) (tCons (tFld C fl a cls d (tVar 1)) tNil)))
def suErr0 (wd : Str) : Su := fun a cls d => tRet (tTup (tCons (tC (.str wd)) (tCons (tC (.int 0)) tNil)))
theorem suErr_ok {C : Addr} {fl wd : Str} {Q : VK} {d : Option Addr} {H : Hp} {a : Addr} {D : Ends} {σ : L2.St} (h : Hit C fl wd Q (.ref C) d H) (hrt : D.rt = Q) (hs : σ[1]? = some (some (.ref a))) : suErr C fl wd a (.ref C) d D σ H := by
  obtain ⟨_, dd, v, rfl, ed, k⟩ := h
  refine ⟨_, hs, rfl, rfl, dd, v, rfl, ed, (by show 2 ≤ sizeLine; decide), fun t ht => ?_⟩
  rw [hrt]
  exact k t ht
abbrev NErr : List Str := ["work", "e"]
theorem scErr : FnScope NErr ["work"] (defScope sErr) := ⟨rfl, rfl, rfl, by decide +kernel, rfl, by decide +kernel, by decide +kernel⟩
section
variable {B cT iT cS iS cK aK : Addr}
theorem err_gives {X : Cx} {g : Addr} {cdg : Value} {q : Str} (T : Ers X.K X.mg B cT iT cS iS cK aK) : GivesTo X NErr "_law_refusal" (defScope sErr) g cdg (defBody sErr) "work" q (TTerr cK cS) := by
  intro f c' s H Q tq act hc h
  refine ⟨_, pss_cons (ps_tryCl (X := (cxOf C8.CX0 X.prog X.w X.K X.mg X.base NErr "_law_refusal" (defScope sErr) g cdg X.A X.stack s H C8.E0).nox) (Wout := fun _ _ _ _ => False)
      (l := [(.ref cK, none, suErr0 "kind"), (.ref cS, some 1, suErr cS "word" "size"), (.ref B, none, suErr0 "other")])
      (tb := fun W D σ H => ∃ Ech : XK, (∀ cls d σ' H', Ech cls d H' → σ'.length = 2 → W cls d σ' H') ∧ σ[0]? = some (some (.ref f)) ∧ H c' = some (CodeO c' q) ∧ tq Ech H (fun _ H' => D.nx σ H'))
      rfl rfl scErr.nd LamX.takes0 (fun W pn xe tk _ => ?_)
      (by exact (Cl.bare ⟨rfl, by decide, Or.inl T.k.gC⟩ (fun a oe cls d pn hz hf => pss_one (ps_ret (pe_tup (by exact (pa_cons pe_str (pa_cons pe_int pa_nil))))))
        (Cl.named (i := 1) rfl rfl ⟨rfl, by decide, Or.inl T.s.T.gC⟩ (fun a oe cls d pn hz hf => pss_one (ps_ret (pe_tup (by exact (pa_cons pe_str (pa_cons (pe_errfield T.s.T T.s.U hz hf (pv 1)) pa_nil))))))
        (Cl.bare ⟨rfl, by decide, Or.inl T.S.gB⟩ (fun a oe cls d pn hz hf => pss_one (ps_ret (pe_tup (by exact (pa_cons pe_str (pa_cons pe_int pa_nil))))))
        Cl.nil)))))
      (pss_one (ps_ret (pe_tup (by exact (pa_cons pe_str (pa_cons pe_int pa_nil)))))), ?_⟩
  · refine ⟨fun pins s' σ H' D I h' => ?_⟩
    obtain ⟨Ech, hW, h1, h2, h3⟩ := h'
    have tk' : Takes ((cxOf C8.CX0 X.prog X.w X.K X.mg X.base NErr "_law_refusal" (defScope sErr) g cdg X.A X.stack s H C8.E0).tr pn xe) (fun cls d σ' H' => σ'.length = 2 → W cls d σ' H') := fun e s'' x => by
      obtain ⟨a, B, sI, pins', σ', H'', cls, d, e1, J, r1, r2, r3, r4, r5, r6, w⟩ := x
      exact tk e s'' ⟨a, B, sI, pins', σ', H'', cls, d, e1, J, r1, r2, r3, r4, r5, r6, w J.len⟩
    have hp := fun p1 p2 => act (fun cls d σ' H' => σ'.length = 2 → W cls d σ' H') pn xe Ech p1 p2 tk' hW
    exact (pss_one (ps_expr (hp _ _))).run pins s' σ H' D I ⟨h1, h2, h3⟩
  · refine ⟨ErrW cK cS Q, fun cls d σ' H' he hl => ?_, rfl, hc, h⟩
    have s1 : ∀ a : Addr, (σ'.set 1 (some (.ref a)))[1]? = some (some (V.ref a)) := fun a => by rw [List.getElem?_set_self (by omega)]
    rcases he with he | he
    all_goals (obtain rfl := he.1)
    · exact ⟨true, T.k.own, fun _ a _ => ⟨(by show 2 ≤ sizeLine; decide), fun t ht => he.2 t ht⟩, fun z => nomatch z⟩
    · exact ⟨false, T.s.T.other T.S T.k (by decide) (by decide), fun z => (nomatch z), fun _ => ⟨true, T.s.T.own, fun _ a _ => suErr_ok he rfl (s1 a), fun z => nomatch z⟩⟩
end
end K40
/-! the law. -/
namespace K40
open PySem L2 FX SQ LamX
theorem But.off {p : Addr} {H H' : Hp} (b : But p H H') : Same (off H p) (off H' p) := off_mono fun c o n e => b c o e n
theorem But.of {p : Addr} {H H' : Hp} (s : Same H H') : But p H H' := fun c o e _ => s c o e
theorem Box.same {p : Addr} {H H' : Hp} (s : Same H H') (b : Box H p) : Box H' p := by
  obtain ⟨x, y, z, e⟩ := b
  exact ⟨x, y, z, s _ _ e⟩
theorem ifE {c : Prop} [Decidable c] {ta tb : TE} {σ : L2.St} {H : Hp} {Q : VK} (R : V → Hp → Prop) (h1 : c → ∀ Q' : VK, (∀ x H', R x H' → Q' x H') → ta σ H Q') (h2 : ¬ c → ∀ Q' : VK, (∀ x H', R x H' → Q' x H') → tb σ H Q') (h : ∀ x H', R x H' → Q x H') : if c then ta σ H Q else tb σ H Q := by
  split
  · rename_i e
    exact h1 e Q h
  · rename_i e
    exact h2 e Q h
theorem nat_of {d m : Int} (h0 : 0 ≤ d) (h1 : d < m) : ∃ n : Nat, d = (n : Int) ∧ (n : Int) < m := ⟨d.toNat, by omega, by omega⟩
theorem none_but {p a : Addr} {H H' : Hp} (b : But p H H') (n : a ≠ p) (h : H' a = none) : H a = none := by
  cases e : H a with
  | none => rfl
  | some o =>
    rw [b a o e n] at h
    cases h

theorem Tabs.same {T : List (Addr × Str)} {H H' : Hp} (t : Tabs T H) (s : Same H H') : Tabs T H' := t.ext s
theorem Tabs.but {T : List (Addr × Str)} {p : Addr} {H H' : Hp} (t : Tabs T H) (hb : Box H p) (s : But p H H') : Tabs T H' := by
  obtain ⟨x, y, z, q⟩ := hb
  intro u hu
  obtain ⟨ps, h1, h2, h3⟩ := t u hu
  refine ⟨ps, s _ _ h1 fun z => (by rw [z, q] at h1; cases h1), h2, fun pos cv hc => ?_⟩
  obtain ⟨c, e1, e2⟩ := h3 pos cv hc
  exact ⟨c, e1, s _ _ e2 fun z => by rw [z, q] at e2; unfold CodeO at e2; cases e2⟩
structure FunC (K : PySem.W.Frag) (x : Str) (st : Stmt) (f c : Addr) (fd : FuncData) : Prop where
  ex : ∃ oc od kV doc pm an ct osl, fd = PySem.W.fnOf x x (defArgs st) (defBody st) (defScope st) .none kV doc pm an (.ref c) ct ∧ K.lookup f = some ⟨oc, od, .func fd, osl⟩ ∧ PySem.W.codeIn K (.ref c) x = true
  kp : PySem.W.keepIn K (.ref f) = true
theorem FunC.ok {P : Program} {w : World} {K : PySem.W.Frag} {mg : Str → Option Value} {base : Heap} {x : Str} {st : Stmt} {f c : Addr} {fd : FuncData} {N ps : List Str} {k : Nat} {sp : Sp} (F : FunC K x st f c fd) (S : FnScope N ps (defScope st)) (len : ∀ vs H Q E, sp vs H Q E → vs.length = ps.length)
    (hb : ∀ (A : Around) (outer : List Env) (s : Shared) (H : Hp) (vs : List V) (Q : VK) (E : XK), Room k (A.deeper (PyProof.Rows.envOfC x (defScope st) s.heap.objs.size f (.ref c))) → sp vs H Q E →
      ∃ t, PSs (cxOf CX0 P w K mg base N x (defScope st) f (.ref c) A outer s H E).nox (defBody st) t ∧ t { nx := fun _ H' => Q .non H', rt := Q } (L2.start N vs) H) : FnOk P w K mg base CX0 (k + 1) f fd ps sp := by
  obtain ⟨oc, od, kV, doc, pm, an, ct, osl, rfl, lk, hcd⟩ := F.ex
  refine fn_of lk hcd S len fun A outer s H vs Q E hr hsp => ?_
  obtain ⟨t, h, q⟩ := hb A outer s H vs Q E hr hsp
  exact ⟨t, h.nox, q⟩
def perm2 {α : Type} : List α → List α → List α := fun us ws => match us, ws with
  | [], [a, b] => [a, b]
  | _, _ => []

def perm1 {α : Type} : List α → List α → List α := fun us ws => match us, ws with
  | [], [a] => [a]
  | _, _ => []
abbrev sLaw : Stmt := top 42
abbrev NLaw : List Str := ["script", "k", "box", "kind", "places", "told", "many", "rising"]
theorem scLaw : FnScope NLaw ["script"] (defScope sLaw) := ⟨rfl, rfl, rfl, by decide +kernel, rfl, by decide +kernel, by decide +kernel⟩
def qLaw : Str := (PyProof.Rows.envOfC "law" (defScope sLaw) 0 0 .none).qual ++ "<lambda>"
section
variable {K : PySem.W.Frag}
theorem kb_Kc {f : Addr} {fd : FuncData} (F : Fun K "kind_count" "kind_count" sKC f fd) : KBinds K fd ["kind", "places"] ["kind", "places"] perm2 perm2 := by
  obtain ⟨oc, od, kV, doc, pm, an, cdv, ct, osl, rfl, _, _⟩ := F.ex
  refine ⟨fun s us ws _ hl => ?_, fun r rz => ?_⟩
  · match us, ws, hl with
    | [], [v, z], _ => exact BindsTo.of_eq (by rfl)
  · cases r with
    | cons a b => exact .nil
    | nil => cases rz with
      | nil => exact .nil
      | cons a rz => cases rz with
        | nil => exact .nil
        | cons b rz => cases rz with
          | nil => exact .cons a (.cons b .nil)
          | cons c rz => exact .nil
theorem kb_Ra {f : Addr} {fd : FuncData} (F : Fun K "rising_answers" "rising_answers" sRA f fd) : KBinds K fd ["many"] ["many"] perm1 perm1 := by
  obtain ⟨oc, od, kV, doc, pm, an, cdv, ct, osl, rfl, _, _⟩ := F.ex
  refine ⟨fun s us ws _ hl => ?_, fun r rz => ?_⟩
  · match us, ws, hl with
    | [], [v], _ => exact BindsTo.of_eq (by rfl)
  · cases r with
    | cons a b => exact .nil
    | nil => cases rz with
      | nil => exact .nil
      | cons a rz => cases rz with
        | nil => exact .cons a .nil
        | cons b rz => exact .nil
end
/-- all but tables and the box -/
def Kp (bx : Addr) (H H' : Hp) : Prop := ∀ b o, H b = some o → (∀ ps, o ≠ .tbl ps) → b ≠ bx → H' b = some o
theorem Kp.refl (bx : Addr) (H : Hp) : Kp bx H H := fun _ _ e _ _ => e
theorem Kp.trans {bx : Addr} {H H1 H2 : Hp} (a : Kp bx H H1) (b : Kp bx H1 H2) : Kp bx H H2 := fun c o e t n => b c o (a c o e t n) t n
theorem Kp.same {bx : Addr} {H H1 : Hp} (s : Same H H1) : Kp bx H H1 := fun c o e _ _ => s c o e
theorem Kp.but {bx : Addr} {H H1 : Hp} (s : But bx H H1) : Kp bx H H1 := fun c o e _ n => s c o e n
theorem Kp.ext {bx : Addr} {H H1 : Hp} (s : ExtN H H1) : Kp bx H H1 := fun c o e t _ => s c o e t
theorem Box.ext {bx : Addr} {H H1 : Hp} (s : ExtN H H1) (b : Box H bx) : Box H1 bx := by
  obtain ⟨x, y, z, e⟩ := b
  exact ⟨x, y, z, s _ _ e fun _ q => nomatch q⟩
theorem Box.fresh {p a : Addr} {H : Hp} (b : Box H p) (n : H a = none) : a ≠ p := by
  obtain ⟨x, y, z, e⟩ := b
  exact fun h => by rw [h, e] at n; cases n
theorem seqL_kp {K : PySem.W.Frag} {bx a : Addr} {xs : List V} {H H' : Hp} (k : Kp bx H H') (n : H bx = none) (q : SqL K H a xs) : SqL K H' a xs := by
  rcases q with (h | ⟨o, h⟩) | h
  · exact .inl (.inl (k a _ h (fun _ z => nomatch z) (ne_of_none h n)))
  · exact .inl (.inr ⟨o, k a _ h (fun _ z => nomatch z) (ne_of_none h n)⟩)
  · exact .inr h
structure Gs (K : PySem.W.Frag) (mg : Str → Option Value) (P : Program) (w : World) (base : Heap) (cK cS : Addr) (fX fT fP fD fC fA fR fH fE : Addr) (dX dT dP dD dC dA dR dH dE : FuncData) : Prop where
  box : At K mg "_law_box" sBox fX dX ["script", "k"]
  gBox : FnOk P w K mg base CX0 1 fX dX ["script", "k"] (spBox K)
  take : At K mg "_law_take" sTake fT dT ["box", "many"]
  gTake : FnOk P w K mg base CX0 1 fT dT ["box", "many"] spTake
  pick : At K mg "_law_pick" sPick fP dP ["box", "some"]
  gPick : FnOk P w K mg base CX0 2 fP dP ["box", "some"] (spPick K)
  due : At K mg "_law_due" sDue fD dD ["kind", "many"]
  gDue : FnOk P w K mg base CX0 4 fD dD ["kind", "many"] spDue
  kc : At K mg "kind_count" sKC fC dC ["kind", "places"]
  gKc : FnOk P w K mg base (L2.CX P w) 4 fC dC ["kind", "places"] (spKC K cK cS)
  ra : At K mg "rising_answers" sRA fA dA ["many"]
  gRa : FnOk P w K mg base (L2.CX P w) 4 fA dA ["many"] (spRA K cS)
  lri : At K mg "_law_rising" sLRi fR dR ["many"]
  gLri : FnOk P w K mg base CX0 2 fR dR ["many"] spLRi
  hk : At K mg "has_kind" sHasKind fH dH ["kind", "answers"]
  gHk : FnOk P w K mg base (L2.CX P w) 5 fH dH ["kind", "answers"] spHasKind
  err : At K mg "_law_refusal" sErr fE dE ["work"]

theorem shaped_si {a : Str} (i : Int) (ha : PyData.strOk a = true) : SeqAt.shaped (.tuple [.str a, .int i]) = true := by
  unfold SeqAt.shaped
  simp [PyData.canLay0, PyData.canLayAll0, PyData.depth, PyData.depthAll, ha]
theorem shaped_ss {a b : Str} (ha : PyData.strOk a = true) (hb : PyData.strOk b = true) : SeqAt.shaped (.tuple [.str a, .str b]) = true := by
  unfold SeqAt.shaped
  simp [PyData.canLay0, PyData.canLayAll0, PyData.depth, PyData.depthAll, ha, hb]
/-- what stands in a turn -/
structure Sx (T : List (Addr × Str)) (p : Addr) (Hs H : Hp) : Prop where
  k : Kp p Hs H
  b : Box H p
  t : Tabs T H
theorem Sx.same {T : List (Addr × Str)} {p : Addr} {Hs H H' : Hp} (x : Sx T p Hs H) (s : Same H H') : Sx T p Hs H' := ⟨x.k.trans (Kp.same s), x.b.same s, Tabs.same x.t s⟩
theorem Sx.but {T : List (Addr × Str)} {p : Addr} {Hs H H' : Hp} (x : Sx T p Hs H) (s : But p H H') (b : Box H' p) : Sx T p Hs H' := ⟨x.k.trans (Kp.but s), b, Tabs.but x.t x.b s⟩
theorem Sx.ext {T : List (Addr × Str)} {p : Addr} {Hs H H' : Hp} (x : Sx T p Hs H) (s : ExtN H H') (t : Tabs T H') : Sx T p Hs H' := ⟨x.k.trans (Kp.ext s), x.b.ext s, t⟩
theorem rise2 : cntF "rising" 2 = 6 := by decide +kernel
theorem ors2 : cntF "ors" 2 = 5 := by decide +kernel
theorem ris1 : risN 1 = [[0, 0], [0, 1], [1, 1]] := by decide +kernel
theorem shL : ∀ n < 5, SeqAt.shaped (.list ((risN n).map rN)) = true := by decide +kernel
theorem shT : ∀ n < 5, SeqAt.shaped (.tuple ((risN n).map rN)) = true := by decide +kernel
theorem rise_ok : ∀ n < 5, 1 ≤ n → ∀ r ∈ risN n, riseOk r n = true := by decide +kernel
theorem ris_many : ∀ n < 5, 0 < (risN n).length ∧ (risN n).length < 1000 := by decide +kernel
theorem eqv_self {d : D} (h : SeqAt.shaped d = true) : PyData.eqv d d = true := SeqAt.eqv_refl _ (SeqAt.canLay_of_shaped h)
theorem okK_of {x : Str} (h : x ∈ KS) : okK (.str x) = true := by
  unfold okK
  rw [show isS (.str x) = true from rfl, Bool.true_and]
  exact List.contains_iff_mem.mpr h
theorem kcA {x : Str} {n : Nat} (h5 : x = "rising" → n ≤ 5) : ∀ p : Nat, (PyData.str x : D) = .str "rising" → nD n = nD p → p ≠ 6 := fun p e1 e2 => by
  have e3 : (n : Int) = (p : Int) := PyData.int.inj e2
  have := h5 (PyData.str.inj e1)
  omega
theorem kcB {x : Str} {X : Prop} (hx : x ∈ KS) : okK (.str x) = false → X := fun z => by
  rw [okK_of hx] at z
  cases z
theorem bt_n {a b n : Nat} (h1 : a ≤ n) (h2 : n ≤ b) : isBt (a : Int) (b : Int) (nD n) = true := by
  show (true && (decide ((a : Int) ≤ (n : Int)) && decide ((n : Int) ≤ (b : Int)))) = true
  rw [decide_eq_true (show (a : Int) ≤ (n : Int) by omega), decide_eq_true (show (n : Int) ≤ (b : Int) by omega)]
  rfl
theorem kcC {d : D} {n : Nat} {X : Prop} (n1 : 1 ≤ n) (n6 : n ≤ 6) : okK d = true → isBt 1 6 (nD n) = false → X := fun _ z => by
  rw [show isBt 1 6 (nD n) = true from bt_n (a := 1) (b := 6) n1 n6] at z
  cases z
theorem kcD {x y : Str} {n p : Nat} (e1 : (PyData.str x : D) = .str y) (e2 : nD n = nD p) : x = y ∧ n = p := by
  have e3 : (n : Int) = (p : Int) := PyData.int.inj e2
  exact ⟨PyData.str.inj e1, by omega⟩
theorem raB {n : Nat} {X : Prop} (n1 : 1 ≤ n) (n4 : n ≤ 4) : isBt 1 4 (nD n) = false → X := fun z => by
  rw [show isBt 1 4 (nD n) = true from bt_n (a := 1) (b := 4) n1 n4] at z
  cases z
theorem raD {n p : Nat} (e : nD n = nD p) : n = p := by
  have e3 : (n : Int) = (p : Int) := PyData.int.inj e
  omega
theorem Tn.but {p : Addr} {H H' : Hp} {v : V} {ns : List Nat} (s : But p H H') (b : Box H p) (t : Tn H v ns) : Tn H' v ns := by
  obtain ⟨a, e, h⟩ := t
  obtain ⟨x, y, z, q⟩ := b
  exact ⟨a, e, s _ _ h fun w => by rw [w, q] at h; cases h⟩
section
variable {P : Program} {w : World} {K : PySem.W.Frag} {mg : Str → Option Value} {base : Heap} {B cT iT cS iS cK aK : Addr}
def spLaw (K : PySem.W.Frag) (T : List (Addr × Str)) : Sp := fun vs H Q _ => ∃ (a : Addr) (ns : List Int), vs = [.ref a] ∧ SqL K H a (ns.map V.int) ∧ Tabs T H ∧ ∀ H', Q (.bl true) H'
theorem ok_law {f c Pt : Addr} {fd : FuncData} {T : List (Addr × Str)} {fX fT fP fD fC fA fR fH fE : Addr} {dX dT dP dD dC dA dR dH dE : FuncData} (F : FunC K "law" sLaw f c fd) (Z : Bi mg) (R : Ers K mg B cT iT cS iS cK aK) (G : Gs K mg P w base cK cS fX fT fP fD fC fA fR fH fE dX dT dP dD dC dA dR dH dE)
    (TB : TabB base mg c Pt) (hmT : (Pt, qLaw) ∈ T) (hu : ∀ p ∈ T, p.1 = Pt → p.2 = qLaw) : FnOk P w K mg base CX0 14 f fd ["script"] (spLaw K T) := by
  refine F.ok scLaw (fun vs H Q E h => ?_) (fun A outer sh H vs Q E hr h => ?_)
  · obtain ⟨a, ns, rfl, _⟩ := h
    rfl
  · obtain ⟨a, ns, rfl, hS, hT, k⟩ := h
    have hr8 := hr.units
    obtain ⟨oc, od, kV, doc, pm, an, cdv, ct, osl, rfl, lkE, hcE⟩ := G.err.F.ex
    refine ⟨_, pss_cons (ps_if (PW.pt (pw_or (pt_cmpR op_ne (pe_callK0 G.gKc (hr.mono (by decide)) rfl G.kc.g G.kc.F.kp (kb_Kc G.kc.F) (pass_never rfl rfl) (pk_cons pe_str (pk_cons pe_int pk_nil))) pe_int (nomark _))
          (pw_or (pt_cmpR op_ne (pe_call G.gKc (hr.mono (by decide)) rfl G.kc.g G.kc.F.kp G.kc.b .nil (pass_never rfl rfl) (by exact (pa_cons pe_str (pa_cons pe_int pa_nil)))) pe_int (nomark _))
          (pw_or1 (pt_cmpR (op_neD hr8) (pe_callK0 G.gRa (hr.mono (by decide)) rfl G.ra.g G.ra.F.kp (kb_Ra G.ra.F) (pass_never rfl rfl) (pk_cons pe_int pk_nil)) (pe_tup (by exact (pa_cons (pe_tup (by exact (pa_cons pe_int (pa_cons pe_int pa_nil)))) (pa_cons (pe_tup (by exact (pa_cons pe_int (pa_cons pe_int pa_nil)))) (pa_cons (pe_tup (by exact (pa_cons pe_int (pa_cons pe_int pa_nil)))) pa_nil))))) (nomark _))))))
        (pss_one (ps_ret pe_bl)) pss_nil)
      (pss_cons (ps_for PassesOwn.never rfl (pi_range1 rfl Z.range (pa_cons pe_int pa_nil)) (pg_name (i := 1) scLaw.nd rfl (Or.inl rfl))
        (pss_cons (ps_set (i := 2) scLaw.nd rfl (Or.inr rfl) (pe_call G.gBox (hr.mono (by decide)) rfl G.box.g G.box.F.kp G.box.b .nil pass0 (by exact (pa_cons (pv 0) (pa_cons (pv 1) pa_nil)))))
        (pss_cons (ps_set (i := 3) scLaw.nd rfl (Or.inr rfl) (pe_call G.gPick (hr.mono (by decide)) rfl G.pick.g G.pick.F.kp G.pick.b .nil pass0 (by exact (pa_cons (pv 2) (pa_cons (pe_lst (by exact (pa_cons pe_str (pa_cons pe_str (pa_cons pe_str (pa_cons pe_str (pa_cons pe_str (pa_cons pe_str (pa_cons pe_str pa_nil))))))))) pa_nil)))))
        (pss_cons (ps_set (i := 4) scLaw.nd rfl (Or.inl rfl) (pe_op op_add pe_int (pe_call G.gTake (hr.mono (by decide)) rfl G.take.g G.take.F.kp G.take.b .nil pass0 (by exact (pa_cons (pv 2) (pa_cons (pe_ifExp (pt_cmpR op_eq (pv 3) pe_str (nomark _)) pe_int pe_int) pa_nil))))))
        (C8.pss_cut (ps_if (PW.pt (pw_and (pt_cmpR op_eq (pv 3) pe_str (nomark _)) (pw_and (pt_cmpR op_eq (pv 4) pe_int (nomark _)) (pw_and1 (pt_cmpR op_gt (pv 1) pe_int (nomark _)))))) (pss_one (ps_set (i := 4) scLaw.nd rfl (Or.inl rfl) pe_int)) pss_nil)
        (pss_cons (ps_set (i := 5) scLaw.nd rfl (Or.inl rfl) (pe_callK0 G.gKc (hr.mono (by decide)) rfl G.kc.g G.kc.F.kp (kb_Kc G.kc.F) (pass_never rfl rfl) (pk_cons (pv 3) (pk_cons (pv 4) pk_nil))))
        (pss_cons (ps_if (PW.pt (pw_or (pt_cmpR op_ne (pv 5) (pe_call G.gDue (hr.mono (by decide)) rfl G.due.g G.due.F.kp G.due.b .nil pass0 (by exact (pa_cons (pv 3) (pa_cons (pv 4) pa_nil)))) (nomark _))
            (pw_or (pt_not (pt_val (pe_callB call_isi (by rfl) Z.isinstance (by decide +kernel) (pa_cons (pv 5) (pa_cons (pe_bltn (v := .ty "int") (by rfl) Z.int (by decide +kernel) rfl) pa_nil)))))
            (pw_or1 (pt_val (pe_callB call_isi (by rfl) Z.isinstance (by decide +kernel) (pa_cons (pv 5) (pa_cons (pe_bltn (v := .ty "bool") (by rfl) Z.bool (by decide +kernel) rfl) pa_nil)))))))) (pss_one (ps_ret pe_bl)) pss_nil)
        (C8.pss_cut (ps_set (i := 6) scLaw.nd rfl (Or.inl rfl) (pe_op op_add pe_int (pe_call G.gTake (hr.mono (by decide)) rfl G.take.g G.take.F.kp G.take.b .nil pass0 (by exact (pa_cons (pv 2) (pa_cons pe_int pa_nil))))))
        (pss_cons (ps_set (i := 7) scLaw.nd rfl (Or.inl rfl) (pe_call G.gRa (hr.mono (by decide)) rfl G.ra.g G.ra.F.kp G.ra.b .nil (pass_never rfl rfl) (by exact (pa_cons (pv 6) pa_nil))))
        (pss_cons (ps_if (PW.pt (pw_or (pt_not (pt_val (pe_callB call_isi (by rfl) Z.isinstance (by decide +kernel) (pa_cons (pv 7) (pa_cons (pe_bltn (v := .ty "tuple") (by rfl) Z.tuple (by decide +kernel) rfl) pa_nil)))))
            (pw_or (pt_cmpR (op_neD hr8) (pe_callTy call_list_of (by rfl) Z.list (by decide +kernel) (pa_cons (pv 7) pa_nil)) (pe_call G.gLri (hr.mono (by decide)) rfl G.lri.g G.lri.F.kp G.lri.b .nil pass0 (by exact (pa_cons (pv 6) pa_nil))) (nomark _))
            (pw_or1 (pt_cmpR op_ne (pe_callB call_len_seq (by rfl) Z.len PySem.boot_len (pa_cons (pv 7) pa_nil)) (pe_call G.gKc (hr.mono (by decide)) rfl G.kc.g G.kc.F.kp G.kc.b .nil (pass_never rfl rfl) (by exact (pa_cons pe_str (pa_cons (pv 6) pa_nil)))) (nomark _)))))) (pss_one (ps_ret pe_bl)) pss_nil)
        (pss_cons (ps_if (pt_cmpR op_isnot_bl (pe_call G.gHk (hr.mono (by decide)) rfl G.hk.g G.hk.F.kp G.hk.b .nil (pass_never rfl rfl) (by exact (pa_cons pe_str (pa_cons (pe_call G.gPick (hr.mono (by decide)) rfl G.pick.g G.pick.F.kp G.pick.b .nil pass0 (by exact (pa_cons (pv 2) (pa_cons (pv 7) pa_nil)))) pa_nil)))) pe_bl (nomark _)) (pss_one (ps_ret pe_bl)) pss_nil)
        (pss_cons (ps_if (pt_cmpR (op_neD hr8) (LamX.pe_lamcall (k := 9) (t := fun E => tCallS (spKC K cK cS) (WE fun cls d _ H' => E cls d H') (tCons (tCall (spPick K) [] E0 (tCons (tVar 2) (tCons (tLst (tCons (tC .non) (tCons (tC (.str "wire")) (tCons (tC (.int 3)) (tCons (tC (.str "")) (tCons (tTup (tCons (tC (.str "ands")) tNil)) tNil)))))) tNil))) (tCons (tC (.int 0)) tNil))) (by rfl) G.err.g G.err.F.kp lkE hcE G.err.b scErr rfl (Or.inl rfl) (err_gives R) TB rfl hmT hu (hr.mono (by decide)) (lamS_by (sc := defScope sLaw) (by decide +kernel)) rfl (fun _ _ _ _ _ => rfl)
            (fun A outer s H E f c' hr2 => by exact pe_callS G.gKc (hr2.mono (by decide)) (by rfl) G.kc.g G.kc.F.kp G.kc.b (fun σ => passAt (takes_of rfl rfl rfl rfl) σ) (by exact (pa_cons (pe_call G.gPick (hr2.mono (by decide)) (by rfl) G.pick.g G.pick.F.kp G.pick.b .nil pass0 (by exact (pa_cons (pv 2) (pa_cons (pe_lst (by exact (pa_cons pe_non (pa_cons pe_str (pa_cons pe_int (pa_cons pe_str (pa_cons (pe_tup (by exact (pa_cons pe_str pa_nil))) pa_nil))))))) pa_nil)))) (pa_cons pe_int pa_nil))))) (pe_tup (by exact (pa_cons pe_str (pa_cons pe_int pa_nil)))) (nomark _)) (pss_one (ps_ret pe_bl)) pss_nil)
        (pss_cons (ps_if (pt_cmpR (op_neD hr8) (LamX.pe_lamcall (k := 9) (t := fun E => tCallS (spKC K cK cS) (WE fun cls d _ H' => E cls d H') (tCons (tVar 3) (tCons (tCall (spPick K) [] E0 (tCons (tVar 2) (tCons (tLst (tCons (tC (.int 0)) (tCons (tC (.int 7)) (tCons (tC (.bl true)) (tCons (tC .non) (tCons (tC (.str "1")) (tCons (tOp (rI0 fun i j => .int (i - j)) (tC (.int 0)) (tC (.int 1))) tNil))))))) tNil))) tNil))) (by rfl) G.err.g G.err.F.kp lkE hcE G.err.b scErr rfl (Or.inl rfl) (err_gives R) TB rfl hmT hu (hr.mono (by decide)) (lamS_by (sc := defScope sLaw) (by decide +kernel)) rfl (fun _ _ _ _ _ => rfl)
            (fun A outer s H E f c' hr2 => by exact pe_callS G.gKc (hr2.mono (by decide)) (by rfl) G.kc.g G.kc.F.kp G.kc.b (fun σ => passAt (takes_of rfl rfl rfl rfl) σ) (by exact (pa_cons (pv 3) (pa_cons (pe_call G.gPick (hr2.mono (by decide)) (by rfl) G.pick.g G.pick.F.kp G.pick.b .nil pass0 (by exact (pa_cons (pv 2) (pa_cons (pe_lst (by exact (pa_cons pe_int (pa_cons pe_int (pa_cons pe_bl (pa_cons pe_non (pa_cons pe_str (pa_cons (pe_op op_sub pe_int pe_int) pa_nil)))))))) pa_nil)))) pa_nil))))) (pe_tup (by exact (pa_cons pe_str (pa_cons pe_str pa_nil)))) (nomark _)) (pss_one (ps_ret pe_bl)) pss_nil)
        (pss_one (ps_if (pt_cmpR (op_neD hr8) (LamX.pe_lamcall (k := 9) (t := fun E => tCallS (spRA K cS) (WE fun cls d _ H' => E cls d H') (tCons (tCall (spPick K) [] E0 (tCons (tVar 2) (tCons (tLst (tCons (tC (.int 0)) (tCons (tC (.int 5)) (tCons (tC (.bl true)) (tCons (tC .non) (tCons (tC (.str "1")) tNil)))))) tNil))) tNil)) (by rfl) G.err.g G.err.F.kp lkE hcE G.err.b scErr rfl (Or.inl rfl) (err_gives R) TB rfl hmT hu (hr.mono (by decide)) (lamS_by (sc := defScope sLaw) (by decide +kernel)) rfl (fun _ _ _ _ _ => rfl)
            (fun A outer s H E f c' hr2 => by exact pe_callS G.gRa (hr2.mono (by decide)) (by rfl) G.ra.g G.ra.F.kp G.ra.b (fun σ => passAt (takes_of rfl rfl rfl rfl) σ) (by exact (pa_cons (pe_call G.gPick (hr2.mono (by decide)) (by rfl) G.pick.g G.pick.F.kp G.pick.b .nil pass0 (by exact (pa_cons (pv 2) (pa_cons (pe_lst (by exact (pa_cons pe_int (pa_cons pe_int (pa_cons pe_bl (pa_cons pe_non (pa_cons pe_str pa_nil))))))) pa_nil)))) pa_nil)))) (pe_tup (by exact (pa_cons pe_str (pa_cons pe_str pa_nil)))) (nomark _)) (pss_one (ps_ret pe_bl)) pss_nil)))))))))))))))
      (pss_one (ps_ret pe_bl))), ?_⟩
    have o5 : ("ors" : Str) ∈ KS := by decide
    have r5 : ("rising" : Str) ∈ KS := by decide
    refine ⟨_, _, .str "rising", nD 2, rfl, .str _, .int _, kcA (fun _ => by decide), kcB r5, kcC (by decide) (by decide), fun yy pp ee1 _ ee2 _ _ H1 s1 => ?_⟩
    obtain ⟨ey, ep⟩ := kcD ee1 ee2
    subst ey ep
    refine ⟨rfl, _, rfl, ?_⟩
    rw [rise2]
    refine go_f (by decide) ?_
    refine ⟨_, _, .str "ors", nD 2, rfl, .str _, .int _, kcA (fun _ => by decide), kcB o5, kcC (by decide) (by decide), fun yy pp ee1 _ ee2 _ _ H2 s2 => ?_⟩
    obtain ⟨ey, ep⟩ := kcD ee1 ee2
    subst ey ep
    refine ⟨rfl, _, rfl, ?_⟩
    rw [ors2]
    refine go_f (by decide) ?_
    refine ⟨_, nD 1, rfl, .int _, raB (by decide) (by decide), fun pp ee _ _ H3 v3 s3 t3 => ?_⟩
    have ep := raD ee
    subst ep
    refine ⟨(by show 2 ≤ sizeLine; decide), fun t1 h1 => ⟨(by show 2 ≤ sizeLine; decide), fun t2 h2 => ⟨(by show 2 ≤ sizeLine; decide), fun t3' h3 => ⟨(by show 3 ≤ sizeLine; decide), fun t4 h4 => ?_⟩⟩⟩⟩
    have q1 := same_new (o := .tup [V.int 0, V.int 0]) h1
    have q2 := same_new (o := .tup [V.int 0, V.int 1]) h2
    have q3 := same_new (o := .tup [V.int 1, V.int 1]) h3
    have q4 := same_new (o := .tup [V.ref t1, V.ref t2, V.ref t3']) h4
    have q14 := ((q1.trans q2).trans q3).trans q4
    have sh1 := shT 1 (by decide)
    refine ⟨.tuple ((risN 1).map rN), .tuple ((risN 1).map rN), dp_same q14 t3.dp, ?_, sh1, sh1, _, rfl, ?_⟩
    · rw [ris1]
      exact .tup (SqT.of upd_same) (.cons (.tup (SqT.of (((q2.trans q3).trans q4) _ _ upd_same)) (dp_n [0, 0])) (.cons (.tup (SqT.of ((q3.trans q4) _ _ upd_same)) (dp_n [0, 1])) (.cons (.tup (SqT.of (q4 _ _ upd_same)) (dp_n [1, 1])) .nil)))
    rw [eqv_self sh1]
    refine go_f rfl ?_
    have s05 := ((s1.trans s2).trans s3).trans q14
    have hS5 := s05.seq hS
    have hT5 := hT.ext s05
    clear q1 q2 q3 q4 q14 t3 s1 s2 s3
    refine ⟨3, rfl, by decide, by decide, ?_⟩
    refine for_range (n := 3) (fun i σ H' => ∃ u1 u2 u3 u4 u5 u6 u7 : Option V, σ = [some (.ref a), u1, u2, u3, u4, u5, u6, u7] ∧ SqL K H' a (ns.map V.int) ∧ Tabs T H') ⟨none, none, none, none, none, none, none, rfl, hS5, hT5⟩ ?_ ?_
    · rintro i σ Hs hi ⟨u1, u2, u3, u4, u5, u6, u7, rfl, hSs, hTs⟩
      refine ⟨_, rfl, _, rfl, a, _, ns, rfl, (by omega), hSs, fun H7 p s7 np b7 => ?_⟩
      have x7 : Sx T p Hs H7 := ⟨Kp.same s7, b7, Tabs.same hTs s7⟩
      refine ⟨_, rfl, (by show 7 ≤ sizeLine; decide), fun l hl => ⟨p, l, .L, _, rfl, b7.fresh hl, b7.same (same_new hl), SqL.of upd_same, by show 0 < 7; decide, by show 7 < 1000; decide, fun H8 v bt8 b8 hv => ?_⟩⟩
      obtain ⟨x, hx, rfl⟩ := List.mem_map.mp (show v ∈ KS.map V.str from hv)
      have x8 := (x7.same (same_new hl)).but bt8 b8
      refine ⟨_, rfl, _, rfl, rfl, _, rfl, ?_⟩
      rw [str_dec]
      refine ifE (fun z H' => ∃ q : Nat, z = .int (q : Nat) ∧ H' = H8 ∧ q ≤ 6 ∧ 5 ≤ q ∧ (x = "rising" → q = 5)) (fun hc Q' hQ => hQ _ _ ⟨5, rfl, rfl, by decide, by decide, fun _ => rfl⟩) (fun hc Q' hQ => hQ _ _ ⟨6, rfl, rfl, by decide, by decide, fun e => absurd (decide_eq_true e) hc⟩) ?_
      rintro _ H8 ⟨q, rfl, rfl, hq6, hq5, hqr⟩
      refine ⟨p, (q : Int), rfl, by omega, by omega, x8.b, fun H9 d bt9 b9 d0 d1 => ?_⟩
      have x9 := x8.but bt9 b9
      obtain ⟨dn, rfl, hdn⟩ := nat_of d0 d1
      have en : (1 : Int) + (dn : Int) = ((dn + 1 : Nat) : Int) := by omega
      refine ⟨_, _, rfl, rfl, ?_⟩
      refine ⟨fun σ' H' => ∃ n : Nat, σ' = [some (.ref a), some (.int (0 + (i : Int))), some (.ref p), some (.str x), some (.int (n : Nat)), u5, u6, u7] ∧ H' = H9 ∧ 1 ≤ n ∧ n ≤ 6 ∧ (x = "rising" → n ≤ 5), ?_, ?_⟩
      · have stay : ∃ n : Nat, [some (V.ref a), some (V.int (0 + (i : Int))), some (V.ref p), some (V.str x), some (V.int (1 + (dn : Int))), u5, u6, u7] = [some (V.ref a), some (.int (0 + (i : Int))), some (.ref p), some (.str x), some (.int (n : Nat)), u5, u6, u7] ∧ H9 = H9 ∧ 1 ≤ n ∧ n ≤ 6 ∧ (x = "rising" → n ≤ 5) :=
          ⟨dn + 1, by rw [en], rfl, by omega, by omega, fun e => by have := hqr e; omega⟩
        refine ⟨_, rfl, rfl, _, rfl, ?_⟩
        rw [str_dec]
        by_cases e1 : x = "rising"
        case neg => exact go_f (decide_eq_false e1) stay
        refine go_t (decide_eq_true e1) ⟨_, rfl, rfl, _, rfl, ?_⟩
        by_cases e2 : V.int (1 + (dn : Int)) = V.int 5
        case neg => exact go_f (decide_eq_false e2) stay
        refine go_t (decide_eq_true e2) ⟨_, rfl, _, _, rfl, rfl, _, rfl, ?_⟩
        by_cases e3 : (0 : Int) < 0 + (i : Int)
        · exact go_t (decide_eq_true e3) ⟨4, rfl, rfl, by decide, by decide, fun _ => by decide⟩
        · exact go_f (decide_eq_false e3) stay
      rintro _ _ ⟨n, rfl, rfl, n1, n6, h5⟩
      refine ⟨_, rfl, _, rfl, _, _, .str x, nD n, rfl, .str _, .int _, kcA h5, kcB hx, kcC n1 n6, fun yy pp ee1 _ ee2 _ _ H10 s10 => ?_⟩
      obtain ⟨ey, ep⟩ := kcD ee1 ee2
      subst ey ep
      have x10 := x9.same s10
      refine ⟨_, rfl, _, rfl, _, rfl, x, n, rfl, hx, by omega, n1, h5, fun H11 s11 => ⟨rfl, _, rfl, go_f (by rw [decide_eq_true rfl]; rfl) ?_⟩⟩
      have x11 := x10.same s11
      refine ⟨_, rfl, .int (cntF x n : Nat), _, _, _, _, rfl, .ty "int", ty_data (d := .int (cntF x n : Nat)) (.int _), kInt _, ⟨_, rfl, go_f rfl ?_⟩⟩
      refine ⟨_, rfl, .int (cntF x n : Nat), _, _, _, _, rfl, .ty "bool", ty_data (d := .int (cntF x n : Nat)) (.int _), kBool _, ⟨_, rfl, go_f rfl ?_⟩⟩
      refine ⟨fun σ' H' => ∃ m : Nat, σ' = [some (.ref a), some (.int (0 + (i : Int))), some (.ref p), some (.str x), some (.int (n : Nat)), some (.int (cntF x n : Nat)), some (.int (m : Nat)), u7] ∧ Sx T p Hs H' ∧ 1 ≤ m ∧ m ≤ 4, ?_, ?_⟩
      · refine ⟨_, rfl, p, 4, rfl, by decide, by decide, x11.b, fun H12 d bt12 b12 d0 d1 => ⟨_, _, rfl, rfl, ?_⟩⟩
        obtain ⟨dm, rfl, hdm⟩ := nat_of d0 d1
        refine ⟨dm + 1, ?_, x11.but bt12 b12, by omega, by omega⟩
        show [_, _, _, _, _, _, some (V.int (1 + (dm : Int))), _] = _
        rw [show (1 : Int) + (dm : Int) = ((dm + 1 : Nat) : Int) from by omega]
      clear x7 x8 x9 x10 x11 s7 bt8 bt9 s10 s11
      rintro _ H12 ⟨m, rfl, x12, m1, m4⟩
      refine ⟨_, rfl, _, nD m, rfl, .int _, raB m1 m4, fun pp ee _ _ H13 v13 s13 t13 => ?_⟩
      have ep := raD ee
      subst ep
      have x13 := x12.same s13
      obtain ⟨rv, vs, rfl, ev, tl⟩ := id t13
      obtain ⟨len0, len1⟩ := ris_many m (by omega)
      have lvs := tl.1
      refine ⟨_, rfl, .ref rv, _, _, _, _, rfl, .ty "tuple", ty_data t13.dp, kTuple _, ⟨_, rfl, go_f rfl ?_⟩⟩
      refine ⟨_, rfl, rv, vs, rfl, .inr (SqT.of ev), fun l2 hl2 => ?_⟩
      have q2 := same_new (o := .lst vs) hl2
      refine ⟨_, rfl, m, rfl, by omega, fun H15 v15 s15 l15 => ?_⟩
      have s35 := q2.trans s15
      have shm := shL m (by omega)
      refine ⟨_, _, .lst (SqL.of (s15 _ _ upd_same)) ((tl.same s35).dp), l15.dp, shm, shm, _, rfl, ?_⟩
      rw [eqv_self shm]
      refine go_f rfl ?_
      have x15 := x13.same s35
      have ev15 := s35 _ _ ev
      have tl15 := tl.same s35
      refine ⟨_, rfl, rv, vs, rfl, .inr (SqT.of ev15), _, rfl, _, _, .str "rising", nD m, rfl, .str _, .int _, kcA (fun _ => by omega), kcB r5, kcC m1 (by omega), fun yy pp ee1 _ ee2 _ _ H16 s16 => ?_⟩
      obtain ⟨ey, ep⟩ := kcD ee1 ee2
      subst ey ep
      refine ⟨rfl, _, rfl, ?_⟩
      rw [cnt_rise, rise_few m (by omega) m1, ← lvs]
      refine go_f (by rw [decide_eq_true rfl]; rfl) ?_
      have x16 := x15.same s16
      have ev16 := s16 _ _ ev15
      have tl16 := tl15.same s16
      have nrp : rv ≠ p := fun e => by
        obtain ⟨_, _, _, q⟩ := x16.b
        rw [e, q] at ev16
        cases ev16
      refine ⟨_, rfl, _, rfl, p, rv, .T, vs, rfl, nrp, x16.b, SqT.of ev16, by omega, by omega, fun H17 v bt17 b17 hv => ?_⟩
      have x17 := x16.but bt17 b17
      obtain ⟨j, hj⟩ := List.mem_iff_getElem?.mp hv
      obtain ⟨r, hr', htr⟩ := tl16.at hj
      have hrm := List.mem_of_getElem? hr'
      obtain ⟨lr, br⟩ := (ris_len m (by omega)).2 r hrm
      refine ⟨v, r, m, rfl, htr.but bt17 x16.b, ⟨m1, m4, lr, br⟩, fun H18 s18 => ⟨_, _, rfl, rfl, _, rfl, ?_⟩⟩
      rw [rise_ok m (by omega) m1 r hrm]
      refine go_f rfl ?_
      have x18 := x17.same s18
      clear x12 x13 x15 x16 x17 tl tl15 tl16 t13 l15
      -- the first lambda
      refine ⟨x18.t, fun H19 ex19 T19 => ?_⟩
      have x19 := x18.ext ex19 T19
      refine ⟨_, rfl, (by show 1 ≤ sizeLine; decide), fun ti hti => ⟨(by show 5 ≤ sizeLine; decide), fun l3 hl3 => ?_⟩⟩
      have qa := (same_new (o := .tup [V.str "ands"]) hti).trans (same_new (o := .lst [V.non, V.str "wire", V.int 3, V.str "", V.ref ti]) hl3)
      have eti : (upd (upd H19 ti (.tup [V.str "ands"])) l3 (.lst [V.non, V.str "wire", V.int 3, V.str "", V.ref ti])) ti = some (.tup [V.str "ands"]) := same_new hl3 _ _ upd_same
      have xa := x19.same qa
      refine ⟨p, l3, .L, _, rfl, (x19.same (same_new (o := .tup [V.str "ands"]) hti)).b.fresh hl3, xa.b, SqL.of upd_same, by show 0 < 5; decide, by show 5 < 1000; decide, fun H20 v bt20 b20 hv => ?_⟩
      have x20 := xa.but bt20 b20
      have nti : ti ≠ p := x19.b.fresh hti
      obtain ⟨dv, hdv, hok⟩ : ∃ dv, Dp K H20 v dv ∧ okK dv = false := by
        simp only [List.mem_cons, List.not_mem_nil, or_false] at hv
        rcases hv with h | h | h | h | h
        · exact ⟨.none, h ▸ .non, rfl⟩
        · exact ⟨.str "wire", h ▸ .str _, by decide +kernel⟩
        · exact ⟨.int 3, h ▸ .int _, rfl⟩
        · exact ⟨.str "", h ▸ .str _, by decide +kernel⟩
        · exact ⟨.tuple [.str "ands"], h ▸ .tup (SqT.of (bt20 _ _ eti nti)) (.cons (.str _) .nil), rfl⟩
      refine ⟨v, .int 0, dv, .int 0, rfl, hdv, .int 0, fun p' _ e => ?_, fun _ H21 s21 => ?_, fun z => ?_, fun y p' _ z => ?_⟩
      · have e3 : (0 : Int) = (p' : Int) := PyData.int.inj e
        omega
      · refine .inl ⟨rfl, fun t ht => ⟨(by show 2 ≤ sizeLine; decide), fun t' ht' => ?_⟩⟩
        have g1 := same_new (o := .tup [V.str "kind", V.int 0]) ht
        have g2 := same_new (o := .tup [V.str "kind", V.int 0]) ht'
        have shk := shaped_si (a := "kind") 0 (by decide +kernel)
        refine ⟨_, _, .tup (SqT.of (g2 _ _ upd_same)) (.cons (.str _) (.cons (.int _) .nil)), .tup (SqT.of upd_same) (.cons (.str _) (.cons (.int _) .nil)), shk, shk, _, rfl, ?_⟩
        rw [eqv_self shk]
        refine go_f rfl ?_
        have x22 := ((x20.same s21).same g1).same g2
        generalize upd (upd H21 t (.tup [V.str "kind", V.int 0])) t' (.tup [V.str "kind", V.int 0]) = H22 at x22
        clear x18 x19 xa x20
        -- the second lambda
        refine ⟨x22.t, fun H23 ex23 T23 => ?_⟩
        have x23 := x22.ext ex23 T23
        refine ⟨_, rfl, _, rfl, _, _, rfl, rfl, (by show 6 ≤ sizeLine; decide), fun l4 hl4 => ?_⟩
        have qb := same_new (o := .lst [V.int 0, V.int 7, V.bl true, V.non, V.str "1", V.int (0 - 1)]) hl4
        have xb := x23.same qb
        refine ⟨p, l4, .L, _, rfl, x23.b.fresh hl4, xb.b, SqL.of upd_same, by show 0 < 6; decide, by show 6 < 1000; decide, fun H24 v bt24 b24 hv => ?_⟩
        have x24 := xb.but bt24 b24
        obtain ⟨dv, hdv, hok2⟩ : ∃ dv, Dp K H24 v dv ∧ isBt 1 6 dv = false := by
          simp only [List.mem_cons, List.not_mem_nil, or_false] at hv
          rcases hv with h | h | h | h | h | h
          · exact ⟨.int 0, h ▸ .int _, rfl⟩
          · exact ⟨.int 7, h ▸ .int _, rfl⟩
          · exact ⟨.bool true, h ▸ .bl _, rfl⟩
          · exact ⟨.none, h ▸ .non, rfl⟩
          · exact ⟨.str "1", h ▸ .str _, rfl⟩
          · exact ⟨.int (0 - 1), h ▸ .int _, rfl⟩
        refine ⟨.str x, v, .str x, dv, rfl, .str _, hdv, fun p' _ e => ?_, fun z => ?_, fun _ _ H25 d25 s25 hd25 => ?_, fun y p' _ _ e e1 e6 => ?_⟩
        · rintro rfl
          rw [e] at hok2
          cases hok2
        · rw [okK_of hx] at z
          cases z
        · refine .inr ⟨rfl, d25, .str "places", rfl, upd_same, fun t ht => ⟨(by show 2 ≤ sizeLine; decide), fun t' ht' => ?_⟩⟩
          have g0 := same_new (o := .xd [("word", V.str "places")]) hd25
          have g1 := same_new (o := .tup [V.str "size", V.str "places"]) ht
          have g2 := same_new (o := .tup [V.str "size", V.str "places"]) ht'
          have shk := shaped_ss (a := "size") (b := "places") (by decide +kernel) (by decide +kernel)
          refine ⟨_, _, .tup (SqT.of (g2 _ _ upd_same)) (.cons (.str _) (.cons (.str _) .nil)), .tup (SqT.of upd_same) (.cons (.str _) (.cons (.str _) .nil)), shk, shk, _, rfl, ?_⟩
          rw [eqv_self shk]
          refine go_f rfl ?_
          have x26 := (((x24.same s25).same g0).same g1).same g2
          generalize upd (upd (upd H25 d25 (.xd [("word", V.str "places")])) t (.tup [V.str "size", V.str "places"])) t' (.tup [V.str "size", V.str "places"]) = H26 at x26
          clear x22 x23 xb x24
          -- the third lambda
          refine ⟨x26.t, fun H27 ex27 T27 => ?_⟩
          have x27 := x26.ext ex27 T27
          refine ⟨_, rfl, (by show 5 ≤ sizeLine; decide), fun l5 hl5 => ?_⟩
          have qc := same_new (o := .lst [V.int 0, V.int 5, V.bl true, V.non, V.str "1"]) hl5
          have xc := x27.same qc
          refine ⟨p, l5, .L, _, rfl, x27.b.fresh hl5, xc.b, SqL.of upd_same, by show 0 < 5; decide, by show 5 < 1000; decide, fun H28 v bt28 b28 hv => ?_⟩
          have x28 := xc.but bt28 b28
          obtain ⟨dv, hdv, hok3⟩ : ∃ dv, Dp K H28 v dv ∧ isBt 1 4 dv = false := by
            simp only [List.mem_cons, List.not_mem_nil, or_false] at hv
            rcases hv with h | h | h | h | h
            · exact ⟨.int 0, h ▸ .int _, rfl⟩
            · exact ⟨.int 5, h ▸ .int _, rfl⟩
            · exact ⟨.bool true, h ▸ .bl _, rfl⟩
            · exact ⟨.none, h ▸ .non, rfl⟩
            · exact ⟨.str "1", h ▸ .str _, rfl⟩
          refine ⟨v, dv, rfl, hdv, fun _ H29 d29 s29 hd29 => ?_, fun m' e e1 e4 => ?_⟩
          · refine .inr ⟨rfl, d29, .str "many", rfl, upd_same, fun t ht => ⟨(by show 2 ≤ sizeLine; decide), fun t' ht' => ?_⟩⟩
            have g0 := same_new (o := .xd [("word", V.str "many")]) hd29
            have g1 := same_new (o := .tup [V.str "size", V.str "many"]) ht
            have g2 := same_new (o := .tup [V.str "size", V.str "many"]) ht'
            have shk := shaped_ss (a := "size") (b := "many") (by decide +kernel) (by decide +kernel)
            refine ⟨_, _, .tup (SqT.of (g2 _ _ upd_same)) (.cons (.str _) (.cons (.str _) .nil)), .tup (SqT.of upd_same) (.cons (.str _) (.cons (.str _) .nil)), shk, shk, _, rfl, ?_⟩
            rw [eqv_self shk]
            refine go_f rfl ?_
            have x30 := (((x28.same s29).same g0).same g1).same g2
            exact ⟨_, _, _, _, _, _, _, rfl, seqL_kp x30.k np hSs, x30.t⟩
          · rw [e] at hok3
            exact absurd hok3 (by
              show ¬ (true && (decide ((1 : Int) ≤ (m' : Int)) && decide ((m' : Int) ≤ 4))) = false
              rw [decide_eq_true (show (1 : Int) ≤ (m' : Int) by omega), decide_eq_true (show (m' : Int) ≤ 4 by omega)]
              decide)
        · rw [e] at hok2
          exact absurd hok2 (by
            show ¬ (true && (decide ((1 : Int) ≤ (p' : Int)) && decide ((p' : Int) ≤ 6))) = false
            rw [decide_eq_true (show (1 : Int) ≤ (p' : Int) by omega), decide_eq_true (show (p' : Int) ≤ 6 by omega)]
            decide)
      · rw [hok] at z
        cases z
      · rw [hok] at z
        cases z
    · rintro σ H' ⟨u1, u2, u3, u4, u5, u6, u7, rfl, _, _⟩
      exact k H'
end
end K40
namespace K40
open PySem PySem.W L2 FX
section
variable {K : Frag} {h : Heap} {mg : Str → Option Value}
theorem base_mk {b : Str} {B N : Addr} {q : Str} {bs : List Value} {sn : List Str} {sub : List Value} {ab : Bool} {col : Option Bool} {dd : Option Addr} {k0 k1 k2 k3 k5 : Option Value} (X : K.In h) (G : h.Ns mainGlobals mg)
    (a : nsIn K mainGlobals b = some (some (.ref B))) (l : K.lookup B = some (excClassObj b q B N bs tl true sn sub ab col dd k0 k1 k2 k3 k5 "Exception.__new__")) : BaseTxt K mg b B := ⟨mg_of X G a, _, _, _, _, _, _, _, _, _, _, _, _, _, l⟩
theorem err_mk {x : Str} {B C N : Addr} {q : Str} {bs : List Value} {sn : List Str} {sub : List Value} {ab : Bool} {col : Option Bool} {dd : Option Addr} {k0 k1 k2 k3 k5 : Option Value} (X : K.In h) (G : h.Ns mainGlobals mg)
    (a : nsIn K mainGlobals x = some (some (.ref C))) (l : K.lookup C = some (excClassObj x q C N bs (.ref B :: tl) true sn sub ab col dd k0 k1 k2 k3 k5 "Exception.__new__")) (c : keepIn K (.ref C) = true) : ErrTxt K mg B x C :=
  ⟨mg_of X G a, ⟨_, _, _, _, _, _, _, _, _, _, _, _, _, l⟩, c⟩
theorem init_mk {qn f : Str} {C i : Addr} {oc : Value} {od : Option Addr} {doc pm : Value} {an : Option Addr} {cdv ct : Value} {osl : Array (Option Value)} {p1 p2 q1 q2 q3 q4 : Pos} (ff : f = "at" ∨ f = "word")
    (iC : findIn K (.ref C) "__init__" = some (some (.ref i))) (sa : findIn K (.ref C) "__setattr__" = some (some (.builtin "object.__setattr__"))) (ga : findIn K (.ref C) "__getattribute__" = some (some (.builtin "BaseException.__getattribute__")))
    (gg : findIn K (.ref C) "__getattr__" = some none) (nf : findIn K (.ref C) f = some none) (tI : typeIn K (.ref i) = some (.type "function"))
    (fn : K.lookup i = some ⟨oc, od, .func (fnOf "__init__" qn (inA f p1 p2) (inB f q1 q2 q3 q4) (inS f) .none .none doc pm an cdv ct), osl⟩) (cd : codeIn K cdv qn = true) : InitTxt K qn f C i :=
  ⟨sa, ga, gg, nf, iC, tI, ⟨_, _, _, _, _, _, _, _, _, _, _, _, _, _, fn, cd⟩, ff⟩
theorem at_mk {x : Str} {st : Stmt} {f : Addr} {ps : List Str} {oc : Value} {od : Option Addr} {kV doc pm : Value} {an : Option Addr} {cdv ct : Value} {osl : Array (Option Value)} (X : K.In h) (G : h.Ns mainGlobals mg)
    (hb : ∀ (kV doc pm : Value) (an : Option Addr) (cdv ct : Value) (us : List Value), us.length = ps.length → bindArgs (fnOf x x (defArgs st) (defBody st) (defScope st) .none kV doc pm an cdv ct) ⟨us, []⟩ = pure (ps.zip us))
    (a : nsIn K mainGlobals x = some (some (.ref f))) (l : K.lookup f = some ⟨oc, od, .func (fnOf x x (defArgs st) (defBody st) (defScope st) .none kV doc pm an cdv ct), osl⟩) (c : codeIn K cdv x = true) (k : keepIn K (.ref f) = true) :
    At K mg x st f (fnOf x x (defArgs st) (defBody st) (defScope st) .none kV doc pm an cdv ct) ps := ⟨fun_mk l c k, mg_of X G a, (fun_mk (st := st) l c k).binds hb⟩
/-- a tuple of texts of the module's own top -/
def strsB : List Value → List Str → Bool
  | [], [] => true
  | .str y _ :: us, x :: xs => decide (y = x) && strsB us xs
  | _, _ => false
theorem vals_of : ∀ {us : List Value} {xs : List Str}, strsB us xs = true → Vals (xs.map V.str) us
  | [], [], _ => .nil
  | .str y t :: us, x :: xs, h => by
    have h : (decide (y = x) && strsB us xs) = true := h
    rw [Bool.and_eq_true, decide_eq_true_eq] at h
    obtain ⟨rfl, h2⟩ := h
    exact .cons ⟨t, rfl⟩ (vals_of h2)
def KindsAt (K : Frag) (aK : Addr) : Prop := ∃ (o : Obj) (its : Array Value) (n : Nat), K.lookup aK = some o ∧ o.cls = .type "tuple" ∧ o.data = .seq its n ∧ its.size ≤ sizeLine ∧ Vals (KS.map V.str) its.toList
theorem kinds_mk {aK : Addr} {od : Option Addr} {its : Array Value} {n : Nat} {sl : Array (Option Value)} (l : K.lookup aK = some ⟨.type "tuple", od, .seq its n, sl⟩) (v : (strsB its.toList KS && decide (its.size ≤ 100)) = true) : KindsAt K aK := by
  rw [Bool.and_eq_true, decide_eq_true_eq] at v
  exact ⟨_, its, n, l, rfl, rfl, by rw [sizeLine_eq]; omega, vals_of v.1⟩
/-- a def that makes lambdas: its code object and the table of these -/
structure AtC (K : Frag) (h : Heap) (mg : Str → Option Value) (x : Str) (st : Stmt) (f c P : Addr) (fd : FuncData) (ps : List Str) : Prop where
  F : FunC K x st f c fd
  g : mg x = some (.ref f)
  b : Binds K fd ps []
  C : CodeHd h c P
  n : K.lookup P = none
  z : h.get? P = some { cls := .none, data := .fields #[] }
theorem atC_mk {x : Str} {st : Stmt} {f c P : Addr} {ps : List Str} {oc : Value} {od : Option Addr} {kV doc pm : Value} {an : Option Addr} {ct cl : Value} {osl sl : Array (Option Value)} {dd : Option Addr} {vs : Array Value} (X : K.In h) (G : h.Ns mainGlobals mg)
    (hb : ∀ (kV doc pm : Value) (an : Option Addr) (cdv ct : Value) (us : List Value), us.length = ps.length → bindArgs (fnOf x x (defArgs st) (defBody st) (defScope st) .none kV doc pm an cdv ct) ⟨us, []⟩ = pure (ps.zip us))
    (a : nsIn K mainGlobals x = some (some (.ref f))) (l : K.lookup f = some ⟨oc, od, .func (fnOf x x (defArgs st) (defBody st) (defScope st) .none kV doc pm an (.ref c) ct), osl⟩) (cd : codeIn K (.ref c) x = true) (k : keepIn K (.ref f) = true)
    (lc : K.lookup c = some ⟨cl, dd, .fields vs, sl⟩) (v : vs[11]? = some (.ref P)) (e : codeHdIn K c P = true) (n : K.lookup P = none) (z : h.get? P = some { cls := .none, data := .fields #[] }) :
    AtC K h mg x st f c P (fnOf x x (defArgs st) (defBody st) (defScope st) .none kV doc pm an (.ref c) ct) ps := ⟨⟨⟨_, _, _, _, _, _, _, _, rfl, l, cd⟩, k⟩, mg_of X G a, (fun_mk (st := st) l cd k).binds hb, codeHd_of_K X e, n, z⟩
theorem tabS_0 {H : Hp} {P : Addr} {q : Str} (e : H P = some (.tbl #[])) : LamX.TabS H P q := ⟨#[], e, trivial, fun pos cv h => nomatch h⟩
end
set_option maxHeartbeats 4000000 in
theorem all_mk {l : OpenLaw} {w : World} {K : Frag} {h : Heap} {mg : Str → Option Value} {fa B cK aK cT cS iT iS f0 f1 f2 f3 f4 f5 f6 f7 f8 f9 f10 f11 f12 f13 f14 f15 f16 f17 f18 f19 f20 f21 f22 f23 f24 f25 f26 f27 f28 f29 g0 k0 t0 : Addr} {d0 d1 d2 d3 d4 d5 d6 d7 d8 d9 d10 d11 d12 d13 d14 d15 d16 d17 d18 d19 d20 d21 d22 d23 d24 d25 d26 d27 d28 d29 : FuncData} {kV doc pm ct : Value} {an : Option Addr} (X : K.In h) (G : h.Ns mainGlobals mg) (hfa : mg "law" = some (.ref fa))
    (S : BaseTxt K mg "FoldError" B)
    (ET : ErrTxt K mg B "InvalidTable" cT)
    (UT : InitTxt K "InvalidTable.__init__" "at" cT iT)
    (ES : ErrTxt K mg B "InvalidSize" cS)
    (US : InitTxt K "InvalidSize.__init__" "word" cS iS)
    (EK : ErrTxt K mg B "InvalidKind" cK)
    (qK : excIn K cK tl "Exception.__new__" = true)
    (gK : nsIn K mainGlobals "KINDS" = some (some (.ref aK)))
    (lK : KindsAt K aK)
    (D0 : At K mg "is_integer" sInteger f0 d0 ["value"])
    (D1 : At K mg "is_number" sNumber f1 d1 ["value"])
    (D2 : At K mg "is_below" sBelow f2 d2 ["many", "value"])
    (D3 : At K mg "is_between" sBetween f3 d3 ["least", "most", "value"])
    (D4 : At K mg "power" sPower f4 d4 ["base", "times"])
    (D5 : At K mg "all_rows" sRows f5 d5 ["choices"])
    (D6 : At K mg "need_answers" sNeedAns f6 d6 ["value"])
    (D7 : At K mg "need_kind" sNeedKind f7 d7 ["kind"])
    (D8 : At K mg "places_of" sPlaces f8 d8 ["answers"])
    (D9 : At K mg "way_of" sWay f9 d9 ["answers", "place"])
    (D10 : At K mg "hung_of" sHungOf f10 d10 ["answers"])
    (D11 : At K mg "is_of" sIsOf f11 d11 ["kind", "answers"])
    (D12 : At K mg "has_kind" sHasKind f12 d12 ["kind", "answers"])
    (D13 : At K mg "need_many" sNeedMany f13 d13 ["many"])
    (D14 : At K mg "rising_rows" sRR f14 d14 ["many"])
    (D15 : At K mg "lies_below" sLB f15 d15 ["one", "other"])
    (D16 : At K mg "rising_many" sRM f16 d16 ["places"])
    (D17 : At K mg "kind_count" sKC f17 d17 ["kind", "places"])
    (D18 : At K mg "rising_answers" sRA f18 d18 ["many"])
    (D19 : At K mg "_law_box" sBox f19 d19 ["script", "k"])
    (D20 : At K mg "_law_take" sTake f20 d20 ["box", "many"])
    (D21 : At K mg "_law_pick" sPick f21 d21 ["box", "some"])
    (D22 : At K mg "_law_refusal" sErr f22 d22 ["work"])
    (D23 : At K mg "_law_rows" sLR f23 d23 ["many"])
    (D24 : At K mg "_law_rising" sLRi f24 d24 ["many"])
    (D25 : At K mg "_law_is_below" sLIB f25 d25 ["low", "high"])
    (D26 : At K mg "_law_five" sFive f26 d26 [])
    (D27 : At K mg "_law_mark" sMark f27 d27 ["answers"])
    (D28 : At K mg "_law_listed" sListed f28 d28 ["kind", "many"])
    (D29 : At K mg "_law_due" sDue f29 d29 ["kind", "many"])
    (M0 : AtC K h mg "law" sLaw g0 k0 t0 (fnOf "law" "law" (defArgs sLaw) (defBody sLaw) (defScope sLaw) .none kV doc pm an (.ref k0) ct) ["script"])
    (n_int : nsIn K mainGlobals "int" = some none)
    (n_bool : nsIn K mainGlobals "bool" = some none)
    (n_list : nsIn K mainGlobals "list" = some none)
    (n_tuple : nsIn K mainGlobals "tuple" = some none)
    (n_isinstance : nsIn K mainGlobals "isinstance" = some none)
    (n_len : nsIn K mainGlobals "len" = some none)
    (n_range : nsIn K mainGlobals "range" = some none)
    (n_zip : nsIn K mainGlobals "zip" = some none)
    (n_all : nsIn K mainGlobals "all" = some none)
    (n_enumerate : nsIn K mainGlobals "enumerate" = some none)
    (n_abs : nsIn K mainGlobals "abs" = some none)
    (n_max : nsIn K mainGlobals "max" = some none)
    (n_min : nsIn K mainGlobals "min" = some none)
    (n_set : nsIn K mainGlobals "set" = some none)
    (n_repr : nsIn K mainGlobals "repr" = some none)
    (n_str : nsIn K mainGlobals "str" = some none)
    (n_any : nsIn K mainGlobals "any" = some none)
    (n_sorted : nsIn K mainGlobals "sorted" = some none)
    (n_sum : nsIn K mainGlobals "sum" = some none) :
    LamX.LawAtS l w K CX0 14 63 "script" mg fa h := by
  have e := hfa.symm.trans M0.g
  cases e
  have Z : Bi mg := ⟨mg_none_of X G n_int, mg_none_of X G n_bool, mg_none_of X G n_list, mg_none_of X G n_tuple, mg_none_of X G n_isinstance, mg_none_of X G n_len, mg_none_of X G n_range, mg_none_of X G n_zip, mg_none_of X G n_all, mg_none_of X G n_enumerate, mg_none_of X G n_abs, mg_none_of X G n_max, mg_none_of X G n_min, mg_none_of X G n_set, mg_none_of X G n_repr⟩
  have R : Ers K mg B cT iT cS iS cK aK := ⟨S, ⟨ET, UT⟩, ⟨ES, US⟩, EK, qK, mg_of X G gK, fun H => .inr lK⟩
  refine ⟨fnOf "law" "law" (defArgs sLaw) (defBody sLaw) (defScope sLaw) .none kV doc pm an (.ref k0) ct, [(k0, t0)], spLaw K [(t0, qLaw)], (List.forall_mem_cons.mpr ⟨M0.z, (fun _ h => nomatch h)⟩), (List.forall_mem_cons.mpr ⟨M0.n, (fun _ h => nomatch h)⟩), (List.forall_mem_cons.mpr ⟨M0.C, (fun _ h => nomatch h)⟩), fun s v => .of_eq rfl, fun H a ns _ _ hH hS => ⟨a, ns, rfl, hS, (List.forall_mem_cons.mpr ⟨tabS_0 (hH _ (List.mem_cons_self ..)), (fun _ h => nomatch h)⟩), fun _ => rfl⟩, fun base _ _ TB => ?_⟩
  · have gInt : FnOk l.prog w K mg base CX0 1 _ _ ["value"] (spB K isI) := ok_integer D0.F Z
    have gNum : FnOk l.prog w K mg base CX0 2 _ _ ["value"] (spB K isN) := ok_number D1.F Z D0
    have gBel : FnOk l.prog w K mg base CX0 3 _ _ ["many", "value"] (spB1 K isB) := ok_below D2.F D1 gNum
    have gBet : FnOk l.prog w K mg base CX0 2 _ _ ["least", "most", "value"] (spB2 K isBt) := ok_between D3.F D0 gInt
    have gNA : FnOk l.prog w K mg base CX0 4 _ _ ["value"] spNeedAns := ok_needAns D6.F Z D2 gBel
    have gNK : FnOk l.prog w K mg base (L2.CX l.prog w) 2 _ _ ["kind"] (spNeedKind K cK) := ok_needKind D7.F Z (mg_none_of X G n_str) R
    have gNM : FnOk l.prog w K mg base (L2.CX l.prog w) 3 _ _ ["many"] (spNeedMany K cS) := ok_needMany D13.F R D3 gBet
    have gWay : FnOk l.prog w K mg base CX0 2 _ _ ["answers", "place"] spWay := ok_way D9.F Z (mg_none_of X G n_any) D4 D8
    have gHO : FnOk l.prog w K mg base CX0 3 _ _ ["answers"] spHungOf := ok_hungOf D10.F Z D9 gWay D8
    have gIO : FnOk l.prog w K mg base CX0 4 _ _ ["kind", "answers"] spIsOf := ok_isOf D11.F Z D9 gWay D10 gHO
    have gHK : FnOk l.prog w K mg base (L2.CX l.prog w) 5 _ _ ["kind", "answers"] spHasKind := ok_hasKind D12.F D7 gNK D6 gNA D11 gIO
    have gRR : FnOk l.prog w K mg base CX0 2 _ _ ["many"] spRR := ok_rr D14.F Z D15
    have gRM : FnOk l.prog w K mg base CX0 3 _ _ ["places"] spRM := ok_rm D16.F Z D14 gRR D15 D5
    have gKC : FnOk l.prog w K mg base (L2.CX l.prog w) 4 _ _ ["kind", "places"] (spKC K cK cS) := ok_kc D17.F Z R D7 gNK D3 gBet D16 gRM D4
    have gRA : FnOk l.prog w K mg base (L2.CX l.prog w) 4 _ _ ["many"] (spRA K cS) := ok_ra D18.F Z D13 gNM D14 gRR
    have gBox : FnOk l.prog w K mg base CX0 1 _ _ ["script", "k"] (spBox K) := ok_box D19.F Z
    have gTake : FnOk l.prog w K mg base CX0 1 _ _ ["box", "many"] spTake := ok_take D20.F Z
    have gPick : FnOk l.prog w K mg base CX0 2 _ _ ["box", "some"] (spPick K) := ok_pick D21.F Z D20
    have gLRi : FnOk l.prog w K mg base CX0 2 _ _ ["many"] spLRi := ok_lri D24.F Z (mg_none_of X G n_sorted) D25
    have gFive : FnOk l.prog w K mg base CX0 3 _ _ [] spFive := ok_five D26.F Z D24 gLRi D27
    have gLi : FnOk l.prog w K mg base CX0 2 _ _ ["kind", "many"] spListed := ok_listed D28.F Z (mg_none_of X G n_sum) D23 D27
    have gDue : FnOk l.prog w K mg base CX0 4 _ _ ["kind", "many"] spDue := ok_due D29.F Z D23 D26 gFive D24 gLRi D28 gLi
    exact ok_law (T := [(t0, qLaw)]) M0.F Z R (Gs.mk D19 gBox D20 gTake D21 gPick D29 gDue D17 gKC D18 gRA D24 gLRi D12 gHK D22) (TB _ (List.mem_cons_self ..)) (List.mem_cons_self ..) (List.forall_mem_cons.mpr ⟨fun _ => rfl, (fun _ h => nomatch h)⟩)
end K40
open PySem PySem.W PyProof.Rows
set_option maxRecDepth 100000 in
set_option maxHeartbeats 0 in
theorem PySem.Challenge.cw_foldsall_k40_whole_how_many_answers_are_holds : PySem.Challenge.rw_foldsall_k40_whole_how_many_answers_are.Holds := by
  w_on; o_law; k_head; (case hw => w_witness2)
  k_fill
  refine LamX.walk_ofTs (l := PySem.Challenge.rw_foldsall_k40_whole_how_many_answers_are) (n := 63) (k := 14) (x := "script") (CX := fun _ => L2.CX0) rfl (by decide) rfl ⟨rfl, by decide, by decide⟩ (fun w h Y => PySem.W.km_in_of Y) ?F fun _ _ _ _ _ z => z
  case F =>
    intro w mg fa h Y KX G hmg
    refine' K40.all_mk KX G hmg ?S ?ET ?UT ?ES ?US ?EK ?qK ?gK ?lK ?D0 ?D1 ?D2 ?D3 ?D4 ?D5 ?D6 ?D7 ?D8 ?D9 ?D10 ?D11 ?D12 ?D13 ?D14 ?D15 ?D16 ?D17 ?D18 ?D19 ?D20 ?D21 ?D22 ?D23 ?D24 ?D25 ?D26 ?D27 ?D28 ?D29 ?M0 ?n_int ?n_bool ?n_list ?n_tuple ?n_isinstance ?n_len ?n_range ?n_zip ?n_all ?n_enumerate ?n_abs ?n_max ?n_min ?n_set ?n_repr ?n_str ?n_any ?n_sorted ?n_sum
    (case S => (refine' K40.base_mk KX G ?a ?l; (case a => k_is); (case l => k_is)))
    (case ET => (refine' K40.err_mk KX G ?a ?l ?c; (case a => k_is); (case l => k_is); (case c => k_is)))
    (case UT => (refine' K40.init_mk (Or.inl rfl) ?a ?b ?c ?d ?e ?f ?g ?h; (case a => k_is); (case b => k_is); (case c => k_is); (case d => k_is); (case e => k_is); (case f => k_is); (case g => k_is); (case h => k_is)))
    (case ES => (refine' K40.err_mk KX G ?a ?l ?c; (case a => k_is); (case l => k_is); (case c => k_is)))
    (case US => (refine' K40.init_mk (Or.inr rfl) ?a ?b ?c ?d ?e ?f ?g ?h; (case a => k_is); (case b => k_is); (case c => k_is); (case d => k_is); (case e => k_is); (case f => k_is); (case g => k_is); (case h => k_is)))
    (case EK => (refine' K40.err_mk KX G ?a ?l ?c; (case a => k_is); (case l => k_is); (case c => k_is)))
    (case qK => kernel_rfl)
    (case gK => k_is)
    (case lK => (refine' K40.kinds_mk ?l ?v; (case l => k_is); (case v => kernel_rfl)))
    (case D0 => (refine' K40.at_mk KX G (fun _ _ _ _ _ _ us hl => match us, hl with | [_], _ => rfl) ?a ?l ?c ?k; (case a => k_is); (case l => k_is); (case c => k_is); (case k => k_is)))
    (case D1 => (refine' K40.at_mk KX G (fun _ _ _ _ _ _ us hl => match us, hl with | [_], _ => rfl) ?a ?l ?c ?k; (case a => k_is); (case l => k_is); (case c => k_is); (case k => k_is)))
    (case D2 => (refine' K40.at_mk KX G (fun _ _ _ _ _ _ us hl => match us, hl with | [_, _], _ => rfl) ?a ?l ?c ?k; (case a => k_is); (case l => k_is); (case c => k_is); (case k => k_is)))
    (case D3 => (refine' K40.at_mk KX G (fun _ _ _ _ _ _ us hl => match us, hl with | [_, _, _], _ => rfl) ?a ?l ?c ?k; (case a => k_is); (case l => k_is); (case c => k_is); (case k => k_is)))
    (case D4 => (refine' K40.at_mk KX G (fun _ _ _ _ _ _ us hl => match us, hl with | [_, _], _ => rfl) ?a ?l ?c ?k; (case a => k_is); (case l => k_is); (case c => k_is); (case k => k_is)))
    (case D5 => (refine' K40.at_mk KX G (fun _ _ _ _ _ _ us hl => match us, hl with | [_], _ => rfl) ?a ?l ?c ?k; (case a => k_is); (case l => k_is); (case c => k_is); (case k => k_is)))
    (case D6 => (refine' K40.at_mk KX G (fun _ _ _ _ _ _ us hl => match us, hl with | [_], _ => rfl) ?a ?l ?c ?k; (case a => k_is); (case l => k_is); (case c => k_is); (case k => k_is)))
    (case D7 => (refine' K40.at_mk KX G (fun _ _ _ _ _ _ us hl => match us, hl with | [_], _ => rfl) ?a ?l ?c ?k; (case a => k_is); (case l => k_is); (case c => k_is); (case k => k_is)))
    (case D8 => (refine' K40.at_mk KX G (fun _ _ _ _ _ _ us hl => match us, hl with | [_], _ => rfl) ?a ?l ?c ?k; (case a => k_is); (case l => k_is); (case c => k_is); (case k => k_is)))
    (case D9 => (refine' K40.at_mk KX G (fun _ _ _ _ _ _ us hl => match us, hl with | [_, _], _ => rfl) ?a ?l ?c ?k; (case a => k_is); (case l => k_is); (case c => k_is); (case k => k_is)))
    (case D10 => (refine' K40.at_mk KX G (fun _ _ _ _ _ _ us hl => match us, hl with | [_], _ => rfl) ?a ?l ?c ?k; (case a => k_is); (case l => k_is); (case c => k_is); (case k => k_is)))
    (case D11 => (refine' K40.at_mk KX G (fun _ _ _ _ _ _ us hl => match us, hl with | [_, _], _ => rfl) ?a ?l ?c ?k; (case a => k_is); (case l => k_is); (case c => k_is); (case k => k_is)))
    (case D12 => (refine' K40.at_mk KX G (fun _ _ _ _ _ _ us hl => match us, hl with | [_, _], _ => rfl) ?a ?l ?c ?k; (case a => k_is); (case l => k_is); (case c => k_is); (case k => k_is)))
    (case D13 => (refine' K40.at_mk KX G (fun _ _ _ _ _ _ us hl => match us, hl with | [_], _ => rfl) ?a ?l ?c ?k; (case a => k_is); (case l => k_is); (case c => k_is); (case k => k_is)))
    (case D14 => (refine' K40.at_mk KX G (fun _ _ _ _ _ _ us hl => match us, hl with | [_], _ => rfl) ?a ?l ?c ?k; (case a => k_is); (case l => k_is); (case c => k_is); (case k => k_is)))
    (case D15 => (refine' K40.at_mk KX G (fun _ _ _ _ _ _ us hl => match us, hl with | [_, _], _ => rfl) ?a ?l ?c ?k; (case a => k_is); (case l => k_is); (case c => k_is); (case k => k_is)))
    (case D16 => (refine' K40.at_mk KX G (fun _ _ _ _ _ _ us hl => match us, hl with | [_], _ => rfl) ?a ?l ?c ?k; (case a => k_is); (case l => k_is); (case c => k_is); (case k => k_is)))
    (case D17 => (refine' K40.at_mk KX G (fun _ _ _ _ _ _ us hl => match us, hl with | [_, _], _ => rfl) ?a ?l ?c ?k; (case a => k_is); (case l => k_is); (case c => k_is); (case k => k_is)))
    (case D18 => (refine' K40.at_mk KX G (fun _ _ _ _ _ _ us hl => match us, hl with | [_], _ => rfl) ?a ?l ?c ?k; (case a => k_is); (case l => k_is); (case c => k_is); (case k => k_is)))
    (case D19 => (refine' K40.at_mk KX G (fun _ _ _ _ _ _ us hl => match us, hl with | [_, _], _ => rfl) ?a ?l ?c ?k; (case a => k_is); (case l => k_is); (case c => k_is); (case k => k_is)))
    (case D20 => (refine' K40.at_mk KX G (fun _ _ _ _ _ _ us hl => match us, hl with | [_, _], _ => rfl) ?a ?l ?c ?k; (case a => k_is); (case l => k_is); (case c => k_is); (case k => k_is)))
    (case D21 => (refine' K40.at_mk KX G (fun _ _ _ _ _ _ us hl => match us, hl with | [_, _], _ => rfl) ?a ?l ?c ?k; (case a => k_is); (case l => k_is); (case c => k_is); (case k => k_is)))
    (case D22 => (refine' K40.at_mk KX G (fun _ _ _ _ _ _ us hl => match us, hl with | [_], _ => rfl) ?a ?l ?c ?k; (case a => k_is); (case l => k_is); (case c => k_is); (case k => k_is)))
    (case D23 => (refine' K40.at_mk KX G (fun _ _ _ _ _ _ us hl => match us, hl with | [_], _ => rfl) ?a ?l ?c ?k; (case a => k_is); (case l => k_is); (case c => k_is); (case k => k_is)))
    (case D24 => (refine' K40.at_mk KX G (fun _ _ _ _ _ _ us hl => match us, hl with | [_], _ => rfl) ?a ?l ?c ?k; (case a => k_is); (case l => k_is); (case c => k_is); (case k => k_is)))
    (case D25 => (refine' K40.at_mk KX G (fun _ _ _ _ _ _ us hl => match us, hl with | [_, _], _ => rfl) ?a ?l ?c ?k; (case a => k_is); (case l => k_is); (case c => k_is); (case k => k_is)))
    (case D26 => (refine' K40.at_mk KX G (fun _ _ _ _ _ _ us hl => match us, hl with | [], _ => rfl) ?a ?l ?c ?k; (case a => k_is); (case l => k_is); (case c => k_is); (case k => k_is)))
    (case D27 => (refine' K40.at_mk KX G (fun _ _ _ _ _ _ us hl => match us, hl with | [_], _ => rfl) ?a ?l ?c ?k; (case a => k_is); (case l => k_is); (case c => k_is); (case k => k_is)))
    (case D28 => (refine' K40.at_mk KX G (fun _ _ _ _ _ _ us hl => match us, hl with | [_, _], _ => rfl) ?a ?l ?c ?k; (case a => k_is); (case l => k_is); (case c => k_is); (case k => k_is)))
    (case D29 => (refine' K40.at_mk KX G (fun _ _ _ _ _ _ us hl => match us, hl with | [_, _], _ => rfl) ?a ?l ?c ?k; (case a => k_is); (case l => k_is); (case c => k_is); (case k => k_is)))
    (case M0 => (refine' K40.atC_mk KX G (fun _ _ _ _ _ _ us hl => match us, hl with | [_], _ => rfl) ?a ?l ?c ?k ?lc ?v ?e ?n ?z; (case a => k_is); (case l => k_is); (case c => k_is); (case k => k_is); (case lc => k_is); (case v => rfl); (case e => kernel_rfl); (case n => kernel_rfl); (case z => exact PySem.W.km_tabs_of Y _ (by simp))))
    (case n_int => k_is)
    (case n_bool => k_is)
    (case n_list => k_is)
    (case n_tuple => k_is)
    (case n_isinstance => k_is)
    (case n_len => k_is)
    (case n_range => k_is)
    (case n_zip => k_is)
    (case n_all => k_is)
    (case n_enumerate => k_is)
    (case n_abs => k_is)
    (case n_max => k_is)
    (case n_min => k_is)
    (case n_set => k_is)
    (case n_repr => k_is)
    (case n_str => k_is)
    (case n_any => k_is)
    (case n_sorted => k_is)
    (case n_sum => k_is)
#print axioms PySem.Challenge.cw_foldsall_k40_whole_how_many_answers_are_holds
