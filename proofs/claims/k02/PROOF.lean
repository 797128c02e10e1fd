import PyProof.Rows.All
import Wide.All
import OpenK.AllK
import Wide.FinOn
import PyProof.EqAt
import PyProof.EqKinds
import PyProof.TupleCall
import HandS.ForMost
import HandS.Exc
import HandS.ExcInit
import HandS.Defaults
import KE.KIsAll
import KE.KTryMore
import HandS.ExcIs
import HandS.ExcField
import HandS.IsInst
import HandS.MakeKwOnly
import HandS.HotCalls
import HandS.OwnEq
import PyProof.InstNe
import HandS.Comp
import PyProof.ReprRoads
import HandS.ForExc
import HandS.ListEq
import HandS.DeepEq
import HandS.DictComp
import HandS.WordsList
import HandS.HeadHook1
import HandS.ExcCtx
import HandS.MakeKw
import HandS.CallSlots
import HandS.ExcInitHot
import HandS.Iter
import PyProof.StrLoop
import HandS.Walk
import HandS.NamedTupGet
import HandS.Text
import HandS.Flow
import HandS.More
import PyProof.StrLawsRepr
import PyProof.TypeEq
import HandS.Style
import HandS.SortInts
import HandS.SortRule
import HandS.NoneIn
import HandS.Conv
import HandS.Ends
import HandS.Head0
import HandS.Head1
import HandS.Head2
import HandS.HeadHook2
import KE.KStateDown
import HandS.HeadEnd
import PySem.Challenge.RW_maplost_k02_trees
set_option Elab.async false
set_option linter.all false
set_option maxRecDepth 100000
set_option maxHeartbeats 0
/-! exceptions with an own __init__, made by values and by keywords -/
namespace PySem
namespace MlE
open Builtin Builtin.ObjectAttr PySem.HandSPX
section
variable {M : Model} {A : Around} {E : Value → Shared → Prop} {hp : Heap} {gs : Array GenState} {dr : Drawn} {tk : Nat} {os : OsState}
variable {nm q : Str} {C N : Addr} {bs bm base : List Value} {hdct : Bool} {sn : List Str} {sub : List Value} {ab : Bool} {col : Option Bool} {dd : Option Addr}
variable {k0 k1 k2 k3 k5 : Option Value} {B nid iid : String}
theorem newCheckK (F : ExcBaseFacts B nid iid base) (hT : ∀ Y : String, bm.contains (.type Y) = base.contains (.type Y))
    {xs : List Value} {kw : List (Str × Value)} {Q : Unit → Shared → Prop}
    (hC : hp.get? C = some (excClassObj nm q C N bs bm hdct sn sub ab col dd k0 k1 k2 k3 k5 nid))
    (hq : Q () ⟨hp, gs, dr, tk, os⟩) :
    wpAny M A (checkBuiltinCall nid { pos := .ref C :: xs, kw := kw }) Q E ⟨hp, gs, dr, tk, os⟩ := by
  have inB : (Value.ref C :: bm).contains (.type B) = true := by
    rw [List.contains_cons, hT, F.hasB, Bool.or_true]
  have st := F.noStar
  simp only [checkBuiltinCall, F.newKind, F.newSplit, F.newRow]
  repeat (first
    | refine wpAny_loadPart_at hC ?_
    | (refine wpAny_isSubtype_exc hC ?_; rw [inB])
    | refine wpAny_staticBase_exc hC ?_
    | refine wpAny_madeBy_exc hC ?_
    | simp only [bne_self_eq_false, Bool.false_eq_true, if_false]
    | wp_step)
  exact hq
end
section
variable {P : Program} {w : World} {A : Around} {E : Value → Shared → Prop} {R : Result → Shared → Prop} {hp : Heap} {gs : Array GenState} {dr : Drawn} {tk : Nat} {os : OsState}
variable {nm q : Str} {C N : Addr} {bs bm base : List Value} {hdct : Bool} {sn : List Str} {sub : List Value} {ab : Bool} {col : Option Bool} {dd : Option Addr}
variable {k0 k1 k2 k3 k5 : Option Value} {B nid iid : String}
/-- the heap behind BaseException.__new__ -/
abbrev withNew (hp : Heap) (C : Addr) (xs : List Value) : Heap := (hp.push (PySem.W.kdv_tup xs)).push (excO C hp.objs.size)
theorem newK (F : ExcBaseFacts B nid iid base) (hT : ∀ Y : String, bm.contains (.type Y) = base.contains (.type Y))
    {xs : List Value} {kw : List (Str × Value)}
    (hC : hp.get? C = some (excClassObj nm q C N bs bm hdct sn sub ab col dd k0 k1 k2 k3 k5 nid)) (hl : xs.length ≤ sizeLine)
    (hq : R (.ok (.ret (.ref (hp.objs.size + 1)))) ⟨withNew hp C xs, gs, dr, tk, os⟩) :
    codeAny (model P w) A (.builtin nid { pos := .ref C :: xs, kw := kw }) R ⟨hp, gs, dr, tk, os⟩ := by
  have en := F.ends
  have inB : (Value.ref C :: bm).contains (.type B) = true := by
    rw [List.contains_cons, hT, F.hasB, Bool.or_true]
  have inA : (Value.ref C :: bm).contains (.type "AttributeError") = false := by
    rw [List.contains_cons, hT, F.noAttr] <;> rfl
  have inN : (Value.ref C :: bm).contains (.type "NameError") = false := by
    rw [List.contains_cons, hT, F.noName] <;> rfl
  refine codeAny_builtinAt F.entry ?_
  unfold Builtin.«BaseException.__new__»
  refine wpAt_bind ?_
  show wpAt _ _ _ (stack >>= _) _ _ _
  refine wpAt_bind (wpAt_stack fun p below => wpAt_of_wpAny ?_)
  wp_walk
  refine wpAt_of_wpAny ?_
  rw [F.owner]
  repeat (first
    | with_reducible refine wpAny_madeHere_exc F.canon hC ?_
    | with_reducible refine wpAny_loadPart_at hC ?_
    | (with_reducible refine wpAny_isSubtype_exc hC ?_; first | rw [inB] | rw [inA] | rw [inN])
    | wp_step)
  show R _ _
  rw [Heap.size_push]
  exact hq
/-- type.__call__ on such a class, with keywords -/
theorem typeCallK (F : ExcBaseFacts B nid iid base) (hT : ∀ Y : String, bm.contains (.type Y) = base.contains (.type Y))
    {xs : List Value} {kw : List (Str × Value)} {fI : Addr} {Q : Fin → Shared → Prop}
    (hC : hp.get? C = some (excClassObj nm q C N bs bm hdct sn sub ab col dd k0 k1 k2 k3 k5 nid))
    (hi : W.Looks (model P w) hp (typeLookup (.ref C) "__init__") (some (.ref fI)))
    (hb : ∀ self, W.Looks (model P w) hp (bindSpecial (.ref fI) self) (.ref fI, [self])) (hl : xs.length ≤ sizeLine)
    (hq : codeAny (model P w) A (.call (.ref fI) ⟨.ref (hp.objs.size + 1) :: xs, kw⟩)
      (fun r z => match r with
        | .ok (.ret v) => v = .none ∧ Q (.done (.ret (.ref (hp.objs.size + 1)))) z
        | .ok _ => False
        | .error e => E e z) ⟨withNew hp C xs, gs, dr, tk, os⟩) :
    wpAny (model P w) A (Builtin.«type.__call__» { pos := .ref C :: xs, kw := kw }) Q E ⟨hp, gs, dr, tk, os⟩ := by
  repeat (first
    | with_reducible refine wpAny_loadPart_at hC ?_
    | with_reducible refine wpAny_madeBy_exc hC ?_
    | wp_step)
  refine codeAny_call_builtin_code (Code.quiet_builtin _ F.quiet) (newCheckK F hT hC ?_)
  refine newK F hT hC hl ?_
  show wpAny _ _ _ _ _ _
  have up : ∀ b o, hp.get? b = some o → (withNew hp C xs).get? b = some o :=
    fun b o e => Heap.get?_push_of_some _ (Heap.get?_push_of_some _ e)
  have atC := up _ _ hC
  have atE : (withNew hp C xs).get? (hp.objs.size + 1) = some (excO C hp.objs.size) := by heap_get
  have self : (Value.ref C :: bm).contains (.ref C) = true := by simp
  have iK := hi.keeps up
  have bK := (hb (.ref (hp.objs.size + 1))).keeps up
  unfold isInstance
  repeat (first
    | with_reducible refine wpAny_loadPart_at atE ?_
    | (with_reducible refine wpAny_isSubtype_exc atC ?_; rw [self])
    | wp_step)
  show wpAny _ _ (typeLookup (.ref C) _) _ _ _
  refine iK.at ?_
  refine wpAny_holding (wpAny_bind (bK.at ?_))
  refine wpAny_bind (wpAny_call (codeAny_mono hq fun r z hz => ?_))
  cases r with
  | error e => exact hz
  | ok fl =>
    cases fl with
    | ret v =>
      obtain ⟨rfl, hz⟩ := hz
      first
        | exact wpAny_pure (wpAny_pure hz)
        | (wp_walk; exact hz)
    | next => exact hz.elim
    | brk => exact hz.elim
    | cont => exact hz.elim
theorem callK (F : ExcBaseFacts B nid iid base) (hT : ∀ Y : String, bm.contains (.type Y) = base.contains (.type Y))
    {xs : List Value} {kw : List (Str × Value)} {fI : Addr}
    (hC : hp.get? C = some (excClassObj nm q C N bs bm hdct sn sub ab col dd k0 k1 k2 k3 k5 nid))
    (hi : W.Looks (model P w) hp (typeLookup (.ref C) "__init__") (some (.ref fI)))
    (hb : ∀ self, W.Looks (model P w) hp (bindSpecial (.ref fI) self) (.ref fI, [self])) (hl : xs.length ≤ sizeLine)
    (hq : codeAny (model P w) (A.under (.builtin "type.__call__" ⟨.ref C :: xs, kw⟩))
      (.call (.ref fI) ⟨.ref (hp.objs.size + 1) :: xs, kw⟩) (W.InitBack (hp.objs.size + 1) R) ⟨withNew hp C xs, gs, dr, tk, os⟩) :
    codeAny (model P w) A (.call (.ref C) { pos := xs, kw := kw }) R ⟨hp, gs, dr, tk, os⟩ := by
  have g1 := tc_lookup
  have g2 := tc_bind (.ref C)
  have gT : (⟨hp, gs, dr, tk, os⟩ : Shared).TypeIs (.ref C) "type" := ⟨_, hC, rfl⟩
  refine codeAny_of_tree ?_
  show wpAny _ _ (callAny (.ref C) _) _ _ _
  repeat (any_goals (first
    | assumption
    | with_reducible refine wpAny_loadPart_at hC ?_
    | wp_step))
  refine ⟨rfl, ?_⟩
  refine codeAny_call_builtin_at (Code.quiet_builtin _ (by decide +kernel)) entry_typeCall ?_
  refine wpAny_check_type_call_sub hC (typeCallK F hT hC hi hb hl ?_)
  refine codeAny_mono hq fun r z hz => ?_
  cases r with
  | error e => exact hz
  | ok fl => cases fl <;> exact hz
end
end MlE
end PySem

/-! exceptions as values: isinstance, fields, whatever their dict -/
namespace PySem
namespace MlE
open PySem.W PySem.Spec PySem.Calls PyProof.Rows
section
variable {prog : Program} {w : World} {A : Around} {E : Value → Shared → Prop} {s : Shared} {K : Frag} {x D : Addr} {ox : Obj} {od : Option Obj}
theorem findObj_class {C : Addr} {name : Str} {a g : Value} (hc : (clsIn K C).isSome = true)
    (ha : findIn K (.ref C) name = some (some a)) (hg : specialIn K a "__get__" = some (some g)) (ht : takesIn K a = some true) :
    findObj K C od name = some (.bind g a) := by
  obtain ⟨cd, hcd⟩ := Option.isSome_iff_exists.mp hc
  unfold findObj
  simp [hcd, ha, hg, ht]
theorem class_of_exc {Q : Option Value → Shared → Prop} (T : L2.ExcC K D) (X : K.In s.heap) (I : InstAt s.heap x ox D od)
    (h : Q (some (.ref D)) { s with toks := s.toks + 1 }) : wpAny (model prog w) A (getAttr? (.ref x) "__class__") Q E s := by
  obtain ⟨hg, hk, hs, hd, ha, hn, ht, hm⟩ := T
  have cl : (clsIn K D).isSome = true := by
    obtain ⟨cd, hc, _⟩ := any_some hd
    rw [hc] <;> rfl
  have hf : findObj K D od "__class__" = some (.bind (.builtin "getset_descriptor.__get__") (.builtin "object.__class__")) :=
    findObj_class cl ha hn ht
  obtain ⟨hp, gs, dr, tk, os⟩ := s
  have l0 := I.type (M := model prog w)
  have l1 := looks_findIn (M := model prog w) X hg
  have l2 := looks_findIn (M := model prog w) X hk
  have l3 := looks_find (M := model prog w) X I hf
  have lb : Looks (model prog w) hp (isInstance (.ref x) (.type "BaseException")) true :=
    l0.andThen (looks_subIn X hs)
  have n0 : (false && onTheHeap (Value.builtin "BaseException.__getattribute__")) = false := rfl
  have n2 : (Value.builtin "BaseException.__getattribute__" == Value.builtin "object.__getattribute__") = false := by
    decide +kernel
  have n1 : (onTheHeap (Value.ref D) && Value.builtin "BaseException.__getattribute__" == Value.builtin "object.__getattribute__") = false := by
    rw [n2] <;> rfl
  unfold getAttr? getAttrBy? getAttrBy
  refine wpAny_bind (wpAny_mkText (wpAny_bind (wpAny_attempt ?_)))
  refine wpAny_holding (wpAny_bind (l0.at (wpAny_bind (l1.at ?_))))
  show wpAny _ _ (if (onTheHeap (Value.ref D) && Value.builtin "BaseException.__getattribute__" == Value.builtin "object.__getattribute__") = true then _
    else _) _ _ _
  rw [n1, if_neg Bool.false_ne_true]
  unfold getAttrByItsOwn hookBefore
  refine wpAny_bind ?_
  rw [if_pos (show onTheHeap (Value.ref D) = true from rfl)]
  refine l2.at ?_
  refine wpAny_bind (wpAny_attempt ?_)
  refine wpAny_holding ?_
  unfold callGetattribute
  rw [n0, if_neg Bool.false_ne_true]
  unfold boundAndCalled
  rw [PySem.F.excAttr_ValueError.ga.bind (.ref x)]
  refine wpAny_bind (wpAny_pure ?_)
  show wpAny _ _ (call (.builtin "BaseException.__getattribute__") [.ref x, .str "__class__" tk]) _ _ _
  refine wpAny_call ?_
  refine codeAny_call_builtin PySem.F.excAttr_ValueError.ga.plain PySem.F.entry_bexc_ga ?_
  refine @check_slot (model prog w) _ _ ⟨hp, gs, dr, tk + 1, os⟩ "BaseException.__getattribute__" "BaseException" "__getattribute__"
    (.ref x) [.str "__class__" tk] [] _ (by decide +kernel) (by decide +kernel) lb (PySem.F.args_bexc_ga (.ref x) (.str "__class__" tk)) ?_
  unfold Builtin.«object.__getattribute__»
  refine wpAny_bind ?_
  refine wpAny_of_eq (a := ((Value.ref x : Value), [Value.str "__class__" tk])) (by first | rfl | (simp only [slotArgs]; rfl)) ?_
  refine wpAny_bind (wpAny_pure ?_)
  refine wpAny_bind (l0.at (wpAny_bind (l3.at ?_)))
  show wpAny _ _ (holding [Value.builtin "object.__class__"] (call (.builtin "getset_descriptor.__get__")
    [.builtin "object.__class__", .ref x, .ref D]) >>= ret) _ _ _
  refine wpAny_bind (wpAny_holding (wpAny_call ?_))
  refine class_get (s := ⟨hp, gs, dr, tk + 1, os⟩) (ox := ox) (od := od) X I hm ?_
  refine wpAny_pure ?_
  show wpAny _ _ (handedOut (.ref D)) _ _ _
  rw [handedOut_of (v := .ref D) rfl]
  first
    | exact wpAny_pure (wpAny_pure h)
    | exact wpAny_pure h
    | exact wpAny_pure (wpAny_bind (wpAny_pure (wpAny_pure h)))
theorem kitx_excD (T : L2.ExcC K D) : KitX K (.ref x) (.ref D) (fun h => InstAt h x ox D od) where
  ty := fun _ _ _ I => I.type
  it := fun M h X _ => by
    obtain ⟨cd, hc, _⟩ := any_some T.hd
    unfold clsIn at hc
    split at hc
    · rename_i c1 d1 cd1 sl1 ho
      intro A1 Q1 E1 s1 k q
      unfold isType loadHead
      refine wpAny_bind ?_
      exact wpAny_loadPart (k _ _ (X _ _ ho)) (wpAny_pure q)
    · cases hc
  ne := fun h tp dd its n sl X htp => by
    obtain ⟨cd, hc, _⟩ := any_some T.hd
    rw [Bool.eq_false_iff]
    intro q
    obtain rfl : D = tp := Value.ref.inj (beq_iff_eq.mp q)
    unfold clsIn at hc
    split at hc
    · rename_i c1 d1 cd1 sl1 ho
      have z := (X _ _ ho).symm.trans htp
      cases z
    · cases hc
  ca := fun X I k => class_of_exc T X I k
end
end MlE
end PySem

namespace L2
open PySem PySem.Spec PyProof.Rows
/-! ### an exception that is held: tracked, or one of the pins ps -/
abbrev Pin := Addr × Obj
/-- the field table of an exception stands at d -/
def XdAt (H : Hp) (d : Addr) (fs : List (Str × V)) : Prop := H d = some (exd d fs) ∨ H d = some (.xd fs)
/-- at a: an exception of the class at C, its table at d with the fields fs -/
structure EvP (ps : List Pin) (H : Hp) (a C d : Addr) (fs : List (Str × V)) : Prop where
  at_ : H a = some (exo a C (some d)) ∨ ∃ oe : Obj, (a, oe) ∈ ps ∧ oe.cls = .ref C ∧ oe.dict = some d ∧ ∃ vs, oe.data = .fields vs
  tab : XdAt H d fs
theorem EvP.mono {ps qs : List Pin} {H H' : Hp} {a C d : Addr} {fs : List (Str × V)} (e : EvP ps H a C d fs)
    (hp : ∀ p ∈ ps, p ∈ qs) (k : ∀ b o, H b = some o → H' b = some o) : EvP qs H' a C d fs where
  at_ := e.at_.imp (k _ _) fun ⟨oe, h1, h2⟩ => ⟨oe, hp _ h1, h2⟩
  tab := e.tab.imp (k _ _) (k _ _)
section
variable {X : Cx} {pins : List Pin} {σ : St} {H : Hp} {s : Shared}
theorem XdAt.look (I : Inv X pins σ H s) {d : Addr} {fs : List (Str × V)} (x : XdAt H d fs) :
    ∃ mA, s.heap.Ns1 d mA ∧ ∀ f, RelO (fs.lookup f) (mA f) := by
  rcases x with x | x
  · exact exd_at I.hok x
  · exact I.hok d _ x
theorem EvP.look (I : Inv X pins σ H s) {ps : List Pin} (hps : ∀ p ∈ ps, p ∈ X.pn) {a C d : Addr} {fs : List (Str × V)} (e : EvP ps H a C d fs) :
    ∃ oe od mA, PySem.W.InstAt s.heap a oe C (some od) ∧ s.heap.Ns1 d mA ∧ (∀ f, RelO (fs.lookup f) (mA f)) ∧
      ∀ name, PySem.W.lookIn name od = some (mA name) := by
  obtain ⟨mA, hn, hr⟩ := e.tab.look I
  obtain ⟨od, ho, hl⟩ := lookIn_ns hn
  have key : ∃ oe : Obj, s.heap.get? a = some oe ∧ oe.cls = .ref C ∧ oe.dict = some d ∧ ∃ vs, oe.data = .fields vs := by
    rcases e.at_ with h | ⟨oe, hm, h1, h2, h3⟩
    · obtain ⟨t1, z⟩ := exo_at I.hok h
      exact ⟨_, z, rfl, rfl, _, rfl⟩
    · exact ⟨oe, (I.pin (a, oe) (List.mem_append_left _ (hps _ hm))).1, h1, h2, h3⟩
  obtain ⟨oe, z, hc, hd, vs, hv⟩ := key
  refine ⟨oe, od, mA, ⟨z, hc, ?_, ?_⟩, hn, hr, hl⟩
  · unfold PySem.W.notCls
    rw [hv] <;> rfl
  · rw [hd]
    exact ho
end

/-! ### isinstance -/
def rIsEv (K : PySem.W.Frag) (ps : List Pin) : List V → Hp → VK → Prop := fun xs H Q =>
  ∃ (a D d : Addr) (fs : List (Str × V)) (c : V) (u : Value) (b : Bool), xs = [.ref a, c] ∧ EvP ps H a D d fs ∧ ExcC K D ∧
    ClsV c u ∧ PySem.W.kitOne K (.ref D) u = some b ∧ Q (.bl b) H
def rIsEvT (K : PySem.W.Frag) (ps : List Pin) : List V → Hp → VK → Prop := fun xs H Q =>
  ∃ (a D d tp : Addr) (fs : List (Str × V)) (cs : List V) (us : List Value) (b : Bool), xs = [.ref a, .ref tp] ∧ EvP ps H a D d fs ∧
    ExcC K D ∧ H tp = some (.tup cs) ∧ Paired ClsV cs us ∧ PySem.W.kitAny K (.ref D) us = some b ∧ Q (.bl b) H
section
variable {X : Cx} {ps : List Pin}
theorem call_isEv (hps : ∀ p ∈ ps, p ∈ X.pn) : CallR X (.builtin "isinstance") (rIsEv X.K ps) := by
  intro pins s σ H xs us Q I r h
  obtain ⟨a, D, d, fs, c, u, b, rfl, ev, C, k, e, q⟩ := h
  obtain ⟨u1, u2, rfl, r1, r2⟩ := vals2 r
  have e2 := k.eq r2
  subst e2
  obtain rfl : u1 = Value.ref a := r1
  obtain ⟨oe, od, mA, J, _⟩ := ev.look I hps
  exact PySem.W.kia_one (PySem.MlE.kitx_excD C) I.kIn J e (fun z => nomatch z)
    fun tk => ⟨.bl b, H, I.tok tk, rfl, q⟩
theorem call_isEvT (hps : ∀ p ∈ ps, p ∈ X.pn) : CallR X (.builtin "isinstance") (rIsEvT X.K ps) := by
  intro pins s σ H xs us Q I r h
  obtain ⟨a, D, d, tp, fs, cs, ws, b, rfl, ev, C, hT, k, e, q⟩ := h
  obtain ⟨u1, u2, rfl, r1, r2⟩ := vals2 r
  obtain rfl : u2 = Value.ref tp := r2
  obtain rfl : u1 = Value.ref a := r1
  obtain ⟨oe, od, mA, J, _⟩ := ev.look I hps
  obtain ⟨_, its, rv, o, h1, h2, n, h3⟩ := (show ObjOk X.prog X.w H s.heap tp (.tup cs) from I.hok tp _ hT)
  have e3 := ClsV.all k rv
  subst e3
  obtain ⟨oc, od2, dt, sl⟩ := o
  simp only at h2 h3
  subst h2 h3
  exact PySem.W.kia_tup (PySem.MlE.kitx_excD C) I.kIn J h1 e (fun z => nomatch z)
    fun tk => ⟨.bl b, H, I.tok tk, rfl, q⟩
end

/-! ### a field -/
def tEvF (K : PySem.W.Frag) (ps : List Pin) (f : Str) (te : TE) : TE := fun σ H Q => te σ H fun x H1 =>
  ∃ (a D d : Addr) (fs : List (Str × V)) (v : V), x = .ref a ∧ EvP ps H1 a D d fs ∧ XfC K D ∧
    PySem.W.findIn K (.ref D) f = some none ∧ fs.lookup f = some v ∧ Q v H1
theorem pe_evF {X : Cx} {ps : List Pin} {e : Expr} {te : TE} {f : Str} {pos : Pos} (hps : ∀ p ∈ ps, p ∈ X.pn) (he : PE X e te)
    (hb : attributeBase e f X.env (eval e X.env) = eval e X.env := by rfl) : PE X (.Attribute e f pos) (tEvF X.K ps f te) := by
  refine ⟨fun pins s σ H Q I h => ?_⟩
  refine attr_of hb (thn (he.run pins s σ H _ I h) fun u s1 hh => ?_)
  obtain ⟨x, H1, I1, rx, a, D, d, fs, v, rfl, ev, T, hno, l, q⟩ := hh
  obtain rfl : u = Value.ref a := rx
  obtain ⟨oe, od, mA, J, _, hr, hl⟩ := ev.look I1 hps
  obtain ⟨y, hu, ru⟩ := RelO.some_of (v := v) (o := mA f) (by rw [← l]; exact hr f)
  exact HandSPX.exc_get I1.kIn J T.ga T.gg T.exC (PySem.W.findObj_own T.hdC hno rfl (by rw [hl, hu]))
    (handed_of ru) ⟨v, H1, I1.tok _, ru, q⟩

/-! ### C(e, .., k = v, ..) as a value -/
def tMkEv (C : Addr) (n m : Nat) (sp : Sp) (gV : List V → List V → List V) (t tk : TA) : TE := fun σ H Q =>
  t σ H fun vs H1 => tk σ H1 fun zs H2 => vs.length = n ∧ zs.length = m ∧
    ∀ a, H2 a = none → sp (gV (.ref a :: vs) zs) (upd H2 a (exo a C none)) (fun v H3 => v = .non ∧ Q (.ref a) H3) fun _ _ _ => False
section
variable {X : Cx} {CX : CXT} {k n : Nat} {C fI : Addr} {fd : FuncData} {ps ks : List Str} {sp : Sp} {x : Str} {p pos : Pos}
variable {e : Expr} {es : List Expr} {kws : List Keyword} {t tk : TA} {g : List Value → List Value → List Value} {gV : List V → List V → List V}
theorem run_mkEv {pins : List Pin} {σ : St} {H : Hp} {s : Shared} {Q : VK} {us ws : List Value} {vs zs : List V} (T : OexC X.K C)
    (iC : PySem.W.findIn X.K (.ref C) "__init__" = some (some (.ref fI))) (tI : PySem.W.typeIn X.K (.ref fI) = some (.type "function"))
    (F : FnOk X.prog X.w X.K X.mg X.base CX k fI fd ps sp) (hr : Room (k + 1) X.A) (hb : KBn X.K fd ps (n + 1) ks g gV)
    (hx : Passes CX X fun _ _ _ => False) (I : Inv X pins σ H s) (r : Vals vs us) (rz : Vals zs ws) (l1 : vs.length = n)
    (l2 : zs.length = ks.length) (hn : n ≤ 1000)
    (h : ∀ a, H a = none → sp (gV (.ref a :: vs) zs) (upd H a (exo a C none)) (fun v H2 => v = .non ∧ Q (.ref a) H2) fun _ _ _ => False) :
    wpAny (model X.prog X.w) X.A (call (.ref C) us (ks.zip ws)) (EP X pins σ Q) X.xe s := by
  obtain ⟨nm, q, N, bs, bm, sn, sub, ab, col, dd, k0, k1, k2, k3, k5, hC, hbm⟩ := T.cls
  obtain ⟨hp, gs, dr, tk0, os⟩ := s
  have le1 : hp.objs.size ≤ hp.objs.size + 1 := Nat.le_succ _
  have hq := h (hp.objs.size + 1) (I.hok.fresh le1)
  have up : ∀ b o, hp.get? b = some o → (PySem.MlE.withNew hp C us).get? b = some o :=
    fun b o e => Heap.get?_push_of_some _ (Heap.get?_push_of_some _ e)
  have atE : (PySem.MlE.withNew hp C us).get? (hp.objs.size + 1) = some (PySem.HandSPX.excO C hp.objs.size) := by heap_get
  have I2 : Inv X pins σ (upd H (hp.objs.size + 1) (exo (hp.objs.size + 1) C none)) ⟨PySem.MlE.withNew hp C us, gs, dr, tk0, os⟩ :=
    I.laid (t' := tk0) (a := hp.objs.size + 1) (o := exo (hp.objs.size + 1) C none) (h' := PySem.MlE.withNew hp C us) up le1 (exo_ok atE)
  have r1 : Vals (V.ref (hp.objs.size + 1) :: vs) (Value.ref (hp.objs.size + 1) :: us) := .cons rfl r
  have r2 := hb.rel r1 rz
  have e1 : (Value.ref (hp.objs.size + 1) :: us).length = n + 1 := r1.length.symm.trans (congrArg Nat.succ l1)
  have e2 : ws.length = ks.length := rz.length.symm.trans l2
  have hus : us.length ≤ sizeLine := by
    have z := r.length
    rw [sizeLine_eq]
    omega
  refine wpAny_call (PySem.MlE.callK PySem.F.excBase_ValueError (fun Y => PySem.HandSPX.refsVE_contains Y bm hbm)
    (I.kIn _ _ hC) (PySem.W.looks_findIn I.kIn iC) (fun self => PySem.W.bind_fn I.kIn self tI) hus ?_)
  refine codeAny_mono (F.run _ X.stack _ _ ⟨Value.ref (hp.objs.size + 1) :: us, ks.zip ws⟩ (g (Value.ref (hp.objs.size + 1) :: us) ws)
    _ _ (fun _ _ _ => False) (hr.make C us (ks.zip ws)) (I2.env0.make C us (ks.zip ws))
    (hb.to _ (Value.ref (hp.objs.size + 1) :: us) ws I2.kIn e1 e2) r2 hq) fun r s1 h1 => ?_
  cases r with
  | error er => exact hx pins σ _ _ er s1 I2 h1
  | ok fl =>
    cases fl with
    | ret u =>
      obtain ⟨v, H3, I3, rv, ev, q3⟩ := I2.after h1
      subst ev
      exact ⟨rv, ⟨V.ref (hp.objs.size + 1), H3, I3, rfl, q3⟩⟩
    | next => exact False.elim h1
    | brk => exact False.elim h1
    | cont => exact False.elim h1
/-- C(e, ..), values alone -/
theorem pe_mkEv (T : OexC X.K C) (iC : PySem.W.findIn X.K (.ref C) "__init__" = some (some (.ref fI)))
    (tI : PySem.W.typeIn X.K (.ref fI) = some (.type "function")) (FI : FnOk X.prog X.w X.K X.mg X.base CX k fI fd ps sp) (hr : Room (k + 1) X.A)
    (hb : KBn X.K fd ps (n + 1) [] g gV) (hx : Passes CX X fun _ _ _ => False) (hn : n ≤ 1000) (hg : Gl X x) (hm : X.mg x = some (.ref C)) (ha : PA X (e :: es) t)
    (hdb : (x == ("__debug__" : Str)) = false := by decide) (he : starEach (e :: es) X.env = (false, eval e X.env) :: starEach es X.env := by rfl)
    (hpl : (backTo pos (starEach es X.env)).any (·.1) = false := by rfl) : PE X (.Call (.Name x p) (e :: es) [] pos) (tMkEv C n 0 sp gV t tNil) := by
  refine ⟨fun pins s σ H Q I h => ?_⟩
  refine wpAny_Call_Name_kw (ld_glob I hg hm ?_ hdb)
  refine PySem.W.callWith_K (h₀ := X.base) I.ok.mod.kin T.kC ?_ he hpl
  refine thn (ha.run pos pins s σ H _ I h) fun us s1 ⟨vs, H1, I1, r, l1, l2, q⟩ => ⟨I1.kIn, ?_⟩
  exact run_mkEv (ks := []) (ws := []) (zs := []) T iC tI FI hr hb hx I1 r .nil l1 rfl hn q
/-- C(k = v, ..) -/
theorem pe_mkEvK (T : OexC X.K C) (iC : PySem.W.findIn X.K (.ref C) "__init__" = some (some (.ref fI)))
    (tI : PySem.W.typeIn X.K (.ref fI) = some (.type "function")) (FI : FnOk X.prog X.w X.K X.mg X.base CX k fI fd ps sp) (hr : Room (k + 1) X.A)
    (hb : KBn X.K fd ps 1 ks g gV) (hx : Passes CX X fun _ _ _ => False) (hg : Gl X x) (hm : X.mg x = some (.ref C)) (hkw : PK X kws tk)
    (hall : (backToKw pos (keywordEach kws X.env)).all (·.1.isSome) = true := by rfl)
    (hks : (backToKw pos (keywordEach kws X.env)).filterMap (·.1) = ks := by rfl) (hdb : (x == ("__debug__" : Str)) = false := by decide)
    (hpl : ((backTo pos (starEach [] X.env)).any (·.1) || (backToKw pos (keywordEach kws X.env)).any (·.1.isNone)) = false := by rfl) :
    PE X (.Call (.Name x p) [] kws pos) (tMkEv C 0 ks.length sp gV tNil tk) := by
  refine ⟨fun pins s σ H Q I h => ?_⟩
  refine wpAny_Call_Name_kw (ld_glob I hg hm ?_ hdb)
  refine PySem.W.callWith_KW0 (h₀ := X.base) I.ok.mod.kin T.kC hall ?_ hpl
  refine thn (hkw.run pos pins s σ H _ I h) fun ws s2 ⟨zs, H2, I2, rz, l1, l2, q2⟩ => ⟨I2.kIn, ?_⟩
  rw [hks]
  exact run_mkEv (us := []) (vs := []) T iC tI FI hr hb hx I2 .nil rz rfl l2 (Nat.zero_le _) q2
/-- C(e, .., k = v, ..) -/
theorem pe_mkEvM (T : OexC X.K C) (iC : PySem.W.findIn X.K (.ref C) "__init__" = some (some (.ref fI)))
    (tI : PySem.W.typeIn X.K (.ref fI) = some (.type "function")) (FI : FnOk X.prog X.w X.K X.mg X.base CX k fI fd ps sp) (hr : Room (k + 1) X.A)
    (hb : KBn X.K fd ps (n + 1) ks g gV) (hx : Passes CX X fun _ _ _ => False) (hn : n ≤ 1000) (hg : Gl X x) (hm : X.mg x = some (.ref C))
    (ha : PA X (e :: es) t) (hkw : PK X kws tk) (hall : (backToKw pos (keywordEach kws X.env)).all (·.1.isSome) = true := by rfl)
    (hks : (backToKw pos (keywordEach kws X.env)).filterMap (·.1) = ks := by rfl) (hdb : (x == ("__debug__" : Str)) = false := by decide)
    (he : starEach (e :: es) X.env = (false, eval e X.env) :: starEach es X.env := by rfl)
    (hpl : ((backTo pos (starEach (e :: es) X.env)).any (·.1) || (backToKw pos (keywordEach kws X.env)).any (·.1.isNone)) = false := by rfl) :
    PE X (.Call (.Name x p) (e :: es) kws pos) (tMkEv C n ks.length sp gV t tk) := by
  refine ⟨fun pins s σ H Q I h => ?_⟩
  refine wpAny_Call_Name_kw (ld_glob I hg hm ?_ hdb)
  refine PySem.W.callWith_KW (h₀ := X.base) I.ok.mod.kin T.kC hall ?_ hpl he
  refine thn (ha.run pos pins s σ H _ I h) fun us s1 ⟨vs, H1, I1, r, q⟩ => ?_
  refine thn (hkw.run pos pins s1 σ H1 _ I1 q) fun ws s2 ⟨zs, H2, I2, rz, l1, l2, q2⟩ => ⟨I2.kIn, ?_⟩
  rw [hks]
  exact run_mkEv T iC tI FI hr hb hx I2 r rz l1 l2 hn q2
end
end L2

namespace L2
open PySem PySem.Spec PyProof.Rows
theorem Vals.rev : ∀ {xs : List V} {us : List Value}, Vals xs us → Vals xs.reverse us.reverse
  | _, _, .nil => .nil
  | x :: xs, u :: us, .cons r t => by
    rw [List.reverse_cons, List.reverse_cons]
    exact (Vals.rev t).append (.cons r .nil)
section
variable {K : PySem.W.Frag} {x qual : Str} {params : Arguments} {body : List Stmt} {scope : Scope} {f : Addr} {fd : FuncData} {ps : List Str}
/-- a def without defaults, called by n values and the keywords ks -/
theorem FunD.kbn0 (F : FunD K x qual params body scope [] [] f fd) (n : Nat) (ks : List Str) (g : {α : Type} → List α → List α → List α)
    (hrel : ∀ {vs zs : List V} {us ws : List Value}, Vals vs us → Vals zs ws → Vals (g vs zs) (g us ws))
    (h : ∀ (kV doc pm : Value) (an : Option Addr) (cdv ct : Value) (us ws : List Value), us.length = n → ws.length = ks.length →
      bindArgs (PySem.W.fnOf x qual params body scope .none kV doc pm an cdv ct) ⟨us, ks.zip ws⟩ = pure (ps.zip (g us ws))) :
    KBn K fd ps n ks (fun us ws => g us ws) (fun vs zs => g vs zs) := by
  obtain ⟨oc, od, dV, kV, doc, pm, an, cdv, ct, osl, rfl, lk, hcd, hD, hK⟩ := F.ex
  rcases hD with ⟨_, rfl⟩ | ⟨e, _⟩
  · exact ⟨fun s us ws X l1 l2 => .of_eq (h kV doc pm an cdv ct us ws l1 l2), fun r1 r2 => hrel r1 r2⟩
  · exact absurd rfl e
end
theorem visP {N P : List Str} {sc : Scope} (S : FnScope N P sc) {y : Str} (hy : y ∈ P) : Vis sc y := by
  rcases S.par y hy with e | e
  · exact .inl e
  · exact .inr (.inl e)
/-- a name that means nothing to the machine -/
structure Plain (f : Str) : Prop where
  a : (f == ("__debug__" : Str)) = false
  b : (f == ("__classdict__" : Str)) = false
/-! ### self.f = f -/
abbrev iB1 (f : Str) (q1 q2 q3 q4 : Pos) : List Stmt := [.Assign [.Attribute (.Name "self" q1) f q2] (.Name f q3) q4]
abbrev iB2 (f g : Str) (q1 q2 q3 q4 r1 r2 r3 r4 : Pos) : List Stmt :=
  [.Assign [.Attribute (.Name "self" q1) f q2] (.Name f q3) q4, .Assign [.Attribute (.Name "self" r1) g r2] (.Name g r3) r4]
/-- the heap with a new exception at a, of the class at C, its table at d -/
def withEv (H : Hp) (a C d : Addr) (fs : List (Str × V)) : Hp := upd (upd H d (exd d fs)) a (exo a C (some d))
def spI1 (C : Addr) (f : Str) : Sp := fun vs H Q _ => ∃ (a : Addr) (v : V), vs = [.ref a, v] ∧ H a = some (exo a C none) ∧
  ∀ dx, H dx = none → dx ≠ a → Q .non (withEv H a C dx [(f, v)])
def spI2 (C : Addr) (f g : Str) : Sp := fun vs H Q _ => ∃ (a : Addr) (v w : V), vs = [.ref a, v, w] ∧ H a = some (exo a C none) ∧
  ∀ dx, H dx = none → dx ≠ a → Q .non (withEv H a C dx [(g, w), (f, v)])
section
variable {P : Program} {w : World} {K : PySem.W.Frag} {mg : Str → Option Value} {base : Heap} {C fI : Addr} {fd : FuncData} {qual f g : Str} {pa : Arguments} {bd : List Stmt} {sc : Scope}
theorem ok_init1 {q1 q2 q3 q4 : Pos} (F : FunD K "__init__" qual pa bd sc [] [] fI fd) (S : FnScope ["self", f] ["self", f] sc) (hb : bd = iB1 f q1 q2 q3 q4)
    (T : OexC K C) (no : PySem.W.findIn K (.ref C) f = some none) (pf : Plain f) : FnOk P w K mg base CX0 1 fI fd ["self", f] (spI1 C f) := by
  refine F.ok S (fun vs H Q E h => ?_) (fun cdv A outer s H vs Q E hr h => ?_)
  · obtain ⟨a, v, rfl, _⟩ := h
    rfl
  · subst hb
    refine ⟨_, pss_one (ps_ost (pe_var (i := 0) rfl (visP S List.mem_cons_self)) (pe_var (i := 1) rfl (visP S (List.mem_cons_of_mem _ List.mem_cons_self)) (hd := pf.a) (hcd := pf.b))), ?_⟩
    obtain ⟨a, v, rfl, ha, k⟩ := h
    exact ⟨_, rfl, _, rfl, a, C, rfl, T, no, .inl ⟨ha, fun dx n ne => k dx n ne⟩⟩
theorem ok_init2 {q1 q2 q3 q4 r1 r2 r3 r4 : Pos} (F : FunD K "__init__" qual pa bd sc [] [] fI fd) (S : FnScope ["self", f, g] ["self", f, g] sc) (hb : bd = iB2 f g q1 q2 q3 q4 r1 r2 r3 r4)
    (T : OexC K C) (no : PySem.W.findIn K (.ref C) f = some none) (no2 : PySem.W.findIn K (.ref C) g = some none) (pf : Plain f) (pg : Plain g) : FnOk P w K mg base CX0 1 fI fd ["self", f, g] (spI2 C f g) := by
  refine F.ok S (fun vs H Q E h => ?_) (fun cdv A outer s H vs Q E hr h => ?_)
  · obtain ⟨a, v, w, rfl, _⟩ := h
    rfl
  · subst hb
    have v0 := visP S (y := "self") List.mem_cons_self
    have v1 := visP S (y := f) (List.mem_cons_of_mem _ List.mem_cons_self)
    have v2 := visP S (y := g) (List.mem_cons_of_mem _ (List.mem_cons_of_mem _ List.mem_cons_self))
    refine ⟨_, pss_cons (ps_ost (pe_var (i := 0) rfl v0) (pe_var (i := 1) rfl v1 (hd := pf.a) (hcd := pf.b))) (pss_one (ps_ost (pe_var (i := 0) rfl v0) (pe_var (i := 2) rfl v2 (hd := pg.a) (hcd := pg.b)))), ?_⟩
    obtain ⟨a, v, w, rfl, ha, k⟩ := h
    refine ⟨_, rfl, _, rfl, a, C, rfl, T, no, .inl ⟨ha, fun dx n ne => ?_⟩⟩
    refine ⟨_, rfl, _, rfl, a, C, rfl, T, no2, .inr ⟨dx, [(f, v)], upd_same, ?_, by show 1 ≤ 900; decide, ?_⟩⟩
    · rw [upd_ne ne, upd_same]
    · have z := k dx n ne
      have e : upd (upd (upd H dx (exd dx [(f, v)])) a (exo a C (some dx))) dx (exd dx [(g, w), (f, v)]) = withEv H a C dx [(g, w), (f, v)] := by
        funext b
        unfold withEv
        by_cases h1 : b = dx
        · subst h1
          rw [upd_same, upd_ne ne, upd_same]
        · rw [upd_ne h1]
          by_cases h2 : b = a
          · rw [h2, upd_same, upd_same]
          · rw [upd_ne h2, upd_ne h1, upd_ne h2, upd_ne h1]
      exact e ▸ z
end
end L2

/-! defs that are called within an except suite and outside of one alike -/
namespace L2
open PySem PySem.Spec PyProof.Rows
open L2H (RoomH Hot1 PinOk)
/-- nothing is handled, or p is -/
def WarmA (A : Around) (p : Pin) : Prop := A.handled = none ∨ Hot1 A p
/-- no exception leaves -/
abbrev noE : XK := fun _ _ _ => False
structure FnP (P : Program) (w : World) (K : PySem.W.Frag) (mg : Str → Option Value) (base : Heap) (k : Nat) (f : Addr) (fd : FuncData)
    (ps : List Str) (p : Pin) (sp : Sp) : Prop where
  len : ∀ vs H Q E, sp vs H Q E → vs.length = ps.length
  run : ∀ (A : Around) (outer : List Env) (s : Shared) (H : Hp) (args : Args) (us : List Value) (vs : List V) (Q : VK), RoomH k A → A.guards = some [] → WarmA A p →
    PinOk outer H s p → Env0 P w K mg base A outer s H → BindsTo s fd args (ps.zip us) → Vals vs us → sp vs H Q noE →
    codeAny (model P w) A (.call (.ref f) args) (CR CX0 outer P w H s Q noE) s
/-- the body's context -/
abbrev cxP (P : Program) (w : World) (K : PySem.W.Frag) (mg : Str → Option Value) (base : Heap) (N : List Str) (qual : Str) (scope : Scope)
    (f : Addr) (cd : Value) (A : Around) (outer : List Env) (s : Shared) (H : Hp) (p : Pin) : Cx :=
  L2H.cxH CX0 P w K mg base N qual scope f cd A outer s H noE p
/-- what is known of a body's context -/
structure WarmC (X : Cx) (p : Pin) : Prop where
  mem : p ∈ X.pn
  gd : X.A.guards = some []
  warm : WarmA X.A p
section
variable {P : Program} {w : World} {K : PySem.W.Frag} {mg : Str → Option Value} {base : Heap} {k : Nat} {f : Addr} {fd : FuncData} {ps N : List Str}
variable {p : Pin} {sp : Sp} {x qual : Str} {pa : Arguments} {bd : List Stmt} {sc : Scope}
theorem FunD.okP (F : FunD K x qual pa bd sc [] [] f fd) (S : FnScope N ps sc) (len : ∀ vs H Q E, sp vs H Q E → vs.length = ps.length)
    (hbody : ∀ (cdv : Value) (A : Around) (outer : List Env) (s : Shared) (H : Hp) (vs : List V) (Q : VK), WarmC (cxP P w K mg base N qual sc f cdv A outer s H p) p →
      RoomH k (A.deeper (envOfC qual sc s.heap.objs.size f cdv)) → sp vs H Q noE →
      ∃ t, PSs (cxP P w K mg base N qual sc f cdv A outer s H p) bd t ∧ t { nx := fun _ H' => Q .non H', rt := Q } (start N vs) H) :
    FnP P w K mg base (k + 1) f fd ps p sp := by
  obtain ⟨oc, od, dV, kV, doc, pm, an, cdv, ct, osl, rfl, lk, hcd, _, _⟩ := F.ex
  refine ⟨len, fun A outer s H args us vs Q hr hgd hw hpin e0 hb r hsp => ?_⟩
  have hlen := len _ _ _ _ hsp
  have kin : K.In s.heap := e0.mod.kin.keeps fun b o e => (e0.bs b o e).1
  have lim : s.heap.NoLimit := e0.mod.nolimit.keeps fun b o e => (e0.bs b o e).1
  have kinds : ∀ y ∈ ps.zip us, sc.names.lookup y.1 = some .local ∨
      (sc.names.lookup y.1 = some .cell ∧ ((cellsFrom (s.heap.objs.size + 1) sc.names []).lookup y.1).isSome = true) := by
    rintro ⟨n, v⟩ hy
    rcases S.par n (List.of_mem_zip hy).1 with q | q
    · exact .inl q
    · exact .inr ⟨q, PySem.W.cellsFrom_some _ _ _ (.inl q)⟩
  refine codeAny_call_function hr.depth (kin _ _ lk) rfl S.co S.gen rfl (PySem.W.codeRec_of kin hcd) (hb _ _ _ _ ?_)
  refine wpAny_newFunctionEnv_cells S.kind kinds fun env he s1 z => ?_
  subst he
  refine ⟨lim.keeps z.toInCall.keep, codeAny_func ?_⟩
  have I : Inv (cxP P w K mg base N qual sc f cdv A outer s H p) [] (start N vs) H s1 := L2H.inv_startH S hpin e0 hlen r z
  have wc : WarmC (cxP P w K mg base N qual sc f cdv A outer s H p) p :=
    ⟨List.mem_cons_self, hgd, hw⟩
  obtain ⟨t, ht, hq⟩ := hbody cdv A outer s H vs Q wc (hr.deeper _) hsp
  have fin : ∀ {σ1 : St} {H1 : Hp} {v : V} {u : Value} {s2 : Shared}, Inv (cxP P w K mg base N qual sc f cdv A outer s H p) [] σ1 H1 s2 → RelV v u → Q v H1 →
      CE outer P w H s Q u s2 := fun {σ1 H1 v u s2} J rv q => ⟨v, H1, J.os, J.bare, J.base, J.hok, rv, q⟩
  refine wpAny_mono (ht.run [] s1 (start N vs) H _ I hq) (fun fl s2 hs => ?_) fun e s2 hs => hs
  cases fl with
  | ret u =>
    obtain ⟨v, σ1, H1, J, rv, q⟩ := hs
    exact fin J rv q
  | next =>
    obtain ⟨σ1, H1, J, q⟩ := hs
    exact fin (v := V.non) (u := Value.none) J rfl q
  | brk =>
    obtain ⟨_, _, _, q⟩ := hs
    exact q.elim
  | cont =>
    obtain ⟨_, _, _, q⟩ := hs
    exact q.elim
/-- a def that is called where no repr is under way -/
structure FnG (P : Program) (w : World) (K : PySem.W.Frag) (mg : Str → Option Value) (base : Heap) (k : Nat) (f : Addr) (fd : FuncData)
    (ps : List Str) (sp : Sp) : Prop where
  len : ∀ vs H Q E, sp vs H Q E → vs.length = ps.length
  run : ∀ (A : Around) (outer : List Env) (s : Shared) (H : Hp) (args : Args) (us : List Value) (vs : List V) (Q : VK), Room k A → A.guards = some [] →
    Env0 P w K mg base A outer s H → BindsTo s fd args (ps.zip us) → Vals vs us → sp vs H Q noE →
    codeAny (model P w) A (.call (.ref f) args) (CR CX0 outer P w H s Q noE) s
theorem FnG.mono {j : Nat} (F : FnG P w K mg base j f fd ps sp) (h : j ≤ k) : FnG P w K mg base k f fd ps sp :=
  ⟨F.len, fun A outer s H args us vs Q hr => F.run A outer s H args us vs Q (hr.mono h)⟩
/-- outside of a suite: any object of the written part may be the pin -/
theorem FnP.ok {a : Addr} {o : Obj} (F : FnP P w K mg base k f fd ps (a, o) sp) (ho : K.lookup a = some o) (hc : ∀ v, o.data ≠ .cell v) :
    FnG P w K mg base k f fd ps sp := by
  refine ⟨F.len, fun A outer s H args us vs Q hr hgd e0 hb r hsp => ?_⟩
  have hz : base.get? a = some o := e0.mod.kin _ _ ho
  have pin : PinOk outer H s (a, o) := by
    refine ⟨(e0.bs a o hz).1, (e0.bs a o hz).2, fun hm => ?_, hc⟩
    have z := (e0.funs.mem hm).1
    rw [hz] at z
    cases z
  exact F.run A outer s H args us vs Q (L2H.roomH_of hr) hgd (.inl hr.hd) pin e0 hb r hsp
theorem FunD.okG (F : FunD K x qual pa bd sc [] [] f fd) (S : FnScope N ps sc) (len : ∀ vs H Q E, sp vs H Q E → vs.length = ps.length)
    (hbody : ∀ (cdv : Value) (A : Around) (outer : List Env) (s : Shared) (H : Hp) (vs : List V) (Q : VK), (A.deeper (envOfC qual sc s.heap.objs.size f cdv)).guards = some [] →
      Room k (A.deeper (envOfC qual sc s.heap.objs.size f cdv)) → sp vs H Q noE →
      ∃ t, PSs (cxOf CX0 P w K mg base N qual sc f cdv A outer s H noE) bd t ∧ t { nx := fun _ H' => Q .non H', rt := Q } (start N vs) H) :
    FnG P w K mg base (k + 1) f fd ps sp := by
  obtain ⟨oc, od, dV, kV, doc, pm, an, cdv, ct, osl, rfl, lk, hcd, _, _⟩ := F.ex
  refine ⟨len, fun A outer s H args us vs Q hr hgd e0 hb r hsp => ?_⟩
  have hlen := len _ _ _ _ hsp
  have kin : K.In s.heap := e0.mod.kin.keeps fun b o e => (e0.bs b o e).1
  have lim : s.heap.NoLimit := e0.mod.nolimit.keeps fun b o e => (e0.bs b o e).1
  have kinds : ∀ y ∈ ps.zip us, sc.names.lookup y.1 = some .local ∨
      (sc.names.lookup y.1 = some .cell ∧ ((cellsFrom (s.heap.objs.size + 1) sc.names []).lookup y.1).isSome = true) := by
    rintro ⟨n, v⟩ hy
    rcases S.par n (List.of_mem_zip hy).1 with q | q
    · exact .inl q
    · exact .inr ⟨q, PySem.W.cellsFrom_some _ _ _ (.inl q)⟩
  refine codeAny_call_function hr.depth (kin _ _ lk) rfl S.co S.gen rfl (PySem.W.codeRec_of kin hcd) (hb _ _ _ _ ?_)
  refine wpAny_newFunctionEnv_cells S.kind kinds fun env he s1 z => ?_
  subst he
  refine ⟨lim.keeps z.toInCall.keep, codeAny_func ?_⟩
  have I : Inv (cxOf CX0 P w K mg base N qual sc f cdv A outer s H noE) [] (start N vs) H s1 := inv_start S hr.hd e0 hlen r z
  obtain ⟨t, ht, hq⟩ := hbody cdv A outer s H vs Q hgd (hr.deeper _) hsp
  have fin : ∀ {σ1 : St} {H1 : Hp} {v : V} {u : Value} {s2 : Shared}, Inv (cxOf CX0 P w K mg base N qual sc f cdv A outer s H noE) [] σ1 H1 s2 → RelV v u → Q v H1 →
      CE outer P w H s Q u s2 := fun {σ1 H1 v u s2} J rv q => ⟨v, H1, J.os, J.bare, J.base, J.hok, rv, q⟩
  refine wpAny_mono (ht.run [] s1 (start N vs) H _ I hq) (fun fl s2 hs => ?_) fun e s2 hs => hs
  cases fl with
  | ret u =>
    obtain ⟨v, σ1, H1, J, rv, q⟩ := hs
    exact fin J rv q
  | next =>
    obtain ⟨σ1, H1, J, q⟩ := hs
    exact fin (v := V.non) (u := Value.none) J rfl q
  | brk =>
    obtain ⟨_, _, _, q⟩ := hs
    exact q.elim
  | cont =>
    obtain ⟨_, _, _, q⟩ := hs
    exact q.elim
end
section
variable {X : Cx} {k : Nat} {f : Addr} {fd : FuncData} {ps : List Str} {p : Pin} {sp : Sp} {x : Str} {np pos : Pos} {e : Expr} {es : List Expr} {t : TA}
theorem pe_callP (F : FnP X.prog X.w X.K X.mg X.base k f fd ps p sp) (hw : WarmC X p) (hr : RoomH k X.A) (hg : Gl X x) (hm : X.mg x = some (.ref f))
    (hk : PySem.W.keepIn X.K (.ref f) = true) (hb : Binds X.K fd ps []) (ha : PA X (e :: es) t) (hdb : (x == ("__debug__" : Str)) = false := by decide)
    (he : starEach (e :: es) X.env = (false, eval e X.env) :: starEach es X.env := by rfl) (hpl : (backTo pos (starEach es X.env)).any (·.1) = false := by rfl) :
    PE X (.Call (.Name x np) (e :: es) [] pos) (tCall sp [] noE t) := by
  refine ⟨fun pins s σ H Q I h => ?_⟩
  refine wpAny_Call_Name_kw (ld_glob I hg hm ?_ hdb)
  refine PySem.W.callWith_K (h₀ := X.base) I.ok.mod.kin hk ?_ he hpl
  refine thn (ha.run pos pins s σ H _ I h) fun us s1 ⟨vs, H1, I1, r, q⟩ => ⟨I1.kIn, ?_⟩
  have q : sp vs H1 Q noE := by
    have z : sp (vs ++ []) H1 Q noE := q
    rwa [List.append_nil] at z
  have hl : (us ++ []).length = ps.length := by
    rw [List.append_nil, ← r.length]
    exact F.len _ _ _ _ q
  have bb := hb s1 us I1.kIn hl
  rw [List.append_nil] at bb
  obtain ⟨g1, g2, g3, g4, g5⟩ := I1.pin p (List.mem_append_left _ hw.mem)
  have pin : PinOk X.stack H1 s1 p := ⟨g1, g2, fun hm => by
    rcases List.mem_cons.mp (I1.stkSub _ hm) with z | z
    · exact g3 z
    · exact g4 z, g5⟩
  refine wpAny_call (codeAny_mono (F.run X.A X.stack s1 H1 ⟨us, []⟩ us vs Q hr hw.gd hw.warm pin I1.env0 bb r q) fun rs s2 h2 => ?_)
  cases rs with
  | error er => exact False.elim h2
  | ok fl =>
    cases fl with
    | ret u => exact I1.after h2
    | next => exact h2.elim
    | brk => exact h2.elim
    | cont => exact h2.elim
theorem pe_callG (F : FnG X.prog X.w X.K X.mg X.base k f fd ps sp) (hgd : X.A.guards = some []) (hr : Room k X.A) (hg : Gl X x) (hm : X.mg x = some (.ref f))
    (hk : PySem.W.keepIn X.K (.ref f) = true) (hb : Binds X.K fd ps []) (ha : PA X (e :: es) t) (hdb : (x == ("__debug__" : Str)) = false := by decide)
    (he : starEach (e :: es) X.env = (false, eval e X.env) :: starEach es X.env := by rfl) (hpl : (backTo pos (starEach es X.env)).any (·.1) = false := by rfl) :
    PE X (.Call (.Name x np) (e :: es) [] pos) (tCall sp [] noE t) := by
  refine ⟨fun pins s σ H Q I h => ?_⟩
  refine wpAny_Call_Name_kw (ld_glob I hg hm ?_ hdb)
  refine PySem.W.callWith_K (h₀ := X.base) I.ok.mod.kin hk ?_ he hpl
  refine thn (ha.run pos pins s σ H _ I h) fun us s1 ⟨vs, H1, I1, r, q⟩ => ⟨I1.kIn, ?_⟩
  have q : sp vs H1 Q noE := by
    have z : sp (vs ++ []) H1 Q noE := q
    rwa [List.append_nil] at z
  have hl : (us ++ []).length = ps.length := by
    rw [List.append_nil, ← r.length]
    exact F.len _ _ _ _ q
  have bb := hb s1 us I1.kIn hl
  rw [List.append_nil] at bb
  refine wpAny_call (codeAny_mono (F.run X.A X.stack s1 H1 ⟨us, []⟩ us vs Q hr hgd I1.env0 bb r q) fun rs s2 h2 => ?_)
  cases rs with
  | error er => exact False.elim h2
  | ok fl =>
    cases fl with
    | ret u => exact I1.after h2
    | next => exact h2.elim
    | brk => exact h2.elim
    | cont => exact h2.elim
end
end L2

/-! x in o, len(o), o == x, o != x: o an instance of a class of the text -/
namespace PySem.W
open PySem PySem.Calls PyProof.Rows Builtin
section
variable {prog : Program} {w : World} {A A₀ : Around} {E : Value → Shared → Prop} {s : Shared} {K : Frag} {x C L f : Addr} {h₀ : Heap} {m : Str → Option Value} {ox : Obj} {od : Option Obj} {name : Str} {b tb : Value}
/-- != by the text's own == -/
theorem ne_K {Q : Value → Shared → Prop} (hu : A.units + 8 < cLine) (X : K.In s.heap) (I : InstAt s.heap x ox C od) (hb : Looks (model prog w) s.heap (typeOf b) tb) (hn : notFirst K C tb = true)
    (hne : findIn K (.ref C) "__ne__" = some (some (.builtin "object.__ne__"))) (hob : subIn K (.ref C) (.type "object") = some true)
    (hs : findIn K (.ref C) "__eq__" = some (some (.ref f))) (hf : isFn K (.ref f) = true)
    (h : wpAny (model prog w) A.in1 (call (.ref f) [.ref x, b]) (fun v s' => ∃ c, v = .bool c ∧ Q (.bool (!c)) s') E s) : wpAny (model prog w) A (richCompare .NotEq (.ref x) b) Q E s := by
  have sub : Looks (model prog w) s.heap (isInstance (.ref x) (.type "object")) true := I.type.andThen (looks_subIn X hob)
  have body : ∀ {R : Fin → Shared → Prop}, wpAny (model prog w) A.in1 (call (.ref f) [.ref x, b]) (fun v s' => ∃ c, v = .bool c ∧ R (.done (.ret (.bool (!c)))) s') E s →
      wpAny (model prog w) A.in1 (Builtin.«object.__ne__» ⟨[.ref x, b], []⟩) R E s := by
    intro R h
    unfold Builtin.«object.__ne__»
    refine wpAny_bind (wpAny_of_eq (a := ((Value.ref x : Value), [b])) (by first | rfl | (simp only [slotArgs]; rfl)) ?_)
    show wpAny _ _ (cRoomFor _ _ >>= _) _ _ _
    refine wpAny_bind (wpAny_cRoomFor (by show A.units + 1 < cLine; omega) ?_)
    refine wpAny_bind (m := callSpecialIfBound? (.ref x) (Str.ofString "__eq__") [b]) (ifBound_K X I hs hf (wpAny_mono h (fun v s' hv => ?_) fun _ _ e => e))
    obtain ⟨c, rfl, q⟩ := hv
    show wpAny _ _ (truthy (.bool c) >>= _) _ _ _
    exact wpAny_bind (wpAny_truthy_bool (by first | exact wpAny_pure q | exact q))
  have slot : wpAny (model prog w) A (call (.builtin "object.__ne__") [.ref x, b]) (fun v s' => ∃ c, v = .bool c ∧ Q (.bool c) s') E s := by
    refine wpAny_call (codeAny_call_builtin (by decide +kernel) F.cmpEntry_ne (@check_slot (model prog w) _ _ s "object.__ne__" "object" "__ne__" (.ref x) [b] [] _ F.cmpKind_ne F.cmpSplit_ne sub (F.cmpArgs_ne _ _) (body (wpAny_mono h (fun v s' hv => ?_) fun _ _ e => e))))
    obtain ⟨c, rfl, q⟩ := hv
    exact ⟨c, rfl, _, rfl, q⟩
  have one : wpAny (model prog w) A (tryCompare (.ref x) "__ne__" b) (fun r s' => ∃ v, r = some v ∧ Q v s') E s := by
    unfold tryCompare
    refine wpAny_bind (m := callSpecialIfBound? (.ref x) _ [b]) ?_
    simp only [callSpecialIfBound?, bindSpecialIfBound?]
    refine wpAny_holding (wpAny_bind (wpAny_bind (wpAny_bind (I.type.here ((looks_findIn X hne).here ?_)))))
    have bnd : bindSpecial (.builtin "object.__ne__") (.ref x) = pure (.builtin "object.__ne__", [.ref x]) := by kernel_rfl
    have fin : wpAny (model prog w) A (call (.builtin "object.__ne__") ([.ref x] ++ [b]) >>= fun v => pure (some v)) (fun r s' => wpAny (model prog w) A (match r with | some .notImplemented | none => pure none | some v => pure (some v)) (fun r s' => ∃ v, r = some v ∧ Q v s') E s') E s := by
      refine wpAny_bind (wpAny_mono slot (fun v s' hv => ?_) fun _ _ e => e)
      obtain ⟨c, rfl, q⟩ := hv
      exact wpAny_pure (wpAny_pure ⟨_, rfl, q⟩)
    simp only [bnd]
    refine wpAny_bind (wpAny_askSetting (wpAny_ite ?_))
    split
    · exact wpAny_bind (wpAny_pure (wpAny_pure (by exact fin)))
    · exact wpAny_tryCatch (wpAny_bind (wpAny_pure (wpAny_pure (by exact fin))))
  unfold richCompare
  simp only [oneThing_ref]
  refine wpAny_holding (wpAny_bind (wpAny_cRoomFor (by omega) ?_))
  refine wpAny_bind (I.type.here (wpAny_bind (hb.here ?_)))
  split
  · rename_i q
    have e : subIn K tb (.ref C) = some false := by
      rcases Bool.or_eq_true_iff.mp hn with e | e
      · rw [beq_iff_eq.mp e] at q; simp at q
      · exact beq_iff_eq.mp e
    refine wpAny_bind ((looks_subIn X e).here ?_)
    simp only [Bool.false_eq_true, if_false]
    refine wpAny_bind (wpAny_mono one (fun r s' z => ?_) fun _ _ e => e)
    obtain ⟨v, rfl, hq⟩ := z
    exact wpAny_pure hq
  · refine wpAny_bind (wpAny_pure ?_)
    simp only [Bool.false_eq_true, if_false]
    refine wpAny_bind (wpAny_mono one (fun r s' z => ?_) fun _ _ e => e)
    obtain ⟨v, rfl, hq⟩ := z
    exact wpAny_pure hq
end
end PySem.W
namespace L2
open PySem PySem.Spec PyProof.Rows
section
variable {X : Cx} {CX : CXT} {k : Nat} {f C : Addr} {fd : FuncData} {ps : List Str} {sp : Sp}
theorem call_vals (F : FnOk X.prog X.w X.K X.mg X.base CX k f fd ps sp) (hb : Binds X.K fd ps []) (hx : Passes CX X noE) {A : Around} (hr : Room k A) (hA : A.frames = X.A.frames)
    {pins : List (Addr × Obj)} {s : Shared} {σ : St} {H : Hp} {vs : List V} {us : List Value} {Q : VK} (I : Inv X pins σ H s) (r : Vals vs us) (h : sp vs H Q noE) :
    wpAny (model X.prog X.w) A (call (.ref f) us) (EP X pins σ Q) X.xe s := by
  have e0 : Env0 X.prog X.w X.K X.mg X.base A X.stack s H := by
    have e := I.env0
    exact ⟨by rw [hA]; exact e.frames, e.mod, e.bs, e.bsz, e.funs, e.frf, e.hok, e.bare⟩
  have hl := F.len _ _ _ _ h
  refine wpAny_call (codeAny_mono (F.run A X.stack s H ⟨us, []⟩ us vs Q noE hr e0 (by
    have := hb s us I.kIn (by rw [List.append_nil, ← r.length]; exact hl)
    rwa [List.append_nil] at this) r h) fun r s' hq => ?_)
  cases r with
  | error e => exact hx pins σ H s e s' I hq
  | ok fl =>
    cases fl with
    | ret w => exact I.after hq
    | next => exact False.elim hq
    | brk => exact False.elim hq
    | cont => exact False.elim hq
/-- what answers a bool -/
abbrev blQ (Q : VK) (g : Bool → Bool) : VK := fun r H' => ∃ b, r = .bl b ∧ Q (.bl (g b)) H'
def rInO (C : Addr) (sp : Sp) (g : Bool → Bool) : R2 := fun x y H Q => ∃ o dx fs, y = .ref o ∧ H o = some (.ins C dx fs) ∧ sp [.ref o, x] H (blQ Q g) noE
theorem op_inO (F : FnOk X.prog X.w X.K X.mg X.base CX k f fd ps sp) (hb : Binds X.K fd ps []) (hx : Passes CX X noE) (hr : Room k X.A)
    (hs : PySem.W.findIn X.K (.ref C) "__contains__" = some (some (.ref f))) (hf : PySem.W.isFn X.K (.ref f) = true) : OpR X (compareOp .In) (rInO C sp id) := by
  intro pins s σ H x y v u Q I rx ry h
  obtain ⟨o, dx, fs, rfl, ho, q⟩ := h
  obtain rfl : u = Value.ref o := ry
  obtain ⟨mA, J, _⟩ := ins_get I.hok ho
  obtain ⟨od, J, _⟩ := J.look
  obtain ⟨m, hF⟩ := I.fr
  refine PySem.W.in_K hF I.ok.mod.kin J hs hf (wpAny_mono (call_vals F hb hx hr rfl I (.cons (F := RelV) (a := V.ref o) rfl (.cons rx .nil)) q) (fun r s' z => ?_) fun _ _ z => z)
  obtain ⟨v, H', I', rv, b, rfl, q⟩ := z
  obtain rfl : r = Value.bool b := rv
  exact wpAny_truthy_bool ⟨.bl b, H', I', rfl, q⟩
theorem op_notInO (F : FnOk X.prog X.w X.K X.mg X.base CX k f fd ps sp) (hb : Binds X.K fd ps []) (hx : Passes CX X noE) (hr : Room k X.A)
    (hs : PySem.W.findIn X.K (.ref C) "__contains__" = some (some (.ref f))) (hf : PySem.W.isFn X.K (.ref f) = true) : OpR X (compareOp .NotIn) (rInO C sp not) := by
  intro pins s σ H x y v u Q I rx ry h
  obtain ⟨o, dx, fs, rfl, ho, q⟩ := h
  obtain rfl : u = Value.ref o := ry
  obtain ⟨mA, J, _⟩ := ins_get I.hok ho
  obtain ⟨od, J, _⟩ := J.look
  obtain ⟨m, hF⟩ := I.fr
  refine PySem.W.notIn_K hF I.ok.mod.kin J hs hf (wpAny_mono (call_vals F hb hx hr rfl I (.cons (F := RelV) (a := V.ref o) rfl (.cons rx .nil)) q) (fun r s' z => ?_) fun _ _ z => z)
  obtain ⟨v, H', I', rv, b, rfl, q⟩ := z
  obtain rfl : r = Value.bool b := rv
  exact wpAny_truthy_bool ⟨.bl (!b), H', I', rfl, q⟩
/-- len(o) -/
theorem call_lenO (F : FnOk X.prog X.w X.K X.mg X.base CX k f fd ps sp) (hb : Binds X.K fd ps []) (hx : Passes CX X noE) (hr : Room (k + 1) X.A)
    (hs : PySem.W.findIn X.K (.ref C) "__len__" = some (some (.ref f))) (hf : PySem.W.isFn X.K (.ref f) = true) :
    CallR X (.builtin "len") (fun xs H Q => ∃ o dx fs, xs = [.ref o] ∧ H o = some (.ins C dx fs) ∧ sp [.ref o] H (fun r H' => ∃ n : Int, r = .int n ∧ 0 ≤ n ∧ n < 2 ^ 63 ∧ Q (.int n) H') noE) := by
  intro pins s σ H xs us Q I r h
  obtain ⟨o, dx, fs, rfl, ho, q⟩ := h
  obtain ⟨u, rfl, ru⟩ := vals1 r
  obtain rfl : u = Value.ref o := ru
  obtain ⟨mA, J, _⟩ := ins_get I.hok ho
  obtain ⟨od, J, _⟩ := J.look
  obtain ⟨m, hF⟩ := I.fr
  refine PySem.W.len_K hF I.ok.mod.kin J hs hf (wpAny_mono (call_vals F hb hx hr.in1 rfl I (.cons (F := RelV) (a := V.ref o) rfl .nil) q) (fun r s' z => ?_) fun _ _ z => z)
  obtain ⟨v, H', I', rv, n, rfl, h0, h1, q⟩ := z
  obtain ⟨t, rfl⟩ : ∃ t, r = Value.int n t := rv
  exact ⟨⟨h0, h1⟩, .int n, H', I'.tok _, ⟨_, rfl⟩, q⟩
/-- == and != of such an object and anything whose class is known -/
def rEqO (K : PySem.W.Frag) (C : Addr) (sp : Sp) (g : Bool → Bool) : R2 := fun x y H Q => ∃ o dx fs, x = .ref o ∧ H o = some (.ins C dx fs) ∧
  ((∃ t, TyX K H y t ∧ PySem.W.notFirst K C t = true) ∨ ∃ o' dx' fs', y = .ref o' ∧ H o' = some (.ins C dx' fs')) ∧ sp [.ref o, y] H (blQ Q g) noE
theorem eq_looks {pins : List (Addr × Obj)} {s : Shared} {σ : St} {H : Hp} {y : V} {u : Value} (I : Inv X pins σ H s) (ry : RelV y u)
    (h : (∃ t, TyX X.K H y t ∧ PySem.W.notFirst X.K C t = true) ∨ ∃ o' dx' fs', y = .ref o' ∧ H o' = some (.ins C dx' fs')) :
    ∃ t, PySem.W.Looks (model X.prog X.w) s.heap (typeOf u) t ∧ PySem.W.notFirst X.K C t = true := by
  rcases h with ⟨t, ty, n⟩ | ⟨o', dx', fs', rfl, ho'⟩
  · obtain ⟨P, kx, hp, _⟩ := kit_of I ry ty
    exact ⟨t, kx.ty _ _ I.kIn hp, n⟩
  · obtain rfl : u = Value.ref o' := ry
    obtain ⟨mA, J, _⟩ := ins_get I.hok ho'
    obtain ⟨od, J, _⟩ := J.look
    exact ⟨_, J.type, by simp [PySem.W.notFirst]⟩
theorem op_eqO (F : FnOk X.prog X.w X.K X.mg X.base CX k f fd ps sp) (hb : Binds X.K fd ps []) (hx : Passes CX X noE) (hr : Room (k + 1) X.A)
    (hs : PySem.W.findIn X.K (.ref C) "__eq__" = some (some (.ref f))) (hf : PySem.W.isFn X.K (.ref f) = true) : OpR X (compareOp .Eq) (rEqO X.K C sp id) := by
  intro pins s σ H x y v u Q I rx ry h
  obtain ⟨o, dx, fs, rfl, ho, hy, q⟩ := h
  obtain rfl : v = Value.ref o := rx
  obtain ⟨t, L, n⟩ := eq_looks I ry hy
  obtain ⟨mA, J, _⟩ := ins_get I.hok ho
  obtain ⟨od, J, _⟩ := J.look
  obtain ⟨m, hF⟩ := I.fr
  refine PySem.W.cmp_K (op := .Eq) hr.units0 hF I.ok.mod.kin J L n hs hf (wpAny_mono (call_vals F hb hx (hr.mono (Nat.le_succ _)) rfl I (.cons (F := RelV) (a := V.ref o) rfl (.cons ry .nil)) q) (fun r s' z => ?_) fun _ _ z => z)
  obtain ⟨v, H', I', rv, b, rfl, q⟩ := z
  obtain rfl : r = Value.bool b := rv
  exact ⟨.bl b, H', I', rfl, q⟩
theorem op_neO (F : FnOk X.prog X.w X.K X.mg X.base CX k f fd ps sp) (hb : Binds X.K fd ps []) (hx : Passes CX X noE) (hr : Room (k + 1) X.A)
    (hs : PySem.W.findIn X.K (.ref C) "__eq__" = some (some (.ref f))) (hf : PySem.W.isFn X.K (.ref f) = true)
    (hne : PySem.W.findIn X.K (.ref C) "__ne__" = some (some (.builtin "object.__ne__"))) (hob : PySem.W.subIn X.K (.ref C) (.type "object") = some true) : OpR X (compareOp .NotEq) (rEqO X.K C sp not) := by
  intro pins s σ H x y v u Q I rx ry h
  obtain ⟨o, dx, fs, rfl, ho, hy, q⟩ := h
  obtain rfl : v = Value.ref o := rx
  obtain ⟨t, L, n⟩ := eq_looks I ry hy
  obtain ⟨mA, J, _⟩ := ins_get I.hok ho
  obtain ⟨od, J, _⟩ := J.look
  refine PySem.W.ne_K (by have := hr.un; omega) I.kIn J L n hne hob hs hf (wpAny_mono (call_vals F hb hx hr.in1 rfl I (.cons (F := RelV) (a := V.ref o) rfl (.cons ry .nil)) q) (fun r s' z => ?_) fun _ _ z => z)
  obtain ⟨v, H', I', rv, b, rfl, q⟩ := z
  obtain rfl : r = Value.bool b := rv
  exact ⟨b, rfl, .bl (!b), H', I', rfl, q⟩
end
end L2

/-! list comprehensions, whether or not an exception is handled -/
namespace L2
open PySem PySem.Spec PyProof.Rows
open L2H (RoomH Hot1 PinOk)
open HotX (HotAt)
/-- at a heap: nothing is handled, or an exception without a context -/
def WarmH (A : Around) (h : Heap) : Prop := A.handled = none ∨ ∃ x1, HotAt A x1 h
/-- an iterator that goes and ends so -/
structure TurnW (P : Program) (w : World) (K : PySem.W.Frag) (tg : Expr) (J : It) (fp : List Addr) (it : Addr) (tn : Nat → Heap → Prop) : Prop where
  obj : ∀ i h, tn i h → ∀ b ∈ fp, ∃ o, h.get? b = some o ∧ ∀ v, o.data ≠ .cell v
  keep : ∀ i h h', tn i h → (∀ b ∈ fp, ∀ o, h.get? b = some o → h'.get? b = some o) → tn i h'
  item : ∀ (X : Cx), X.prog = P → X.w = w → X.K = K → ∀ (i : Nat) (pins : List Pin) (s : Shared) (σ : St) (H : Hp) (E : Value → Shared → Prop),
    WarmH X.A s.heap → Inv X pins σ H s → (∀ b ∈ fp, FpOk X pins H b) → tn i s.heap → J.go i H →
    wpAny (model P w) X.A (pyNext (.ref it)) (fun r s1 => ∃ u, r = some u ∧ wpAny (model P w) X.A (letOwnedTupleGo tg (.ref it) u)
      (fun _ s2 => ∃ x H', Inv X pins σ H' s2 ∧ RelV x u ∧ J.yld i H x H' ∧ tn (i + 1) s2.heap ∧ ∀ b ∈ fp, H' b = none) E s1) E s
  done : ∀ (X : Cx), X.prog = P → X.w = w → X.K = K → ∀ (i : Nat) (pins : List Pin) (s : Shared) (σ : St) (H : Hp) (E : Value → Shared → Prop),
    WarmH X.A s.heap → Inv X pins σ H s → (∀ b ∈ fp, FpOk X pins H b) → tn i s.heap → J.stop i H →
    wpAny (model P w) X.A (pyNext (.ref it)) (fun r s1 => r = none ∧ Inv X pins σ H s1) E s
  self : ∀ (A : Around) (i : Nat) (s : Shared) (Q : Value → Shared → Prop) (E : Value → Shared → Prop), tn i s.heap → Q (.ref it) s → wpAny (model P w) A (pyIter (.ref it)) Q E s
theorem turn_rangeW {P : Program} {w : World} {K : PySem.W.Frag} {tg : Expr} (it : Addr) (lo : Int) (n : Nat) :
    TurnW P w K tg (Itr lo n) [it] it (fun i h => IsRangeIter h it (lo + (i : Nat) * 1) ((n : Int) - (i : Nat)) 1) where
  obj := fun i h st b hb => by
    obtain rfl : b = it := by simpa using hb
    refine ⟨_, st, fun v z => ?_⟩
    have z1 : Data.fields _ = Data.cell v := z
    cases z1
  keep := fun i h h1 st k => k it (by simp) _ st
  item := by
    rintro X rfl rfl rfl i pins s σ H E hw I hf st hg
    obtain ⟨f0, f1, f2, f3, f4, f5⟩ := hf it (by simp)
    have lt : i < n := hg
    refine wpAny_pyNext_range_item st (by omega) fun h1 st1 sb => ?_
    have st2 : IsRangeIter h1 it (lo + ((i + 1 : Nat) : Int) * 1) ((n : Int) - ((i + 1 : Nat) : Int)) 1 := by
      have a1 : lo + ((i + 1 : Nat) : Int) * 1 = lo + ((i : Nat) : Int) * 1 + 1 := by omega
      have a2 : (n : Int) - ((i + 1 : Nat) : Int) = (n : Int) - ((i : Nat) : Int) - 1 := by omega
      rw [a1, a2]
      exact st1
    have I1 : Inv X pins σ H { s with heap := h1, toks := s.toks + 1 } :=
      I.turned (fun b o hb e => (sb.2 b hb).trans e) f0 f1 f3 f4 f5
    refine ⟨_, rfl, go_of (s := { s with heap := h1, toks := s.toks + 1 }) (n := "range_iterator") st2 rfl rfl (by decide) ?_⟩
    refine ⟨.int (lo + i), H, I1, ⟨s.toks, ?_⟩, ⟨rfl, rfl⟩, st2, fun b hb => (hf b hb).1⟩
    rw [Int.mul_one]
  done := by
    rintro X rfl rfl rfl i pins s σ H E hw I hf st hg
    obtain ⟨f0, f1, f2, f3, f4, f5⟩ := hf it (by simp)
    have le : n ≤ i := hg
    have z : (n : Int) - (i : Nat) ≤ 0 := by omega
    rcases hw with hw | ⟨x1, hot⟩
    · exact wpAny_pyNext_range_end hw st z fun h1 eb => ⟨rfl, I.turned (t' := s.toks) (fun b o hb e => eb b o hb e) f0 f1 f3 f4 f5⟩
    · exact HotX.pyNext_range_end_hot hot st z fun h1 eb => ⟨rfl, I.turned (t' := s.toks) (fun b o _ e => eb b o e) f0 f1 f3 f4 f5⟩
  self := fun _ _ _ _ _ st h => wpAny_pyIter_rangeiter st h
def PIEW (X : Cx) (pins : List Pin) (σ : St) (tg : Expr) (R : It → Hp → Prop) (itv : Value) (s2 : Shared) : Prop :=
  ∃ (it : Addr) (fp : List Addr) (tn : Nat → Heap → Prop) (J : It) (H' : Hp), itv = .ref it ∧ Inv X pins σ H' s2 ∧
    TurnW X.prog X.w X.K tg J fp it tn ∧ tn 0 s2.heap ∧ (∀ b ∈ fp, FpOk X pins H' b) ∧ R J H'
structure PIW (X : Cx) (tg iter : Expr) (wi : TI) : Prop where
  run : ∀ (pins : List Pin) (s : Shared) (σ : St) (H : Hp) (R : It → Hp → Prop), Inv X pins σ H s → wi σ H R →
    wpAny (model X.prog X.w) X.A (eval iter X.env) (fun v s1 => wpAny (model X.prog X.w) X.A (pyIter v) (PIEW X pins σ tg R) X.xe s1) X.xe s
section
variable {X : Cx} {tg : Expr}
theorem range_itW {pins : List Pin} {σ : St} {H : Hp} {s : Shared} {R : It → Hp → Prop} {E : Value → Shared → Prop} {lo hi : Int} {t u v : Tok} {tk : Nat}
    (I : Inv X pins σ H s) (h1 : -(2 ^ 62) ≤ lo) (h2 : lo < 2 ^ 62) (h3 : -(2 ^ 62) ≤ hi) (h4 : hi < 2 ^ 62) (q : R (Itr lo (hi - lo).toNat) H) :
    wpAny (model X.prog X.w) X.A (pyIter (.ref s.heap.objs.size)) (PIEW X pins σ tg R) E
      { s with heap := s.heap.push { cls := .type "range", data := .fields #[.int lo t, .int hi u, .int 1 v] }, toks := tk } := by
  generalize hro : ({ cls := .type "range", data := .fields #[.int lo t, .int hi u, .int 1 v] } : Obj) = ro
  have isR : IsRange (s.heap.push ro) s.heap.objs.size lo hi 1 t u v := by
    rw [← hro]
    exact IsRange.new ..
  refine wpAny_pyIter_range isR (small_one h1 h2 h3 h4) ?_
  have I1 : Inv X pins σ H { s with heap := s.heap.push ro, toks := tk } := I.kept fun b o e => Heap.get?_push_of_some _ e
  refine ⟨(s.heap.push ro).objs.size, [(s.heap.push ro).objs.size], _, _, H, rfl, I1.kept (t' := tk) fun b o e => Heap.get?_push_of_some _ e,
    turn_rangeW _ lo (hi - lo).toNat, ?_, fun b hb => ?_, q⟩
  · have a1 : lo + ((0 : Nat) : Int) * 1 = lo := by simp
    have a2 : (((hi - lo).toNat : Nat) : Int) - ((0 : Nat) : Int) = Builtin.Range.rangeSize lo hi 1 := by
      rw [rangeSize_one]
      split <;> omega
    show IsRangeIter _ _ (lo + ((0 : Nat) : Int) * 1) ((((hi - lo).toNat : Nat) : Int) - ((0 : Nat) : Int)) 1
    rw [a1, a2]
    exact Heap.get?_push_size _ rfl
  · obtain rfl : b = (s.heap.push ro).objs.size := by simpa using hb
    exact I1.fpOk (Nat.le_refl _) (I1.hok.fresh (Nat.le_refl _))
theorem pi_range1W {a : Expr} {ta : TA} {p pos : Pos} (hg : Gl X "range") (hm : X.mg "range" = none) (ha : PA X [a] ta)
    (hs : starEach [a] X.env = [(false, eval a X.env)] := by rfl) : PIW X tg (.Call (.Name "range" p) [a] [] pos) (iRng1 ta) := by
  refine ⟨fun pins s σ H R I h => ?_⟩
  refine Call_ (ld_blt I hg hm boot_range (PyProof.Rows.callWith_type1 ?_ hs rfl))
  refine thn (ha.run pos pins s σ H _ I h) fun us s1 ⟨vs, H1, I1, r1, j, e, q1, q2, q⟩ => ?_
  subst e
  obtain ⟨y, rfl, ry⟩ := vals1 r1
  obtain ⟨tk, rfl⟩ : ∃ tk, y = Value.int j tk := ry
  exact call_range_1 (range_itW I1 (by omega) (by omega) q1 q2 (by simpa using q))
end
end L2

namespace L2
open PySem PySem.Spec PyProof.Rows
open L2H (RoomH Hot1 PinOk)
section
variable {X : Cx} {p : Pin}
theorem WarmC.at (c : WarmC X p) {h : Heap} (g : h.get? p.1 = some p.2) : WarmH X.A h := by
  rcases c.warm with z | ⟨z, vs, h1, h2⟩
  · exact .inl z
  · exact .inr ⟨p.1, z, p.2, vs, g, h1, h2⟩
theorem lcW_core {pins : List Pin} {s : Shared} {σ : St} {H : Hp} {Q : VK} {elt tg iter : Expr} {ifs : List Expr} {scope : Scope} {own : List (Str × Nat)}
    {pos pos1 : Pos} {wi : TI} {g : TG} {tt : TT} {te : TE} {use : Option (Value → Sem Unit)} {Qf : Value → Shared → Prop} (wc : WarmC X p)
    (hN : X.N.Nodup) (I : Inv X pins σ H s) (hi : PIW X tg iter wi) (ok : BlkOk X.N X.env.scope scope own)
    (hg : ∀ (s : Shared) (H : Hp) (C : Addr) (cl : List (Str × Addr)) (fp : List Addr), PG (X.blk s H scope (compEnvC scope cl C X.env) fp) tg g)
    (ht : ∀ (s : Shared) (H : Hp) (C : Addr) (cl : List (Str × Addr)) (fp : List Addr), PTs (X.blk s H scope (compEnvC scope cl C X.env) fp) ifs tt)
    (he : ∀ (s : Shared) (H : Hp) (C : Addr) (cl : List (Str × Addr)) (fp : List Addr), PE (X.blk s H scope (compEnvC scope cl C X.env) fp) elt te)
    (hs : ∀ x, foldedSetIterable iter X.env x = pure x) (h : tLc wi g tt te (own.map (·.2)) σ H Q)
    (back : ∀ D C s1 m H1, Inv X pins σ H1 s1 → Q (.ref D) H1 → s1.heap.Ns C m → FpOk X pins H1 C →
      compPost (model X.prog X.w) X.A X.xe use Qf (.ref D) C (.ok .next) s1) :
    wpAny (model X.prog X.w) X.A (comprehension (.ListComp elt [⟨tg, iter, ifs, 0⟩] scope pos) scope X.env pos1 (newList []) false (eval iter X.env) use) Qf X.xe s := by
  have frees : ∀ y ∈ scope.names, y.2 = .free → ∃ c, X.env.cells.lookup y.1 = some c := by
    intro y hy e
    exact (ok.free y hy e).elim (fun k => I.ok.has _ (.inl k)) fun k => I.ok.has _ (.inr k)
  refine wpAny_comprehension_free (use := use) rfl hs (closure_ok frees) ok.kind (fun y hy e => by rw [ok.uniq y hy, e]) ?_
  refine thn (hi.run pins s σ H _ I h) fun xv s1 hx => thn hx fun itv s2 h2 => ?_
  obtain ⟨it, fp, tn, J, H2, e, I2, T, st2, f2, q⟩ := h2
  subst e
  refine wpAny_newObj_type (newEnv_comp ?_) (by show 0 ≤ sizeLine; decide)
  generalize hD : s2.heap.objs.size = D
  have freeD : H2 D = none := I2.hok.fresh (Nat.le_of_eq hD)
  obtain ⟨W, ⟨m0, w0⟩, turn⟩ := q D freeD
  generalize hs3 : ({ s2 with heap := s2.heap.push { cls := .type "list", data := .seq ([] : List Value).toArray } } : Shared) = s3
  have heap3 : s3.heap = s2.heap.push { cls := .type "list", data := .seq ([] : List Value).toArray } := by
    rw [← hs3]
  have I3 : Inv X pins σ (upd H2 D (.lst [])) s3 := by
    rw [← hs3]
    refine I2.laid (t' := s2.toks) (fun b o e => Heap.get?_push_of_some _ e) (Nat.le_of_eq hD) ?_
    refine ⟨Nat.zero_le _, [], 0, .nil, ?_⟩
    rw [← hD]
    exact Heap.get?_push_size _ rfl
  have lts : ∀ b ∈ fp, b < s2.heap.objs.size := by
    intro b hb
    obtain ⟨o, e, _⟩ := T.obj _ _ st2 b hb
    exact Heap.lt_size e
  have f3 : ∀ b ∈ fp, FpOk X pins (upd H2 D (.lst [])) b ∧ b < s3.heap.objs.size := by
    intro b hb
    have lt := lts b hb
    refine ⟨⟨?_, (f2 b hb).2⟩, ?_⟩
    · rw [upd_ne (by rw [← hD]; exact Nat.ne_of_lt lt)]
      exact (f2 b hb).1
    · rw [heap3, Heap.size_push]
      exact Nat.lt_succ_of_lt lt
  have st3 : tn 0 s3.heap := T.keep _ _ _ st2 fun b _ o e => by
    rw [heap3]
    exact Heap.get?_push_of_some _ e
  have I4 := block_start I3 ok hN f3
  generalize hcl : cellsFrom (s3.heap.objs.size + 1) scope.names (cloFrom X.env.cells scope.names []) = cl at I4
  have pg := hg s3 (upd H2 D (.lst [])) s3.heap.objs.size cl fp
  have pt := ht s3 (upd H2 D (.lst [])) s3.heap.objs.size cl fp
  have pe := he s3 (upd H2 D (.lst [])) s3.heap.objs.size cl fp
  show codeAny _ _ (.compStart (.ListComp elt [⟨tg, iter, ifs, 0⟩] scope pos) 0 (.ref it) (.ref D) (compEnvC scope cl s3.heap.objs.size X.env))
    (compPost (model X.prog X.w) X.A X.xe use Qf (.ref D) s3.heap.objs.size)
    { s3 with heap := pushCells (s3.heap.push { cls := .type "dict", data := .dict #[] }) scope.names }
  have nofp : ∀ b ∈ fp, (upd H2 D (.lst [])) b = none := fun b hb => (f3 b hb).1.1
  generalize hce : compEnvC scope cl s3.heap.objs.size X.env = ce at I4 pg pt pe ⊢
  have locC : ce.locals = s3.heap.objs.size := by
    subst hce
    rfl
  generalize hH3 : upd H2 D (.lst []) = H3 at I3 I4 pg pt pe w0 nofp f3
  generalize hs4 : ({ s3 with heap := pushCells (s3.heap.push { cls := .type "dict", data := .dict #[] }) scope.names } : Shared) = s4 at I4 ⊢
  have st4 : tn 0 s4.heap := T.keep _ _ _ st3 fun b _ o e => by
    rw [← hs4]
    exact pushCells_keeps _ _ _ _ (Heap.get?_push_of_some _ e)
  -- the handled exception stays within the block
  obtain ⟨g1, g2, g3, g4, g5⟩ := I3.pin p (List.mem_append_left _ wc.mem)
  have ns : p.1 ∉ frs X.stack := fun hm => by
    rcases List.mem_cons.mp (I3.stkSub _ hm) with z | z
    · exact g3 z
    · exact g4 z
  have nf : p.1 ∉ fp := fun hm => (f3 _ hm).1.2.2.2.2.2 p (List.mem_append_left _ wc.mem) rfl
  have warm : ∀ {pn1 : List Pin} {σ1 : St} {H1 : Hp} {s1 : Shared}, Inv (X.blk s3 H3 scope ce fp) pn1 σ1 H1 s1 → WarmH (X.blk s3 H3 scope ce fp).A s1.heap := by
    intro pn1 σ1 H1 s1 J
    exact wc.at (J.base.keep p.1 p.2 g1 g2 ns nf)
  have stat : ∀ {σ1 : St} {H1 : Hp} {s1 : Shared}, Inv (X.blk s3 H3 scope ce fp) [] σ1 H1 s1 → (∀ b ∈ fp, H1 b = none) →
      ∀ b ∈ fp, FpOk (X.blk s3 H3 scope ce fp) [] H1 b := by
    intro σ1 H1 s1 J hn b hb
    refine ⟨hn b hb, (J.ok.exf b hb).1, J.ok.exfs b hb, .inl hb, fun x c e => (J.ok.exf b hb).2 x c e, fun q hq => ?_⟩
    have z : q ∈ ([] : List Pin) ++ [] := hq
    simp at z
  refine codeAny_compStart_list ?loop (T.self X.A 0 _ _ _ st4 ?loop2)
  case loop2 => exact ?loop
  refine compLoop_any (fun n s1 => ∃ i H1, Inv (X.blk s3 H3 scope ce fp) [] (wipe σ (own.map (·.2))) H1 s1 ∧ tn i s1.heap ∧ (∀ b ∈ fp, H1 b = none) ∧ W i n H1)
    ?_ m0 ⟨0, H3, I4, st4, nofp, w0⟩
  rintro n s5 ⟨i, H5, I5, st5, n5, w5⟩
  rcases turn i n H5 w5 with ⟨stop, qq⟩ | ⟨go, Nx, hNx, step⟩
  · refine thnF (T.done (X.blk s3 H3 scope ce fp) rfl rfl rfl i [] s5 _ H5 (fun _ _ => False) (warm I5) I5 (stat I5 n5) st5 stop) fun r s6 ⟨hr, I6⟩ => ?_
    subst hr
    have I7 : Inv X pins σ H5 s6 := I3.call' (ch := fp) I6.os I6.base I6.hok I6.bare fun b hb =>
      ⟨(f3 b hb).1.2.2.2.1, (f3 b hb).1.2.1, (f3 b hb).1.2.2.2.2.1, (f3 b hb).1.2.2.2.2.2⟩
    have nC : H5 s3.heap.objs.size = none := by
      have z : H5 ce.locals = none := I6.free
      rwa [locC] at z
    obtain ⟨m, hn, _⟩ := I6.loc
    have hn1 : s6.heap.Ns ce.locals m := hn
    rw [locC] at hn1
    exact back D s3.heap.objs.size s6 m H5 I7 qq hn1 (I3.fpOk (Nat.le_refl _) nC)
  · refine thnF (T.item (X.blk s3 H3 scope ce fp) rfl rfl rfl i [] s5 _ H5 (fun _ _ => False) (warm I5) I5 (stat I5 n5) st5 go) fun r s6 ⟨u, hr, h6⟩ => ?_
    subst hr
    refine thnF h6 fun _ s7 ⟨x, H7, I7, r7, y7, st7, n7⟩ => ?_
    have P7 := I7.pinned (stat I7 n7) (T.obj _ _ st7)
    refine thnF (pg.run _ s7 _ H7 x u _ P7 r7 (step x H7 y7)) fun _ s8 ⟨σ8, H8, I8, hw8, q8⟩ => ?_
    refine thnF (pt.run _ s8 σ8 H8 _ I8 q8) fun b s9 ⟨H9, I9, q9⟩ => ?_
    have fin : ∀ {s1 : Shared} {H1 : Hp}, Inv (X.blk s3 H3 scope ce fp) ([] ++ pinsAt fp s7.heap) σ8 H1 s1 → Nx H1 → ∃ m, m < n ∧
        ∃ i H1, Inv (X.blk s3 H3 scope ce fp) [] (wipe σ (own.map (·.2))) H1 s1 ∧ tn i s1.heap ∧ (∀ b ∈ fp, H1 b = none) ∧ W i m H1 := by
      intro s1 H1 J nx
      obtain ⟨m1, hm, w1⟩ := hNx H1 nx
      have kept : ∀ b ∈ fp, ∀ o, s7.heap.get? b = some o → s1.heap.get? b = some o ∧ H1 b = none := by
        intro b hb o e
        have z := J.pin (b, o) (List.mem_append_right _ (List.mem_append_right _ (mem_pinsAt hb e)))
        exact ⟨z.1, z.2.1⟩
      have hl : (wipe σ (own.map (·.2))).length = σ8.length := by
        rw [← hw8, wipe_length]
      refine ⟨m1, hm, i + 1, H1, (J.unpinned (pins := [])).weak hl (fun j v e => ?_), ?_, fun b hb => ?_, w1⟩
      · rw [← hw8] at e
        exact (wipe_some e).1
      · exact T.keep _ _ _ st7 fun b hb o e => (kept b hb o e).1
      · obtain ⟨o, e, _⟩ := T.obj _ _ st7 b hb
        exact (kept b hb o e).2
    cases b with
    | false =>
      simp only [Bool.false_eq_true, if_false] at q9 ⊢
      exact fin I9 q9
    | true =>
      simp only [if_true] at q9 ⊢
      refine thnF (pe.run _ s9 σ8 H9 _ I9 q9) fun z s10 ⟨yv, H10, I10, r10, acc, hD10, hz10, nx⟩ => ?_
      exact app_ok (X := X.blk s3 H3 scope ce fp) I10 hD10 hz10 r10 fun s11 I11 => fin I11 nx
/-- as a value -/
theorem pe_lcW {elt tg iter : Expr} {ifs : List Expr} {scope : Scope} {own : List (Str × Nat)} {pos : Pos} {wi : TI} {g : TG} {tt : TT} {te : TE} (wc : WarmC X p)
    (hN : X.N.Nodup) (hi : PIW X tg iter wi) (ok : BlkOk X.N X.env.scope scope own)
    (hg : ∀ (s : Shared) (H : Hp) (C : Addr) (cl : List (Str × Addr)) (fp : List Addr), PG (X.blk s H scope (compEnvC scope cl C X.env) fp) tg g)
    (ht : ∀ (s : Shared) (H : Hp) (C : Addr) (cl : List (Str × Addr)) (fp : List Addr), PTs (X.blk s H scope (compEnvC scope cl C X.env) fp) ifs tt)
    (he : ∀ (s : Shared) (H : Hp) (C : Addr) (cl : List (Str × Addr)) (fp : List Addr), PE (X.blk s H scope (compEnvC scope cl C X.env) fp) elt te)
    (hs : ∀ x, foldedSetIterable iter X.env x = pure x := by intro _; rfl) :
    PE X (.ListComp elt [⟨tg, iter, ifs, 0⟩] scope pos) (tLc wi g tt te (own.map (·.2))) := by
  refine ⟨fun pins s σ H Q I h => ?_⟩
  rw [eval_ListComp]
  refine lcW_core wc hN I hi ok hg ht he hs h fun D C s1 m H1 J q hn f => ⟨m, hn, fun h2 sb => ?_⟩
  obtain ⟨f0, f1, f2, f3, f4, f5⟩ := f
  exact ⟨.ref D, H1, J.turned (t' := s1.toks) (fun b o hb e => (sb.2 b hb).trans e) f0 f1 f3 f4 f5, rfl, q⟩
end
end L2

/-! repr of what is made of None, bools, ints, texts, lists, tuples, dicts -/
namespace L2
open PySem PySem.Spec PyProof.Rows
mutual
/-- the value v is the data d, all of whose objects are tracked -/
inductive Rdd (H : Hp) : V → PyData → Prop
  | non : Rdd H .non .none
  | bl (b) : Rdd H (.bl b) (.bool b)
  | int (i) : Rdd H (.int i) (.int i)
  | str (x) : Rdd H (.str x) (.str x)
  | lst {a xs ds} : H a = some (.lst xs) → RddAll H xs ds → Rdd H (.ref a) (.list ds)
  | tup {a xs ds} : H a = some (.tup xs) → RddAll H xs ds → Rdd H (.ref a) (.tuple ds)
  | dK {a kvs ds} : H a = some (.dK kvs) → RddAll H (kvs.map fun p => kV p.1) (ds.map (·.1)) → RddAll H (kvs.map (·.2)) (ds.map (·.2)) → Rdd H (.ref a) (.dict ds)
inductive RddAll (H : Hp) : List V → List PyData → Prop
  | nil : RddAll H [] []
  | cons {v d vs ds} : Rdd H v d → RddAll H vs ds → RddAll H (v :: vs) (d :: ds)
end
mutual
theorem Rdd.mono {H H' : Hp} (k : ∀ b o, H b = some o → H' b = some o) : ∀ {v : V} {d : PyData}, Rdd H v d → Rdd H' v d
  | _, _, .non => .non
  | _, _, .bl b => .bl b
  | _, _, .int i => .int i
  | _, _, .str x => .str x
  | _, _, .lst h r => .lst (k _ _ h) (RddAll.mono k r)
  | _, _, .tup h r => .tup (k _ _ h) (RddAll.mono k r)
  | _, _, .dK h r q => .dK (k _ _ h) (RddAll.mono k r) (RddAll.mono k q)
theorem RddAll.mono {H H' : Hp} (k : ∀ b o, H b = some o → H' b = some o) : ∀ {vs : List V} {ds : List PyData}, RddAll H vs ds → RddAll H' vs ds
  | _, _, .nil => .nil
  | _, _, .cons r t => .cons (Rdd.mono k r) (RddAll.mono k t)
end
section
variable {P : Program} {w : World} {H : Hp} {h : Heap}
theorem kv_rel {k : Key} {u : Value} (e : keyIs k u = true) : RelV (kV k) u := by
  rcases keyIs_shape e with ⟨i, t, rfl, rfl⟩ | ⟨x, t, rfl, rfl⟩
  · exact ⟨t, rfl⟩
  · exact ⟨t, rfl⟩
theorem pairs_keys {es : List DictEntry} {vs : List (Key × Value)} (h : Pairs (mixKind P w) es vs) :
    Vals (vs.map fun p => kV p.1) (es.map (·.key)) ∧ es.map (·.val) = vs.map (·.2) := by
  induction h with
  | nil => exact ⟨.nil, rfl⟩
  | cons h1 h2 _ ih =>
    refine ⟨.cons (kv_rel h1) ih.1, ?_⟩
    rw [List.map_cons, List.map_cons, h2, ih.2]
theorem kv_keys : ∀ {kvs : List (Key × V)} {vs : List (Key × Value)}, KV kvs vs → (kvs.map fun p => kV p.1) = (vs.map fun p => kV p.1) ∧ Vals (kvs.map (·.2)) (vs.map (·.2))
  | _, _, .nil => ⟨rfl, .nil⟩
  | _, _, .cons r t => by
    obtain ⟨h1, h2⟩ := kv_keys t
    refine ⟨?_, .cons r.2 h2⟩
    rw [List.map_cons, List.map_cons, h1, r.1]
mutual
theorem Rdd.reads (ok : HOk P w H h) : ∀ {v : V} {d : PyData} {u : Value}, Rdd H v d → RelV v u → ∃ as, Reads h u d as ∧ ∀ a ∈ as, ∃ o, H a = some o
  | _, _, u, .non, r => by
    obtain rfl : u = Value.none := r
    exact ⟨[], .none, fun a z => nomatch z⟩
  | _, _, u, .bl b, r => by
    obtain rfl : u = Value.bool b := r
    exact ⟨[], .bool b, fun a z => nomatch z⟩
  | _, _, u, .int i, r => by
    obtain ⟨t, rfl⟩ : ∃ t, u = Value.int i t := r
    exact ⟨[], .int i t, fun a z => nomatch z⟩
  | _, _, u, .str x, r => by
    obtain ⟨t, rfl⟩ : ∃ t, u = Value.str x t := r
    exact ⟨[], .str x t, fun a z => nomatch z⟩
  | _, _, u, .lst (a := a) (xs := xs) e q, r => by
    obtain rfl : u = Value.ref a := r
    obtain ⟨_, its, n, rv, g⟩ := (show ObjOk P w H h a (.lst xs) from ok a _ e)
    obtain ⟨as, z, k⟩ := RddAll.reads ok q rv
    refine ⟨a :: as, .list g rfl rfl z, fun b hb => ?_⟩
    rcases List.mem_cons.mp hb with rfl | hb
    · exact ⟨_, e⟩
    · exact k b hb
  | _, _, u, .tup (a := a) (xs := xs) e q, r => by
    obtain rfl : u = Value.ref a := r
    obtain ⟨_, its, rv, o, g, c, n, hd⟩ := (show ObjOk P w H h a (.tup xs) from ok a _ e)
    obtain ⟨as, z, k⟩ := RddAll.reads ok q rv
    exact ⟨as, .tuple g c hd z, k⟩
  | _, _, u, .dK (a := a) (kvs := kvs) e q1 q2, r => by
    obtain rfl : u = Value.ref a := r
    obtain ⟨_, _, vs, rk, o, es, ep, g, ex, hd, _, pr, _⟩ := (show ObjOk P w H h a (.dK kvs) from ok a _ e)
    obtain ⟨k1, k2⟩ := pairs_keys pr
    obtain ⟨k3, k4⟩ := kv_keys rk
    rw [← k3] at k1
    obtain ⟨as, z1, t1⟩ := RddAll.reads ok q1 k1
    rw [← k2] at k4
    obtain ⟨bs, z2, t2⟩ := RddAll.reads ok q2 k4
    refine ⟨a :: as ++ bs, .dict g ex.1 hd z1 z2, fun b hb => ?_⟩
    rcases List.mem_append.mp hb with hb | hb
    · rcases List.mem_cons.mp hb with rfl | hb
      · exact ⟨_, e⟩
      · exact t1 b hb
    · exact t2 b hb
theorem RddAll.reads (ok : HOk P w H h) : ∀ {vs : List V} {ds : List PyData} {us : List Value}, RddAll H vs ds → Vals vs us →
    ∃ as, ReadsAll h us ds as ∧ ∀ a ∈ as, ∃ o, H a = some o
  | _, _, _, .nil, r => by
    cases r
    exact ⟨[], .nil, fun a z => nomatch z⟩
  | _, _, _, .cons q t, r => by
    cases r with
    | cons r1 r2 =>
      obtain ⟨as, z, k⟩ := Rdd.reads ok q r1
      obtain ⟨bs, z2, k2⟩ := RddAll.reads ok t r2
      refine ⟨as ++ bs, .cons z z2, fun b hb => ?_⟩
      rcases List.mem_append.mp hb with hb | hb
      · exact k b hb
      · exact k2 b hb
end
end
def rRepr : List V → Hp → VK → Prop := fun xs H Q => ∃ (v : V) (d : PyData), xs = [v] ∧ Rdd H v d ∧ d.showable = true ∧ d.depth ≤ 32 ∧
  d.shown.length ≤ sizeLine ∧ Q (.str d.shown) H
theorem call_repr {X : Cx} (hgd : X.A.guards = some []) (hu : X.A.units + 64 < cLine) (hsy : ∃ o, X.K.lookup sysModules = some o) :
    CallR X (.builtin "repr") rRepr := by
  intro pins s σ H xs us Q I r h
  obtain ⟨v, d, rfl, q, hs, hd, hz, hq⟩ := h
  obtain ⟨u, rfl, ru⟩ := vals1 r
  obtain ⟨o, ho⟩ := hsy
  have free : H sysModules = none := (I.bs _ _ (I.ok.mod.kin _ _ ho)).2
  have ref : ∀ a as, Reads s.heap (.ref a) d as → (∀ b ∈ as, ∃ o, H b = some o) → wpAny (model X.prog X.w) X.A (call (.builtin "repr") [.ref a]) (EP X pins σ Q) X.xe s := by
    intro a as z k
    refine repr_of_reads' z hs (fun _ hm => ?_) hgd (by omega) (fun _ _ e => e) (fun h1 u1 tk hk => ?_) hz
    · obtain ⟨o1, e1⟩ := k _ hm
      rw [free] at e1
      cases e1
    · exact ⟨.str d.shown, H, I.kept (t' := tk) hk, ⟨_, rfl⟩, hq⟩
  have val : ∀ tk, EP X pins σ Q (.str d.shown s.toks) { s with toks := tk } := fun tk => ⟨.str d.shown, H, I.tok _, ⟨_, rfl⟩, hq⟩
  obtain ⟨as, z, k⟩ := q.reads I.hok ru
  cases q with
  | non =>
    obtain rfl : u = Value.none := ru
    exact PySem.P.repr_of_none (val _)
  | bl b =>
    obtain rfl : u = Value.bool b := ru
    exact PySem.P.repr_of_bool (val _)
  | int i =>
    obtain ⟨t, rfl⟩ : ∃ t, u = Value.int i t := ru
    exact PySem.P.repr_of_int (of_decide_eq_true hs) (val _)
  | str x =>
    obtain ⟨t, rfl⟩ : ∃ t, u = Value.str x t := ru
    exact PySem.P.repr_of_str (val _) hz
  | lst e _ =>
    obtain rfl : u = _ := ru
    exact ref _ _ z k
  | tup e _ =>
    obtain rfl : u = _ := ru
    exact ref _ _ z k
  | dK e _ _ =>
    obtain rfl : u = _ := ru
    exact ref _ _ z k
end L2

namespace L2
open PySem PySem.Spec PyProof.Rows
theorem PE.mono {X : Cx} {e : Expr} {t t1 : TE} (h : PE X e t) (k : ∀ σ H Q, t1 σ H Q → t σ H Q) : PE X e t1 :=
  ⟨fun pins s σ H Q I q => h.run pins s σ H Q I (k σ H Q q)⟩
theorem PA.mono {X : Cx} {es : List Expr} {t t1 : TA} (h : PA X es t) (k : ∀ σ H Q, t1 σ H Q → t σ H Q) : PA X es t1 :=
  ⟨fun pos pins s σ H Q I q => h.run pos pins s σ H Q I (k σ H Q q)⟩
/-- exceptions, one a class, with the fields f alike v -/
inductive Evs (H : Hp) (v : V) : List V → List (Addr × Str) → Prop
  | nil : Evs H v [] []
  | cons {a C d : Addr} {f : Str} {xs : List V} {cs : List (Addr × Str)} : EvP [] H a C d [(f, v)] → Evs H v xs cs → Evs H v (.ref a :: xs) ((C, f) :: cs)
theorem Evs.mono {H H' : Hp} (k : Same H H') {v : V} {xs : List V} {cs : List (Addr × Str)} (e : Evs H v xs cs) : Evs H' v xs cs := by
  induction e with
  | nil => exact .nil
  | cons h _ ih => exact .cons (h.mono (fun _ z => z) k) ih
theorem Evs.append {H : Hp} {v : V} {xs ys : List V} {cs ds : List (Addr × Str)} (e : Evs H v xs cs) (g : Evs H v ys ds) : Evs H v (xs ++ ys) (cs ++ ds) := by
  induction e with
  | nil => exact g
  | cons h _ ih => exact .cons h ih
theorem Evs.length {H : Hp} {v : V} {xs : List V} {cs : List (Addr × Str)} (e : Evs H v xs cs) : xs.length = cs.length := by
  induction e with
  | nil => rfl
  | cons _ _ ih => rw [List.length_cons, List.length_cons, ih]
theorem Evs.get {H : Hp} {v : V} {xs : List V} {cs : List (Addr × Str)} (e : Evs H v xs cs) : ∀ {i : Nat} {C : Addr} {f : Str}, cs[i]? = some (C, f) →
    ∃ a d, xs[i]? = some (.ref a) ∧ EvP [] H a C d [(f, v)] := by
  induction e with
  | nil => intro i C f h; simp at h
  | cons h _ ih =>
    intro i C f hi
    cases i with
    | zero =>
      simp at hi
      obtain ⟨rfl, rfl⟩ := hi
      exact ⟨_, _, rfl, h⟩
    | succ i => exact ih (by simpa using hi)
/-- with two fields -/
inductive Evs2 (H : Hp) (v w : V) : List V → List (Addr × Str × Str) → Prop
  | nil : Evs2 H v w [] []
  | cons {a C d : Addr} {f g : Str} {xs : List V} {cs : List (Addr × Str × Str)} : EvP [] H a C d [(g, w), (f, v)] → Evs2 H v w xs cs → Evs2 H v w (.ref a :: xs) ((C, f, g) :: cs)
theorem Evs2.mono {H H' : Hp} (k : Same H H') {v w : V} {xs : List V} {cs : List (Addr × Str × Str)} (e : Evs2 H v w xs cs) : Evs2 H' v w xs cs := by
  induction e with
  | nil => exact .nil
  | cons h _ ih => exact .cons (h.mono (fun _ z => z) k) ih
theorem Evs2.append {H : Hp} {v w : V} {xs ys : List V} {cs ds : List (Addr × Str × Str)} (e : Evs2 H v w xs cs) (g : Evs2 H v w ys ds) : Evs2 H v w (xs ++ ys) (cs ++ ds) := by
  induction e with
  | nil => exact g
  | cons h _ ih => exact .cons h ih
theorem Evs2.length {H : Hp} {v w : V} {xs : List V} {cs : List (Addr × Str × Str)} (e : Evs2 H v w xs cs) : xs.length = cs.length := by
  induction e with
  | nil => rfl
  | cons _ _ ih => rw [List.length_cons, List.length_cons, ih]
theorem Evs2.get {H : Hp} {v w : V} {xs : List V} {cs : List (Addr × Str × Str)} (e : Evs2 H v w xs cs) : ∀ {i : Nat} {C : Addr} {f g : Str}, cs[i]? = some (C, f, g) →
    ∃ a d, xs[i]? = some (.ref a) ∧ EvP [] H a C d [(g, w), (f, v)] := by
  induction e with
  | nil => intro i C f g h; simp at h
  | cons h _ ih =>
    intro i C f g hi
    cases i with
    | zero =>
      simp at hi
      obtain ⟨rfl, rfl, rfl⟩ := hi
      exact ⟨_, _, rfl, h⟩
    | succ i => exact ih (by simpa using hi)
theorem withEv_same {H : Hp} {a C d : Addr} {fs : List (Str × V)} (ha : H a = none) (hd : H d = none) : Same H (withEv H a C d fs) := fun b o e => by
  unfold withEv
  rw [upd_ne (ne_of_none e ha), upd_ne (ne_of_none e hd)]
  exact e
theorem withEv_ev {H : Hp} {a C d : Addr} {fs : List (Str × V)} (h : d ≠ a) : EvP [] (withEv H a C d fs) a C d fs where
  at_ := .inl upd_same
  tab := .inl (by unfold withEv; rw [upd_ne h, upd_same])
theorem upd_withEv {H : Hp} {a C d : Addr} {o : HO} {fs : List (Str × V)} : withEv (upd H a o) a C d fs = withEv H a C d fs := by
  funext b
  unfold withEv
  by_cases h : b = a
  · rw [h, upd_same, upd_same]
  · rw [upd_ne h, upd_ne h]
    by_cases h2 : b = d
    · rw [h2, upd_same, upd_same]
    · rw [upd_ne h2, upd_ne h2, upd_ne h]
/-! ### the classes -/
structure One (P : Program) (w : World) (K : PySem.W.Frag) (mg : Str → Option Value) (base : Heap) (x f : Str) : Prop where
  mgx : mg x = some (.ref (He.ga K x))
  T : OexC K (He.ga K x)
  iC : PySem.W.findIn K (.ref (He.ga K x)) "__init__" = some (some (.ref (He.ma K (He.ga K x) "__init__")))
  tI : PySem.W.typeIn K (.ref (He.ma K (He.ga K x) "__init__")) = some (.type "function")
  ini : ∃ fd, FnOk P w K mg base CX0 1 (He.ma K (He.ga K x) "__init__") fd ["self", f] (spI1 (He.ga K x) f) ∧
    KBn K fd ["self", f] 2 [] (fun us _ => us) (fun vs _ => vs) ∧ KBn K fd ["self", f] 1 [f] (fun us ws => us ++ ws) (fun vs zs => vs ++ zs)
structure Two (P : Program) (w : World) (K : PySem.W.Frag) (mg : Str → Option Value) (base : Heap) (x f g : Str) : Prop where
  mgx : mg x = some (.ref (He.ga K x))
  T : OexC K (He.ga K x)
  iC : PySem.W.findIn K (.ref (He.ga K x)) "__init__" = some (some (.ref (He.ma K (He.ga K x) "__init__")))
  tI : PySem.W.typeIn K (.ref (He.ma K (He.ga K x) "__init__")) = some (.type "function")
  ini : ∃ fd, FnOk P w K mg base CX0 1 (He.ma K (He.ga K x) "__init__") fd ["self", f, g] (spI2 (He.ga K x) f g) ∧
    KBn K fd ["self", f, g] 3 [] (fun us _ => us) (fun vs _ => vs) ∧ KBn K fd ["self", f, g] 1 [f, g] (fun us ws => us ++ ws) (fun vs zs => vs ++ zs) ∧
    KBn K fd ["self", f, g] 1 [g, f] (fun us ws => us ++ ws.reverse) (fun vs zs => vs ++ zs.reverse) ∧
    KBn K fd ["self", f, g] 2 [g] (fun us ws => us ++ ws) (fun vs zs => vs ++ zs)
/-- X(v), v in slot i: the new exception -/
def tMk1 (i : Nat) (C : Addr) (f : Str) : TE := fun σ H Q => ∃ v, σ[i]? = some (some v) ∧ ∀ a d H', Same H H' → EvP [] H' a C d [(f, v)] → Q (.ref a) H'
def tMk2 (i j : Nat) (C : Addr) (f g : Str) : TE := fun σ H Q => ∃ v w, σ[i]? = some (some v) ∧ σ[j]? = some (some w) ∧ ∀ a d H', Same H H' → EvP [] H' a C d [(g, w), (f, v)] → Q (.ref a) H'
section
variable {X : Cx} {x f g : Str} {i j : Nat} {v u : Expr} {p pos kp kp2 : Pos}
theorem pe_e1 (O : One X.prog X.w X.K X.mg X.base x f) (hr : Room 2 X.A) (hv : PE X v (tVar i)) (hg : Gl X x) (hdb : (x == ("__debug__" : Str)) = false := by decide)
    (he : starEach [v] X.env = (false, eval v X.env) :: starEach [] X.env := by rfl) (hpl : (backTo pos (starEach [] X.env)).any (·.1) = false := by rfl) :
    PE X (.Call (.Name x p) [v] [] pos) (tMk1 i (He.ga X.K x) f) := by
  obtain ⟨fd, F, b1, b2⟩ := O.ini
  refine (pe_mkEv O.T O.iC O.tI F hr b1 pass0 (by decide) hg O.mgx (pa_cons hv pa_nil he) hdb he hpl).mono fun σ H Q h => ?_
  obtain ⟨y, hy, q⟩ := h
  refine ⟨y, hy, rfl, rfl, fun a ha => ⟨a, y, rfl, upd_same, fun dx n ne => ⟨rfl, ?_⟩⟩⟩
  rw [upd_withEv]
  exact q a dx _ (withEv_same ha (by rwa [upd_ne ne] at n)) (withEv_ev ne)
theorem pe_e1K (O : One X.prog X.w X.K X.mg X.base x f) (hr : Room 2 X.A) (hv : PE X v (tVar i)) (hg : Gl X x) (hdb : (x == ("__debug__" : Str)) = false := by decide)
    (hall : (backToKw pos (keywordEach [⟨some f, v, kp⟩] X.env)).all (·.1.isSome) = true := by rfl)
    (hks : (backToKw pos (keywordEach [⟨some f, v, kp⟩] X.env)).filterMap (·.1) = [f] := by rfl)
    (hpl : ((backTo pos (starEach [] X.env)).any (·.1) || (backToKw pos (keywordEach [⟨some f, v, kp⟩] X.env)).any (·.1.isNone)) = false := by rfl) :
    PE X (.Call (.Name x p) [] [⟨some f, v, kp⟩] pos) (tMk1 i (He.ga X.K x) f) := by
  obtain ⟨fd, F, b1, b2⟩ := O.ini
  refine (pe_mkEvK O.T O.iC O.tI F hr b2 pass0 hg O.mgx (pk_cons hv pk_nil) hall hks hdb hpl).mono fun σ H Q h => ?_
  obtain ⟨y, hy, q⟩ := h
  refine ⟨y, hy, rfl, rfl, fun a ha => ⟨a, y, rfl, upd_same, fun dx n ne => ⟨rfl, ?_⟩⟩⟩
  rw [upd_withEv]
  exact q a dx _ (withEv_same ha (by rwa [upd_ne ne] at n)) (withEv_ev ne)
theorem pe_e2 (O : Two X.prog X.w X.K X.mg X.base x f g) (hr : Room 2 X.A) (hv : PE X v (tVar i)) (hu : PE X u (tVar j)) (hg : Gl X x) (hdb : (x == ("__debug__" : Str)) = false := by decide)
    (he : starEach [v, u] X.env = (false, eval v X.env) :: starEach [u] X.env := by rfl) (he2 : starEach [u] X.env = (false, eval u X.env) :: starEach [] X.env := by rfl)
    (hpl : (backTo pos (starEach [u] X.env)).any (·.1) = false := by rfl) : PE X (.Call (.Name x p) [v, u] [] pos) (tMk2 i j (He.ga X.K x) f g) := by
  obtain ⟨fd, F, b1, b2, b3, b4⟩ := O.ini
  refine (pe_mkEv O.T O.iC O.tI F hr b1 pass0 (by decide) hg O.mgx (pa_cons hv (pa_cons hu pa_nil he2) he) hdb he hpl).mono fun σ H Q h => ?_
  obtain ⟨y, z, hy, hz, q⟩ := h
  refine ⟨y, hy, z, hz, rfl, rfl, fun a ha => ⟨a, y, z, rfl, upd_same, fun dx n ne => ⟨rfl, ?_⟩⟩⟩
  rw [upd_withEv]
  exact q a dx _ (withEv_same ha (by rwa [upd_ne ne] at n)) (withEv_ev ne)
theorem pe_e2K (O : Two X.prog X.w X.K X.mg X.base x f g) (hr : Room 2 X.A) (hv : PE X v (tVar i)) (hu : PE X u (tVar j)) (hg : Gl X x) (hdb : (x == ("__debug__" : Str)) = false := by decide)
    (hall : (backToKw pos (keywordEach [⟨some f, v, kp⟩, ⟨some g, u, kp2⟩] X.env)).all (·.1.isSome) = true := by rfl)
    (hks : (backToKw pos (keywordEach [⟨some f, v, kp⟩, ⟨some g, u, kp2⟩] X.env)).filterMap (·.1) = [f, g] := by rfl)
    (hpl : ((backTo pos (starEach [] X.env)).any (·.1) || (backToKw pos (keywordEach [⟨some f, v, kp⟩, ⟨some g, u, kp2⟩] X.env)).any (·.1.isNone)) = false := by rfl) :
    PE X (.Call (.Name x p) [] [⟨some f, v, kp⟩, ⟨some g, u, kp2⟩] pos) (tMk2 i j (He.ga X.K x) f g) := by
  obtain ⟨fd, F, b1, b2, b3, b4⟩ := O.ini
  refine (pe_mkEvK O.T O.iC O.tI F hr b2 pass0 hg O.mgx (pk_cons hv (pk_cons hu pk_nil)) hall hks hdb hpl).mono fun σ H Q h => ?_
  obtain ⟨y, z, hy, hz, q⟩ := h
  refine ⟨y, hy, z, hz, rfl, rfl, fun a ha => ⟨a, y, z, rfl, upd_same, fun dx n ne => ⟨rfl, ?_⟩⟩⟩
  rw [upd_withEv]
  exact q a dx _ (withEv_same ha (by rwa [upd_ne ne] at n)) (withEv_ev ne)
theorem pe_e2R (O : Two X.prog X.w X.K X.mg X.base x f g) (hr : Room 2 X.A) (hv : PE X v (tVar i)) (hu : PE X u (tVar j)) (hg : Gl X x) (hdb : (x == ("__debug__" : Str)) = false := by decide)
    (hall : (backToKw pos (keywordEach [⟨some g, u, kp⟩, ⟨some f, v, kp2⟩] X.env)).all (·.1.isSome) = true := by rfl)
    (hks : (backToKw pos (keywordEach [⟨some g, u, kp⟩, ⟨some f, v, kp2⟩] X.env)).filterMap (·.1) = [g, f] := by rfl)
    (hpl : ((backTo pos (starEach [] X.env)).any (·.1) || (backToKw pos (keywordEach [⟨some g, u, kp⟩, ⟨some f, v, kp2⟩] X.env)).any (·.1.isNone)) = false := by rfl) :
    PE X (.Call (.Name x p) [] [⟨some g, u, kp⟩, ⟨some f, v, kp2⟩] pos) (tMk2 i j (He.ga X.K x) f g) := by
  obtain ⟨fd, F, b1, b2, b3, b4⟩ := O.ini
  refine (pe_mkEvK O.T O.iC O.tI F hr b3 pass0 hg O.mgx (pk_cons hu (pk_cons hv pk_nil)) hall hks hdb hpl).mono fun σ H Q h => ?_
  obtain ⟨y, z, hy, hz, q⟩ := h
  refine ⟨z, hz, y, hy, rfl, rfl, fun a ha => ⟨a, y, z, rfl, upd_same, fun dx n ne => ⟨rfl, ?_⟩⟩⟩
  rw [upd_withEv]
  exact q a dx _ (withEv_same ha (by rwa [upd_ne ne] at n)) (withEv_ev ne)
theorem pe_e2M (O : Two X.prog X.w X.K X.mg X.base x f g) (hr : Room 2 X.A) (hv : PE X v (tVar i)) (hu : PE X u (tVar j)) (hg : Gl X x) (hdb : (x == ("__debug__" : Str)) = false := by decide)
    (he : starEach [v] X.env = (false, eval v X.env) :: starEach [] X.env := by rfl) (hall : (backToKw pos (keywordEach [⟨some g, u, kp⟩] X.env)).all (·.1.isSome) = true := by rfl)
    (hks : (backToKw pos (keywordEach [⟨some g, u, kp⟩] X.env)).filterMap (·.1) = [g] := by rfl)
    (hpl : ((backTo pos (starEach [v] X.env)).any (·.1) || (backToKw pos (keywordEach [⟨some g, u, kp⟩] X.env)).any (·.1.isNone)) = false := by rfl) :
    PE X (.Call (.Name x p) [v] [⟨some g, u, kp⟩] pos) (tMk2 i j (He.ga X.K x) f g) := by
  obtain ⟨fd, F, b1, b2, b3, b4⟩ := O.ini
  refine (pe_mkEvM O.T O.iC O.tI F hr b4 pass0 (by decide) hg O.mgx (pa_cons hv pa_nil he) (pk_cons hu pk_nil) hall hks hdb he hpl).mono fun σ H Q h => ?_
  obtain ⟨y, z, hy, hz, q⟩ := h
  refine ⟨y, hy, z, hz, rfl, rfl, fun a ha => ⟨a, y, z, rfl, upd_same, fun dx n ne => ⟨rfl, ?_⟩⟩⟩
  rw [upd_withEv]
  exact q a dx _ (withEv_same ha (by rwa [upd_ne ne] at n)) (withEv_ev ne)
end
/-- rows of such calls -/
def tMks (i : Nat) (cs : List (Addr × Str)) : TA := fun σ H Q => ∃ v, σ[i]? = some (some v) ∧ ∀ xs H', Same H H' → Evs H' v xs cs → Q xs H'
def tMks2 (i j : Nat) (cs : List (Addr × Str × Str)) : TA := fun σ H Q => ∃ v w, σ[i]? = some (some v) ∧ σ[j]? = some (some w) ∧ ∀ xs H', Same H H' → Evs2 H' v w xs cs → Q xs H'
section
variable {X : Cx} {i j : Nat} {e : Expr} {es : List Expr} {C : Addr} {f g : Str} {cs : List (Addr × Str)} {ds : List (Addr × Str × Str)}
theorem pa_m0 : PA X [] (tMks i []) := pa_nil.mono fun σ H Q ⟨v, hv, q⟩ => q [] H (Same.refl H) .nil
theorem pa_m1 (he : PE X e (tMk1 i C f)) (h : PA X es (tMks i cs)) (hs : starEach (e :: es) X.env = (false, eval e X.env) :: starEach es X.env := by rfl) : PA X (e :: es) (tMks i ((C, f) :: cs)) := by
  refine (pa_cons he h hs).mono fun σ H Q ⟨v, hv, q⟩ => ?_
  exact ⟨v, hv, fun a d H1 k1 e1 => ⟨v, hv, fun xs H2 k2 e2 => q _ H2 (k1.trans k2) (.cons (e1.mono (fun _ z => z) k2) e2)⟩⟩
theorem pa_n0 : PA X [] (tMks2 i j []) := pa_nil.mono fun σ H Q ⟨v, w, hv, hw, q⟩ => q [] H (Same.refl H) .nil
theorem pa_n1 (he : PE X e (tMk2 i j C f g)) (h : PA X es (tMks2 i j ds)) (hs : starEach (e :: es) X.env = (false, eval e X.env) :: starEach es X.env := by rfl) : PA X (e :: es) (tMks2 i j ((C, f, g) :: ds)) := by
  refine (pa_cons he h hs).mono fun σ H Q ⟨v, w, hv, hw, q⟩ => ?_
  exact ⟨v, w, hv, hw, fun a d H1 k1 e1 => ⟨v, w, hv, hw, fun xs H2 k2 e2 => q _ H2 (k1.trans k2) (.cons (e1.mono (fun _ z => z) k2) e2)⟩⟩
end
end L2

/-! calls by keywords alone, C(..) whose __init__ may raise, several clauses with names -/
namespace L2
open PySem PySem.Spec PyProof.Rows
/-- C(..), what is raised is wished for at the slots -/
def tMakeS (C : Addr) (n m : Nat) (sp : Sp) (gV : List V → List V → List V) (E : St → XK) (t tk : TA) : TE := fun σ H Q => t σ H fun vs H1 => tk σ H1 fun zs H2 => vs.length = n ∧ zs.length = m ∧
  ∀ x dx, H2 x = none → H2 dx = none → dx ≠ x → sp (gV (.ref x :: vs) zs) (upd (upd H2 dx (.own x)) x (.ins C dx [])) (fun v H3 => v = .non ∧ Q (.ref x) H3) (E σ)
/-- f(..) by values and keywords -/
def tCallKS (n m : Nat) (sp : Sp) (gV : List V → List V → List V) (E : St → XK) (t tk : TA) : TE := fun σ H Q => t σ H fun vs H1 => tk σ H1 fun zs H2 => vs.length = n ∧ zs.length = m ∧ sp (gV vs zs) H2 Q (E σ)
section
variable {X : Cx} {CX : CXT} {k n : Nat} {f C : Addr} {fd : FuncData} {ps ks : List Str} {sp : Sp} {E : St → XK} {x : Str} {p pos : Pos} {e : Expr} {es : List Expr} {kws : List Keyword} {t tk : TA} {g : List Value → List Value → List Value} {gV : List V → List V → List V}
theorem run_makeS {pins : List (Addr × Obj)} {σ : St} {H : Hp} {s : Shared} {Q : VK} {E : XK} {us ws : List Value} {vs zs : List V} (M : Mk X.K C f) (F : FnOk X.prog X.w X.K X.mg X.base CX k f fd ps sp) (hr : Room (k + 1) X.A) (hb : KBn X.K fd ps (n + 1) ks g gV)
    (hx : PassesAt CX X σ E) (I : Inv X pins σ H s) (r : Vals vs us) (rz : Vals zs ws) (l1 : vs.length = n) (l2 : zs.length = ks.length)
    (h : ∀ x dx, H x = none → H dx = none → dx ≠ x → sp (gV (.ref x :: vs) zs) (upd (upd H dx (.own x)) x (.ins C dx [])) (fun v H2 => v = .non ∧ Q (.ref x) H2) E) :
    wpAny (model X.prog X.w) X.A (call (.ref C) us (ks.zip ws)) (EP X pins σ Q) X.xe s := by
  have hq := h (s.heap.objs.size + 1) s.heap.objs.size (I.hok.fresh (Nat.le_succ _)) (I.hok.fresh (Nat.le_refl _)) (Nat.ne_of_lt (Nat.lt_succ_self _))
  have I2 := Inv.made (C := C) I
  have r1 : Vals (V.ref (s.heap.objs.size + 1) :: vs) (Value.ref (s.heap.objs.size + 1) :: us) := .cons rfl r
  have r2 := hb.rel r1 rz
  have e1 : (Value.ref (s.heap.objs.size + 1) :: us).length = n + 1 := r1.length.symm.trans (congrArg Nat.succ l1)
  have e2 : ws.length = ks.length := rz.length.symm.trans l2
  refine wpAny_call (make_map (f := f) I.kIn M.makes M.init (beq_iff_eq.mp M.fn) (codeAny_mono (F.run _ X.stack _ _ ⟨Value.ref (s.heap.objs.size + 1) :: us, ks.zip ws⟩ (g (Value.ref (s.heap.objs.size + 1) :: us) ws) _ _ E (hr.make C us (ks.zip ws))
    (I2.env0.make C us (ks.zip ws)) (hb.to _ (Value.ref (s.heap.objs.size + 1) :: us) ws I2.kIn e1 e2) r2 hq) fun r s' hq' => ?_))
  cases r with
  | error e => exact hx pins _ _ e s' I2 hq'
  | ok fl =>
    cases fl with
    | ret u =>
      obtain ⟨v, H', I3, rv, ev, q3⟩ := I2.after hq'
      subst ev
      exact ⟨rv, ⟨V.ref (s.heap.objs.size + 1), H', I3, rfl, q3⟩⟩
    | next => exact False.elim hq'
    | brk => exact False.elim hq'
    | cont => exact False.elim hq'
theorem pe_makeS (M : Mk X.K C f) (F : FnOk X.prog X.w X.K X.mg X.base CX k f fd ps sp) (hr : Room (k + 1) X.A) (hg : Gl X x) (hm : X.mg x = some (.ref C)) (hb : KBn X.K fd ps (n + 1) [] g gV) (hx : ∀ σ, PassesAt CX X σ (E σ))
    (ha : PA X (e :: es) t) (hdb : (x == ("__debug__" : Str)) = false := by decide) (he : starEach (e :: es) X.env = (false, eval e X.env) :: starEach es X.env := by rfl) (hpl : (backTo pos (starEach es X.env)).any (·.1) = false := by rfl) :
    PE X (.Call (.Name x p) (e :: es) [] pos) (tMakeS C n 0 sp gV E t tNil) := by
  refine ⟨fun pins s σ H Q I h => ?_⟩
  refine wpAny_Call_Name_kw (ld_glob I hg hm ?_ hdb)
  refine PySem.W.callWith_K (h₀ := X.base) I.ok.mod.kin M.kp (thn (ha.run pos pins s σ H _ I h) fun us s1 ⟨vs, H1, I1, r, l1, l2, q⟩ => ⟨I1.kIn, ?_⟩) he hpl
  exact run_makeS (ks := []) (ws := []) (zs := []) M F hr hb (hx σ) I1 r .nil l1 rfl q
theorem pe_makeSK (M : Mk X.K C f) (F : FnOk X.prog X.w X.K X.mg X.base CX k f fd ps sp) (hr : Room (k + 1) X.A) (hg : Gl X x) (hm : X.mg x = some (.ref C)) (hb : KBn X.K fd ps 1 ks g gV) (hx : ∀ σ, PassesAt CX X σ (E σ)) (hkw : PK X kws tk)
    (hall : (backToKw pos (keywordEach kws X.env)).all (·.1.isSome) = true := by rfl) (hks : (backToKw pos (keywordEach kws X.env)).filterMap (·.1) = ks := by rfl) (hdb : (x == ("__debug__" : Str)) = false := by decide)
    (hpl : ((backTo pos (starEach [] X.env)).any (·.1) || (backToKw pos (keywordEach kws X.env)).any (·.1.isNone)) = false := by rfl) :
    PE X (.Call (.Name x p) [] kws pos) (tMakeS C 0 ks.length sp gV E tNil tk) := by
  refine ⟨fun pins s σ H Q I h => ?_⟩
  refine wpAny_Call_Name_kw (ld_glob I hg hm ?_ hdb)
  refine PySem.W.callWith_KW0 (h₀ := X.base) I.ok.mod.kin M.kp hall ?_ hpl
  refine thn (hkw.run pos pins s σ H _ I h) fun ws s2 ⟨zs, H2, I2, rz, l1, l2, q2⟩ => ⟨I2.kIn, ?_⟩
  rw [hks]
  exact run_makeS (us := []) (vs := []) M F hr hb (hx σ) I2 .nil rz rfl l2 q2
theorem run_fnKS {pins : List (Addr × Obj)} {σ : St} {H : Hp} {s : Shared} {Q : VK} {E : XK} {us ws : List Value} {vs zs : List V} (F : FnOk X.prog X.w X.K X.mg X.base CX k f fd ps sp) (hr : Room k X.A) (hb : KBn X.K fd ps n ks g gV)
    (hx : PassesAt CX X σ E) (I : Inv X pins σ H s) (r : Vals vs us) (rz : Vals zs ws) (l1 : vs.length = n) (l2 : zs.length = ks.length) (h : sp (gV vs zs) H Q E) :
    wpAny (model X.prog X.w) X.A (call (.ref f) us (ks.zip ws)) (EP X pins σ Q) X.xe s := by
  have r2 := hb.rel r rz
  have e1 : us.length = n := r.length.symm.trans l1
  have e2 : ws.length = ks.length := rz.length.symm.trans l2
  refine wpAny_call (codeAny_mono (F.run X.A X.stack s H ⟨us, ks.zip ws⟩ (g us ws) (gV vs zs) Q E hr I.env0 (hb.to s us ws I.kIn e1 e2) r2 h) fun r s2 h2 => ?_)
  cases r with
  | error er => exact hx pins H s er s2 I h2
  | ok fl =>
    cases fl with
    | ret u => exact I.after h2
    | next => exact h2.elim
    | brk => exact h2.elim
    | cont => exact h2.elim
/-- f(k = v, ..) -/
theorem pe_callKS0 (F : FnOk X.prog X.w X.K X.mg X.base CX k f fd ps sp) (hr : Room k X.A) (hg : Gl X x) (hm : X.mg x = some (.ref f)) (hk : PySem.W.keepIn X.K (.ref f) = true) (hb : KBn X.K fd ps 0 ks g gV) (hx : ∀ σ, PassesAt CX X σ (E σ)) (hkw : PK X kws tk)
    (hall : (backToKw pos (keywordEach kws X.env)).all (·.1.isSome) = true := by rfl) (hks : (backToKw pos (keywordEach kws X.env)).filterMap (·.1) = ks := by rfl) (hdb : (x == ("__debug__" : Str)) = false := by decide)
    (hpl : ((backTo pos (starEach [] X.env)).any (·.1) || (backToKw pos (keywordEach kws X.env)).any (·.1.isNone)) = false := by rfl) :
    PE X (.Call (.Name x p) [] kws pos) (tCallKS 0 ks.length sp gV E tNil tk) := by
  refine ⟨fun pins s σ H Q I h => ?_⟩
  refine wpAny_Call_Name_kw (ld_glob I hg hm ?_ hdb)
  refine PySem.W.callWith_KW0 (h₀ := X.base) I.ok.mod.kin hk hall ?_ hpl
  refine thn (hkw.run pos pins s σ H _ I h) fun ws s2 ⟨zs, H2, I2, rz, l1, l2, q2⟩ => ⟨I2.kIn, ?_⟩
  rw [hks]
  exact run_fnKS (us := []) (vs := []) F hr hb (hx σ) I2 .nil rz l1 l2 q2
/-- f(e, .., k = v, ..) -/
theorem pe_callKS (F : FnOk X.prog X.w X.K X.mg X.base CX k f fd ps sp) (hr : Room k X.A) (hg : Gl X x) (hm : X.mg x = some (.ref f)) (hk : PySem.W.keepIn X.K (.ref f) = true) (hb : KBn X.K fd ps n ks g gV) (hx : ∀ σ, PassesAt CX X σ (E σ)) (ha : PA X (e :: es) t) (hkw : PK X kws tk)
    (hall : (backToKw pos (keywordEach kws X.env)).all (·.1.isSome) = true := by rfl) (hks : (backToKw pos (keywordEach kws X.env)).filterMap (·.1) = ks := by rfl) (hdb : (x == ("__debug__" : Str)) = false := by decide)
    (he : starEach (e :: es) X.env = (false, eval e X.env) :: starEach es X.env := by rfl) (hpl : ((backTo pos (starEach (e :: es) X.env)).any (·.1) || (backToKw pos (keywordEach kws X.env)).any (·.1.isNone)) = false := by rfl) :
    PE X (.Call (.Name x p) (e :: es) kws pos) (tCallKS n ks.length sp gV E t tk) := by
  refine ⟨fun pins s σ H Q I h => ?_⟩
  refine wpAny_Call_Name_kw (ld_glob I hg hm ?_ hdb)
  refine PySem.W.callWith_KW (h₀ := X.base) I.ok.mod.kin hk hall (thn (ha.run pos pins s σ H _ I h) fun us s1 ⟨vs, H1, I1, r, q⟩ => ?_) hpl he
  refine thn (hkw.run pos pins s1 σ H1 _ I1 q) fun ws s2 ⟨zs, H2, I2, rz, l1, l2, q2⟩ => ⟨I2.kIn, ?_⟩
  rw [hks]
  exact run_fnKS F hr hb (hx σ) I2 r rz l1 l2 q2
end
end L2
namespace L2N
open PySem PySem.Spec PyProof.Rows L2
/-- what the clauses wish, each with its name's slot -/
def wManyAs (K : PySem.W.Frag) (Wout : WX) (D : Ends) : List (Value × Nat × (Addr → Value → Option Addr → TS)) → WX
  | [] => Wout
  | (c, i, ts) :: r => wAs K c i ts (wManyAs K Wout D r) D
inductive HdsAs (X : Cx) : List ExceptHandler → List (Value × Nat × (Addr → Value → Option Addr → TS)) → Prop
  | nil : HdsAs X [] []
  | cons {x n : Str} {c : Value} {i : Nat} {ts : Addr → Value → Option Addr → TS} {b₀ : Stmt} {suite : List Stmt} {np pos' : Pos} {hds : List ExceptHandler} {l : List (Value × Nat × (Addr → Value → Option Addr → TS))} (hc : Names X x c)
      (hi : X.N[i]? = some n) (hln : X.env.kindOf n = some .local)
      (hsu : ∀ (a : Addr) (oe : Obj) (cls : Value) (d : Option Addr) (pn : List (Addr × Obj)), Zn cls d oe → (∃ vs, oe.data = .fields vs) → PSs (X.suite a ((a, oe) :: pn)) (b₀ :: suite) (ts a cls d)) (r : HdsAs X hds l) :
      HdsAs X (.ExceptHandler (some (.Name x np)) (some n) (b₀ :: suite) pos' :: hds) ((c, i, ts) :: l)
section
variable {X : Cx} {body : List Stmt} {h₀ : ExceptHandler} {hds : List ExceptHandler} {l : List (Value × Nat × (Addr → Value → Option Addr → TS))} {pos : Pos} {tb : WX → TS} {Wout : WX}
theorem ps_try_manyAs (hs : X.stack = X.env :: X.outer) (hf : X.env.frame = some X.env.locals) (hN : X.N.Nodup) (tk : Takes X Wout)
    (hb : ∀ (W : WX) (pn : List (Addr × Obj)) (xe : Value → Shared → Prop), Takes (X.tr pn xe) W → PassesOwn (model X.prog X.w) X.A X.env xe → PSs (X.tr pn xe) body (tb W))
    (hh : HdsAs X (h₀ :: hds) l) : PS X (.Try body (h₀ :: hds) [] [] pos) (fun D σ H => tb (wManyAs X.K Wout D l) D σ H) := by
  refine ⟨fun pins s σ H D I h => ?_⟩
  have ok := I.ok
  have hfr : X.A.frames = some (X.env :: X.outer) := by rw [ok.frames, hs]
  refine wpAny_Try_except ?_
  refine wpAny_mono ((hb (wManyAs X.K Wout D l) (X.pn ++ pins) (fun e s₁ => wpAny (model X.prog X.w) X.A (noteFrame e X.env) (fun _ s₂ => wpAny (model X.prog X.w) X.A (setFlight e none) (fun _ s₃ =>
    wpAny (model X.prog X.w) X.A (handleBy e X.env (h₀ :: hds)) (SP X pins D) X.xe s₃) X.xe s₂) X.xe s₁) (fun u s' xx => ?_) PassesOwn.looking).run [] s σ H D (I.toTry _) h) (fun f s1 hsp => ?_) (fun e s1 he => he)
  · -- the catch
    obtain ⟨a, B, sI, pins', σ', H', cls, d, rfl, J', nb, up, sky, na, os, ag, w⟩ := xx
    have J : Inv X pins σ' H' sI := J'.ofTry ok
    have sky' : Sky B (X.env :: X.outer) a (Zn cls d) X.env.locals s'.heap := by rw [← hs]; exact sky
    show wpAny (model X.prog X.w) X.A (noteFrame (.ref a) X.env) _ _ _
    refine Sky.land Zn.steady hfr hf sky' fun h3 fl3 up3 => ?_
    have J3 : Inv X pins σ' H' { s' with heap := h3 } := J.landed nb fl3.1 (up.trans up3) os ag
    obtain ⟨oe3, vs3, he3, hz3, hd3⟩ := fl3.there
    have notFr : ∀ {h : Heap} {o : Obj} {vs : Array Value}, h.FunFrames B (X.env :: X.outer) → h.get? a = some o → o.data = .fields vs → a ∉ frs (X.env :: X.outer) := fun {h o vs} ff e dd hm => by
      obtain ⟨_, o', e', hnf⟩ := ff.mem hm
      rw [e] at e'; cases e'
      exact hnf _ dd
    have nfr := notFr fl3.2.2.1 he3 hd3
    have nL : a ≠ X.env.locals := fun z => nfr (List.mem_filterMap.mpr ⟨X.env, List.mem_cons_self, by rw [hf, z]⟩)
    have nF : a ∉ X.fs := fun hm => by
      obtain ⟨e, he, q⟩ := List.mem_filterMap.mp hm
      exact nfr (List.mem_filterMap.mpr ⟨e, List.mem_cons_of_mem _ he, q⟩)
    have S3 := J3.suite he3 hd3 na nL nF
    have go : ∀ {hds' : List ExceptHandler} {l' : List (Value × Nat × (Addr → Value → Option Addr → TS))}, HdsAs X hds' l' → wManyAs X.K Wout D l' cls d σ' H' →
        wpAny (model X.prog X.w) X.A (handleBy (.ref a) X.env hds') (SP X pins D) X.xe { s' with heap := h3 } := by
      intro hds' l' hk
      induction hk with
      | nil =>
        intro w
        refine wpAny_handleBy_nil ?_
        obtain ⟨k1, k2, k3, oe, vs, T, oT, ts', he, hz, hd, h1, hr⟩ := id fl3
        unfold PySem.passOn
        refine wpAny_bind (wpAny_field he hd h1 ?_)
        rw [if_neg (show ¬ ((Value.ref T == Value.none) = true) from by simp)]
        have fin : wpAny (model X.prog X.w) X.A (setFlight (.ref a) X.env.frame) (fun _ s4 => wpAny (model X.prog X.w) X.A (throw (.ref a) : Sem Flow) (SP X pins D) X.xe s4) X.xe { s' with heap := h3 } := by
          rw [hf]
          refine HandSPX.setFlight_upZ fl3 fun h4 hh4 up4 => wpAny_throw (tk _ _ ?_)
          exact ⟨a, B, sI, pins, σ', H', cls, d, rfl, J, nb, (up.trans up3).trans up4, .inr (.inr (by rw [hs]; exact hh4)), na, os, ag, w⟩
        first
          | exact wpAny_bind (wpAny_pure (wpAny_bind fin))
          | exact wpAny_bind fin
      | @cons x n c i ts b₀ suite np pos' hds2 l2 hc hi hln hsu r ih =>
        intro w
        obtain ⟨b, hb1, hyes, hno⟩ := w
        have hloc : Loc X.env.scope n := .inl hln
        refine wpAny_handleBy_cons (codeAny_handlers_test ?_) (by intro q; cases q)
        have LT : PySem.W.Looks (model X.prog X.w) h3 (typeOf (.ref a)) cls := fun A Q E s k q => wpAny_typeOf_ref (k _ _ he3) (by rw [hz3.1]; exact q)
        have LM := PySem.W.exm_one (M := model X.prog X.w) (J3.kIn) LT hb1
        have test : ∀ {Q : Value → Shared → Prop} {E : Value → Shared → Prop}, Q c { s' with heap := h3 } → wpAny (model X.prog X.w) (X.A.mark (some (.ref a))) (eval (.Name x np) X.env) Q E { s' with heap := h3 } := fun {Q E} q => by
          obtain ⟨hg, hdbg, hm | ⟨hm, hv, hnn⟩⟩ := hc
          · exact ld_glob (X := X.suite a ((a, oe3) :: (X.pn ++ pins))) S3 hg hm q hdbg
          · exact ld_blt (X := X.suite a ((a, oe3) :: (X.pn ++ pins))) S3 hg hm hv q hnn hdbg
        refine test (LM.here ?_)
        cases b with
        | true =>
          refine codeAny_handlers_suite_as ?_
          refine HandSPX.lands_againZ fl3 fun h4 fl4 up4 => ?_
          have J4 : Inv X pins σ' H' { s' with heap := h4 } := J.landed nb fl4.1 ((up.trans up3).trans up4) os ag
          obtain ⟨oe4, vs4, he4, hz4, hd4⟩ := fl4.there
          have S4 := J4.suite he4 hd4 na nL nF
          refine store_ok (X := X.suite a ((a, oe4) :: (X.pn ++ pins))) (v := .ref a) S4 hN hi hloc rfl (fun s5 S5 => ?_) (.inr hln)
          refine wpAny_mono ((hsu a oe4 cls d (X.pn ++ pins) hz4 ⟨_, hd4⟩).run [] s5 _ H' _ S5 (hyes rfl a na)) (fun f s6 hsp => ?_) (fun _ _ z => False.elim z)
          have end_ : ∀ {σ6 : St} {H6 : Hp} {Q : Shared → Prop}, Inv (X.suite a ((a, oe4) :: (X.pn ++ pins))) [] σ6 H6 s6 → (∀ s7, Inv X pins (σ6.set i none) H6 s7 → Q s7) →
              wpAny (model X.prog X.w) X.A (do bindName X.env n .none; unbindBehindTheSuite X.env n pos') (fun _ s7 => Q s7) X.xe s6 := fun {σ6 H6 Q} S6 hq => gone_ok (S6.unsuite ok) hN hi hln hq
          cases f with
          | next =>
            obtain ⟨σ6, H6, S6, q6⟩ := hsp
            exact end_ S6 fun s7 J7 => ⟨_, _, J7, q6⟩
          | brk =>
            obtain ⟨σ6, H6, S6, q6⟩ := hsp
            exact end_ S6 fun s7 J7 => ⟨_, _, J7, q6⟩
          | cont =>
            obtain ⟨σ6, H6, S6, q6⟩ := hsp
            exact end_ S6 fun s7 J7 => ⟨_, _, J7, q6⟩
          | ret u =>
            obtain ⟨v6, σ6, H6, S6, r6, q6⟩ := hsp
            exact end_ S6 fun s7 J7 => ⟨_, _, _, J7, r6, q6⟩
        | false =>
          show wpAny _ X.A (handleBy (.ref a) X.env hds2) _ _ _
          exact ih (hno rfl)
    exact go hh w
  · cases f with
    | next =>
      obtain ⟨σ', H', J', q⟩ := hsp
      exact wpAny_execs_nil ⟨σ', H', J'.ofTry ok, q⟩
    | brk =>
      obtain ⟨σ', H', J', q⟩ := hsp
      exact ⟨σ', H', J'.ofTry ok, q⟩
    | cont =>
      obtain ⟨σ', H', J', q⟩ := hsp
      exact ⟨σ', H', J'.ofTry ok, q⟩
    | ret u =>
      obtain ⟨v, σ', H', J', r, q⟩ := hsp
      exact ⟨v, σ', H', J'.ofTry ok, r, q⟩
end
end L2N

/-! raise C(..), a class with an __init__ of its own, values by name too -/
namespace L2
open PySem PySem.Spec PyProof.Rows
/-- what is asked of C(..) that is raised -/
def tMkN (C : Addr) (n m : Nat) (sp : Sp) (gV : List V → List V → List V) (t tk : TA) : St → Hp → XK → Prop := fun σ H Q =>
  t σ H fun vs H1 => tk σ H1 fun zs H2 => vs.length = n ∧ zs.length = m ∧ ∀ a, H2 a = none → sp (gV (.ref a :: vs) zs) (upd H2 a (exo a C none))
    (fun v H3 => v = .non ∧ ∃ (d : Addr) (fs : List (Str × V)), H3 a = some (exo a C (some d)) ∧ H3 d = some (exd d fs) ∧ H2 d = none ∧ Q (.ref C) (some d) (upd (del H3 a) d (.xd fs))) fun _ _ _ => False
section
variable {X : Cx} {CX : CXT} {k n : Nat} {C fI : Addr} {fd : FuncData} {ps ks : List Str} {sp : Sp} {x : Str} {p pos : Pos}
variable {e : Expr} {es : List Expr} {kws : List Keyword} {t tk : TA} {g : List Value → List Value → List Value} {gV : List V → List V → List V}
theorem run_mkN {pins : List Pin} {σ : St} {H : Hp} {s : Shared} {Q : XK} {us ws : List Value} {vs zs : List V} (T : OexC X.K C)
    (iC : PySem.W.findIn X.K (.ref C) "__init__" = some (some (.ref fI))) (tI : PySem.W.typeIn X.K (.ref fI) = some (.type "function"))
    (F : FnOk X.prog X.w X.K X.mg X.base CX k fI fd ps sp) (hr : Room (k + 1) X.A) (hb : KBn X.K fd ps (n + 1) ks g gV)
    (hx : Passes CX X fun _ _ _ => False) (I : Inv X pins σ H s) (r : Vals vs us) (rz : Vals zs ws) (l1 : vs.length = n)
    (l2 : zs.length = ks.length) (hn : n ≤ 1000)
    (h : ∀ a, H a = none → sp (gV (.ref a :: vs) zs) (upd H a (exo a C none)) (fun v H3 => v = .non ∧ ∃ (d : Addr) (fs : List (Str × V)), H3 a = some (exo a C (some d)) ∧ H3 d = some (exd d fs) ∧ H d = none ∧ Q (.ref C) (some d) (upd (del H3 a) d (.xd fs))) fun _ _ _ => False) :
    wpAny (model X.prog X.w) X.A (call (.ref C) us (ks.zip ws)) (L2N.MkP X pins σ Q) X.xe s := by
  obtain ⟨nm, q, N, bs, bm, sn, sub, ab, col, dd, k0, k1, k2, k3, k5, hC, hbm⟩ := T.cls
  obtain ⟨hp, gs, dr, tk0, os⟩ := s
  have le1 : hp.objs.size ≤ hp.objs.size + 1 := Nat.le_succ _
  have hq := h (hp.objs.size + 1) (I.hok.fresh le1)
  have up : ∀ b o, hp.get? b = some o → (PySem.MlE.withNew hp C us).get? b = some o :=
    fun b o e => Heap.get?_push_of_some _ (Heap.get?_push_of_some _ e)
  have atE : (PySem.MlE.withNew hp C us).get? (hp.objs.size + 1) = some (PySem.HandSPX.excO C hp.objs.size) := by heap_get
  have I2 : Inv X pins σ (upd H (hp.objs.size + 1) (exo (hp.objs.size + 1) C none)) ⟨PySem.MlE.withNew hp C us, gs, dr, tk0, os⟩ :=
    I.laid (t' := tk0) (a := hp.objs.size + 1) (o := exo (hp.objs.size + 1) C none) (h' := PySem.MlE.withNew hp C us) up le1 (exo_ok atE)
  have r1 : Vals (V.ref (hp.objs.size + 1) :: vs) (Value.ref (hp.objs.size + 1) :: us) := .cons rfl r
  have r2 := hb.rel r1 rz
  have e1 : (Value.ref (hp.objs.size + 1) :: us).length = n + 1 := r1.length.symm.trans (congrArg Nat.succ l1)
  have e2 : ws.length = ks.length := rz.length.symm.trans l2
  have hus : us.length ≤ sizeLine := by
    have z := r.length
    rw [sizeLine_eq]
    omega
  refine wpAny_call (PySem.MlE.callK PySem.F.excBase_ValueError (fun Y => PySem.HandSPX.refsVE_contains Y bm hbm)
    (I.kIn _ _ hC) (PySem.W.looks_findIn I.kIn iC) (fun self => PySem.W.bind_fn I.kIn self tI) hus ?_)
  refine codeAny_mono (F.run _ X.stack _ _ ⟨Value.ref (hp.objs.size + 1) :: us, ks.zip ws⟩ (g (Value.ref (hp.objs.size + 1) :: us) ws)
    _ _ (fun _ _ _ => False) (hr.make C us (ks.zip ws)) (I2.env0.make C us (ks.zip ws))
    (hb.to _ (Value.ref (hp.objs.size + 1) :: us) ws I2.kIn e1 e2) r2 hq) fun r s1 h1 => ?_
  cases r with
  | error er => exact hx pins σ _ _ er s1 I2 h1
  | ok fl =>
    cases fl with
    | ret u =>
      obtain ⟨v, H3, os2, bare2, un2, hok2, rv, ev, d, fs, ea, ed, hd1, q2⟩ := h1
      subst ev
      obtain ⟨h2, g2, d2, t2, os'⟩ := s1
      obtain ⟨t0, G, J, kG, ge, hoe, na⟩ := mk_end0 (d2 := d2) (t2 := t2) I le1 up un2 hok2 os2 bare2 ea ed hd1
      refine ⟨rv, ⟨hp.objs.size + 1, _, _, ⟨G, g2, d2, t2, os'⟩, _, .ref C, some d, rfl, J, kG, ge, hoe, ⟨rfl, rfl, fun vs hv => ?_⟩, rfl, rfl, na, rfl, bare2, raises_own T.exC T.tyC, q2⟩⟩
      cases hv
      rfl
    | next => exact False.elim h1
    | brk => exact False.elim h1
    | cont => exact False.elim h1
theorem pmk_mkN (T : OexC X.K C) (iC : PySem.W.findIn X.K (.ref C) "__init__" = some (some (.ref fI)))
    (tI : PySem.W.typeIn X.K (.ref fI) = some (.type "function")) (FI : FnOk X.prog X.w X.K X.mg X.base CX k fI fd ps sp) (hr : Room (k + 1) X.A)
    (hb : KBn X.K fd ps (n + 1) [] g gV) (hx : Passes CX X fun _ _ _ => False) (hn : n ≤ 1000) (hg : Gl X x) (hm : X.mg x = some (.ref C)) (ha : PA X (e :: es) t)
    (hdb : (x == ("__debug__" : Str)) = false := by decide) (he : starEach (e :: es) X.env = (false, eval e X.env) :: starEach es X.env := by rfl)
    (hpl : (backTo pos (starEach es X.env)).any (·.1) = false := by rfl) : L2N.PMk X (.Call (.Name x p) (e :: es) [] pos) (tMkN C n 0 sp gV t tNil) := by
  intro pins s σ H Q I h
  refine wpAny_Call_Name_kw (ld_glob I hg hm ?_ hdb)
  refine PySem.W.callWith_K (h₀ := X.base) I.ok.mod.kin T.kC ?_ he hpl
  refine thn (ha.run pos pins s σ H _ I h) fun us s1 ⟨vs, H1, I1, r, l1, l2, q⟩ => ⟨I1.kIn, ?_⟩
  exact run_mkN (ks := []) (ws := []) (zs := []) T iC tI FI hr hb hx I1 r .nil l1 rfl hn q
theorem pmk_mkNK (T : OexC X.K C) (iC : PySem.W.findIn X.K (.ref C) "__init__" = some (some (.ref fI)))
    (tI : PySem.W.typeIn X.K (.ref fI) = some (.type "function")) (FI : FnOk X.prog X.w X.K X.mg X.base CX k fI fd ps sp) (hr : Room (k + 1) X.A)
    (hb : KBn X.K fd ps 1 ks g gV) (hx : Passes CX X fun _ _ _ => False) (hg : Gl X x) (hm : X.mg x = some (.ref C)) (hkw : PK X kws tk)
    (hall : (backToKw pos (keywordEach kws X.env)).all (·.1.isSome) = true := by rfl)
    (hks : (backToKw pos (keywordEach kws X.env)).filterMap (·.1) = ks := by rfl) (hdb : (x == ("__debug__" : Str)) = false := by decide)
    (hpl : ((backTo pos (starEach [] X.env)).any (·.1) || (backToKw pos (keywordEach kws X.env)).any (·.1.isNone)) = false := by rfl) :
    L2N.PMk X (.Call (.Name x p) [] kws pos) (tMkN C 0 ks.length sp gV tNil tk) := by
  intro pins s σ H Q I h
  refine wpAny_Call_Name_kw (ld_glob I hg hm ?_ hdb)
  refine PySem.W.callWith_KW0 (h₀ := X.base) I.ok.mod.kin T.kC hall ?_ hpl
  refine thn (hkw.run pos pins s σ H _ I h) fun ws s2 ⟨zs, H2, I2, rz, l1, l2, q2⟩ => ⟨I2.kIn, ?_⟩
  rw [hks]
  exact run_mkN (us := []) (vs := []) T iC tI FI hr hb hx I2 .nil rz rfl l2 (Nat.zero_le _) q2
end
theorem pmk_mono {X : Cx} {e : Expr} {t u : St → Hp → XK → Prop} (h : L2N.PMk X e t) (k : ∀ σ H Q, u σ H Q → t σ H Q) : L2N.PMk X e u := fun pins s σ H Q I q => h pins s σ H Q I (k _ _ _ q)
/-- X(v), v in slot i, that is raised -/
def tRs1 (i : Nat) (C : Addr) (f : Str) : St → Hp → XK → Prop := fun σ H Q => ∃ v, σ[i]? = some (some v) ∧ ∀ d H', Same H H' → H' d = some (.xd [(f, v)]) → Q (.ref C) (some d) H'
def tRs2 (i j : Nat) (C : Addr) (f g : Str) : St → Hp → XK → Prop := fun σ H Q => ∃ v w, σ[i]? = some (some v) ∧ σ[j]? = some (some w) ∧ ∀ d H', Same H H' → H' d = some (.xd [(g, w), (f, v)]) → Q (.ref C) (some d) H'
theorem raised_at {H : Hp} {a C d : Addr} {fs : List (Str × V)} {Q : XK} (ha : H a = none) (n : upd H a (exo a C none) d = none) (ne : d ≠ a) (q : ∀ d H', Same H H' → H' d = some (.xd fs) → Q (.ref C) (some d) H') :
    ∃ (d' : Addr) (fs' : List (Str × V)), withEv (upd H a (exo a C none)) a C d fs a = some (exo a C (some d')) ∧ withEv (upd H a (exo a C none)) a C d fs d' = some (exd d' fs') ∧ H d' = none ∧
      Q (.ref C) (some d') (upd (del (withEv (upd H a (exo a C none)) a C d fs) a) d' (.xd fs')) := by
  rw [upd_withEv]
  have n2 : H d = none := by rwa [upd_ne ne] at n
  refine ⟨d, fs, by unfold withEv; rw [upd_same], by unfold withEv; rw [upd_ne ne, upd_same], n2, q _ _ (fun b o z => ?_) upd_same⟩
  have hb : b ≠ a := ne_of_none z ha
  have hd : b ≠ d := ne_of_none z n2
  unfold withEv
  rw [upd_ne hd, del_ne hb, upd_ne hb, upd_ne hd]
  exact z
section
variable {X : Cx} {x f g : Str} {i j : Nat} {v u : Expr} {p pos kp kp2 : Pos}
theorem pmk_e1 (O : One X.prog X.w X.K X.mg X.base x f) (hr : Room 2 X.A) (hv : PE X v (tVar i)) (hg : Gl X x) (hdb : (x == ("__debug__" : Str)) = false := by decide)
    (he : starEach [v] X.env = (false, eval v X.env) :: starEach [] X.env := by rfl) (hpl : (backTo pos (starEach [] X.env)).any (·.1) = false := by rfl) :
    L2N.PMk X (.Call (.Name x p) [v] [] pos) (tRs1 i (He.ga X.K x) f) := by
  obtain ⟨fd, F, b1, b2⟩ := O.ini
  refine pmk_mono (pmk_mkN O.T O.iC O.tI F hr b1 pass0 (by decide) hg O.mgx (pa_cons hv pa_nil he) hdb he hpl) fun σ H Q h => ?_
  obtain ⟨y, hy, q⟩ := h
  exact ⟨y, hy, rfl, rfl, fun a ha => ⟨a, y, rfl, upd_same, fun dx n ne => ⟨rfl, raised_at ha n ne q⟩⟩⟩
theorem pmk_e1K (O : One X.prog X.w X.K X.mg X.base x f) (hr : Room 2 X.A) (hv : PE X v (tVar i)) (hg : Gl X x) (hdb : (x == ("__debug__" : Str)) = false := by decide)
    (hall : (backToKw pos (keywordEach [⟨some f, v, kp⟩] X.env)).all (·.1.isSome) = true := by rfl)
    (hks : (backToKw pos (keywordEach [⟨some f, v, kp⟩] X.env)).filterMap (·.1) = [f] := by rfl)
    (hpl : ((backTo pos (starEach [] X.env)).any (·.1) || (backToKw pos (keywordEach [⟨some f, v, kp⟩] X.env)).any (·.1.isNone)) = false := by rfl) :
    L2N.PMk X (.Call (.Name x p) [] [⟨some f, v, kp⟩] pos) (tRs1 i (He.ga X.K x) f) := by
  obtain ⟨fd, F, b1, b2⟩ := O.ini
  refine pmk_mono (pmk_mkNK O.T O.iC O.tI F hr b2 pass0 hg O.mgx (pk_cons hv pk_nil) hall hks hdb hpl) fun σ H Q h => ?_
  obtain ⟨y, hy, q⟩ := h
  exact ⟨y, hy, rfl, rfl, fun a ha => ⟨a, y, rfl, upd_same, fun dx n ne => ⟨rfl, raised_at ha n ne q⟩⟩⟩
theorem pmk_e2 (O : Two X.prog X.w X.K X.mg X.base x f g) (hr : Room 2 X.A) (hv : PE X v (tVar i)) (hu : PE X u (tVar j)) (hg : Gl X x) (hdb : (x == ("__debug__" : Str)) = false := by decide)
    (he : starEach [v, u] X.env = (false, eval v X.env) :: starEach [u] X.env := by rfl) (he2 : starEach [u] X.env = (false, eval u X.env) :: starEach [] X.env := by rfl)
    (hpl : (backTo pos (starEach [u] X.env)).any (·.1) = false := by rfl) : L2N.PMk X (.Call (.Name x p) [v, u] [] pos) (tRs2 i j (He.ga X.K x) f g) := by
  obtain ⟨fd, F, b1, b2, b3, b4⟩ := O.ini
  refine pmk_mono (pmk_mkN O.T O.iC O.tI F hr b1 pass0 (by decide) hg O.mgx (pa_cons hv (pa_cons hu pa_nil he2) he) hdb he hpl) fun σ H Q h => ?_
  obtain ⟨y, z, hy, hz, q⟩ := h
  exact ⟨y, hy, z, hz, rfl, rfl, fun a ha => ⟨a, y, z, rfl, upd_same, fun dx n ne => ⟨rfl, raised_at ha n ne q⟩⟩⟩
theorem pmk_e2R (O : Two X.prog X.w X.K X.mg X.base x f g) (hr : Room 2 X.A) (hv : PE X v (tVar i)) (hu : PE X u (tVar j)) (hg : Gl X x) (hdb : (x == ("__debug__" : Str)) = false := by decide)
    (hall : (backToKw pos (keywordEach [⟨some g, u, kp⟩, ⟨some f, v, kp2⟩] X.env)).all (·.1.isSome) = true := by rfl)
    (hks : (backToKw pos (keywordEach [⟨some g, u, kp⟩, ⟨some f, v, kp2⟩] X.env)).filterMap (·.1) = [g, f] := by rfl)
    (hpl : ((backTo pos (starEach [] X.env)).any (·.1) || (backToKw pos (keywordEach [⟨some g, u, kp⟩, ⟨some f, v, kp2⟩] X.env)).any (·.1.isNone)) = false := by rfl) :
    L2N.PMk X (.Call (.Name x p) [] [⟨some g, u, kp⟩, ⟨some f, v, kp2⟩] pos) (tRs2 i j (He.ga X.K x) f g) := by
  obtain ⟨fd, F, b1, b2, b3, b4⟩ := O.ini
  refine pmk_mono (pmk_mkNK O.T O.iC O.tI F hr b3 pass0 hg O.mgx (pk_cons hu (pk_cons hv pk_nil)) hall hks hdb hpl) fun σ H Q h => ?_
  obtain ⟨y, z, hy, hz, q⟩ := h
  exact ⟨z, hz, y, hy, rfl, rfl, fun a ha => ⟨a, y, z, rfl, upd_same, fun dx n ne => ⟨rfl, raised_at ha n ne q⟩⟩⟩
end
end L2

/-! a string's signs, whether or not an exception is handled -/
namespace L2
open PySem PySem.Spec PyProof.Rows
open HotX (HotAt)
section
variable {prog : Program} {w : World} {A : Around} {E : Value → Shared → Prop} {s : Shared} {it x1 : Addr} {x : Str} {t : Tok} {i : Nat} {Q : Option Value → Shared → Prop}
/-- the handled exception is no string's iterator -/
theorem hot_ne {ty : String} (hot : HotAt A x1 s.heap) (hit : s.heap.IsStrIter it ty x t i) : x1 ≠ it := by
  obtain ⟨_, o1, vs1, h1, d1, c1⟩ := hot
  obtain ⟨o, ho, hc, hd⟩ := hit
  intro z
  rw [z, ho] at h1
  cases h1
  rw [hd] at d1
  cases d1
  cases c1
theorem end_ascii_hot (hot : HotAt A x1 s.heap) (hit : s.heap.IsStrIter it "str_ascii_iterator" x t i) (hx : x.cps[i]? = none)
    (hQ : ∀ h1, (∀ b o, b ≠ it → s.heap.get? b = some o → h1.get? b = some o) → Q none { s with heap := h1 }) :
    wpAny (model prog w) A (pyNext (.ref it)) Q E s := by
  have ne := hot_ne hot hit
  obtain ⟨hh, o1, vs1, g1, d1, c1⟩ := hot
  have hT := hit.typeIs
  obtain ⟨o, ho, hc, hd⟩ := hit
  unfold pyNext
  refine wpAny_bind (wpAny_attempt (wpAny_callSpecial?_slot (name := Str.ofString "__next__") hT F.slot_str_ascii_iterator_next (wpAny_call_entry F.slot_str_ascii_iterator_next hT F.entry_str_ascii_iterator_next ?_
    (F.args_str_ascii_iterator_next_1 _))))
  show wpAny _ _ (field (.ref it) 0 >>= _) _ _ s
  refine wpAny_bind (wpAny_field ho hd (x := .str x t) rfl ?_)
  show wpAny _ _ (field (.ref it) 1 >>= _) _ _ s
  refine wpAny_bind (wpAny_field ho hd (x := .int i 0) rfl ?_)
  simp only [Int.toNat_natCast, hx]
  refine wpAny_bind (wpAny_rule (wpAny_bind (wpAny_setField ho hd (by simp) (wpAny_bind (wpAny_letGo ?_)))))
  show wpAny _ _ (newExc (.type "StopIteration") [] >>= _) _ _ _
  generalize hU : s.heap.update it _ = U
  have up : ∀ b u, b ≠ it → s.heap.get? b = some u → U.get? b = some u := fun b u n e => by
    rw [← hU, Heap.get?_update_other _ _ n.symm]
    exact e
  refine wpAny_bind ?_
  simp only [newExc, newTuple]
  refine wpAny_bind (wpAny_newObj_type ?_ (by size_fits))
  refine wpAny_bind (m := firstArgMember _ _) (wpAny_of_eq (a := Value.none) (by first | rfl | (simp only [firstArgMember]; rfl)) ?_)
  refine wpAny_newObj_type ?_ (by size_fits)
  have p1 := up _ _ ne g1
  refine HotX.raiseNew_hot ⟨hh, o1, vs1, Heap.get?_push_of_some _ (Heap.get?_push_of_some _ p1), d1, c1⟩ (Nat.ne_of_lt (Heap.lt_size (Heap.get?_push_of_some _ p1))) (Heap.get?_push_size _ rfl) rfl (by first | (simp; done) | (simp; omega)) ?_
  refine wpAny_bind (wpAny_isInstance (T := "StopIteration") (b := true) ⟨_, Heap.get?_update_self _ (Heap.get?_push_size _ rfl) rfl, rfl⟩ isSubtype_stop ?_)
  refine wpAny_pure (hQ _ fun b u n e => ?_)
  have e2 := up _ _ n e
  rw [Heap.get?_update_other _ _ (Nat.ne_of_gt (Heap.lt_size (Heap.get?_push_of_some _ e2)))]
  exact Heap.get?_push_of_some _ (Heap.get?_push_of_some _ e2)
theorem end_wide_hot (hot : HotAt A x1 s.heap) (hit : s.heap.IsStrIter it "str_iterator" x t i) (hx : x.cps[i]? = none)
    (hQ : ∀ h1, (∀ b o, b ≠ it → s.heap.get? b = some o → h1.get? b = some o) → Q none { s with heap := h1 }) :
    wpAny (model prog w) A (pyNext (.ref it)) Q E s := by
  have ne := hot_ne hot hit
  obtain ⟨hh, o1, vs1, g1, d1, c1⟩ := hot
  have hT := hit.typeIs
  obtain ⟨o, ho, hc, hd⟩ := hit
  unfold pyNext
  refine wpAny_bind (wpAny_attempt (wpAny_callSpecial?_slot (name := Str.ofString "__next__") hT F.slot_str_iterator_next (wpAny_call_entry F.slot_str_iterator_next hT F.entry_str_iterator_next ?_
    (F.args_str_iterator_next_1 _))))
  show wpAny _ _ (field (.ref it) 0 >>= _) _ _ s
  refine wpAny_bind (wpAny_field ho hd (x := .str x t) rfl ?_)
  show wpAny _ _ (field (.ref it) 1 >>= _) _ _ s
  refine wpAny_bind (wpAny_field ho hd (x := .int i 0) rfl ?_)
  simp only [Int.toNat_natCast, hx]
  refine wpAny_bind (wpAny_rule (wpAny_bind (wpAny_setField ho hd (by simp) (wpAny_bind (wpAny_letGo ?_)))))
  show wpAny _ _ (newExc (.type "StopIteration") [] >>= _) _ _ _
  generalize hU : s.heap.update it _ = U
  have up : ∀ b u, b ≠ it → s.heap.get? b = some u → U.get? b = some u := fun b u n e => by
    rw [← hU, Heap.get?_update_other _ _ n.symm]
    exact e
  refine wpAny_bind ?_
  simp only [newExc, newTuple]
  refine wpAny_bind (wpAny_newObj_type ?_ (by size_fits))
  refine wpAny_bind (m := firstArgMember _ _) (wpAny_of_eq (a := Value.none) (by first | rfl | (simp only [firstArgMember]; rfl)) ?_)
  refine wpAny_newObj_type ?_ (by size_fits)
  have p1 := up _ _ ne g1
  refine HotX.raiseNew_hot ⟨hh, o1, vs1, Heap.get?_push_of_some _ (Heap.get?_push_of_some _ p1), d1, c1⟩ (Nat.ne_of_lt (Heap.lt_size (Heap.get?_push_of_some _ p1))) (Heap.get?_push_size _ rfl) rfl (by first | (simp; done) | (simp; omega)) ?_
  refine wpAny_bind (wpAny_isInstance (T := "StopIteration") (b := true) ⟨_, Heap.get?_update_self _ (Heap.get?_push_size _ rfl) rfl, rfl⟩ isSubtype_stop ?_)
  refine wpAny_pure (hQ _ fun b u n e => ?_)
  have e2 := up _ _ n e
  rw [Heap.get?_update_other _ _ (Nat.ne_of_gt (Heap.lt_size (Heap.get?_push_of_some _ e2)))]
  exact Heap.get?_push_of_some _ (Heap.get?_push_of_some _ e2)
end
theorem turn_strW {P : Program} {w : World} {K : PySem.W.Frag} {tg : Expr} (it : Addr) (x : Str) (t : Tok) (ty : String) (hty : ty = "str_ascii_iterator" ∨ ty = "str_iterator") :
    TurnW P w K tg (Its x) [it] it (fun i h => h.IsStrIter it ty x t i) where
  obj := fun i h st b hb => by
    obtain rfl : b = it := by simpa using hb
    obtain ⟨o, e, c, d⟩ := st
    refine ⟨o, e, fun v z => ?_⟩
    rw [d] at z
    cases z
  keep := fun i h h1 st k => by
    obtain ⟨o, ho, r⟩ := st
    exact ⟨o, k it (by simp) o ho, r⟩
  item := by
    rintro X rfl rfl rfl i pins s σ H E hw I hf st hg
    obtain ⟨f0, f1, f2, f3, f4, f5⟩ := hf it (by simp)
    have lt : i < x.cps.size := hg
    have hx : x.cps[i]? = some x.cps[i] := Array.getElem?_eq_getElem lt
    have key : ∀ h1 : Heap, h1.IsStrIter it ty x t (i + 1) → Heap.SameBut it s.heap h1 → wpAny (model X.prog X.w) X.A (letOwnedTupleGo tg (.ref it) (.str ⟨#[x.cps[i]]⟩ s.toks))
        (fun _ s2 => ∃ y H1, Inv X pins σ H1 s2 ∧ RelV y (.str ⟨#[x.cps[i]]⟩ s.toks) ∧ (Its x).yld i H y H1 ∧ s2.heap.IsStrIter it ty x t (i + 1) ∧ ∀ b ∈ [it], H1 b = none) E { s with heap := h1, toks := s.toks + 1 } := by
      intro h1 st1 sb
      have I1 : Inv X pins σ H { s with heap := h1, toks := s.toks + 1 } := I.turned (fun b o hb e => (sb.2 b hb).trans e) f0 f1 f3 f4 f5
      obtain ⟨oi, e, cc, dd⟩ := id st1
      have hno : ["enumerate", "zip", "dict_itemiterator", "dict_reverseitemiterator", "odict_iterator", "itertools.zip_longest", "itertools.pairwise"].contains ty = false := by
        rcases hty with z | z
        · rw [z]; decide
        · rw [z]; decide
      exact go_of (s := { s with heap := h1, toks := s.toks + 1 }) e cc dd hno ⟨.str ⟨#[x.cps[i]]⟩, H, I1, ⟨s.toks, rfl⟩, ⟨rfl, _, hx, rfl⟩, st1, fun b hb => (hf b hb).1⟩
    rcases hty with z | z
    · subst z
      exact wpAny_pyNext_ascii_item st hx fun h1 st1 sb => ⟨_, rfl, key h1 st1 sb⟩
    · subst z
      exact wpAny_pyNext_wide_item st hx fun h1 st1 sb => ⟨_, rfl, key h1 st1 sb⟩
  done := by
    rintro X rfl rfl rfl i pins s σ H E hw I hf st hg
    obtain ⟨f0, f1, f2, f3, f4, f5⟩ := hf it (by simp)
    have hx : x.cps[i]? = none := Array.getElem?_eq_none hg
    rcases hty with z | z
    · subst z
      rcases hw with hw | ⟨x1, hot⟩
      · exact wpAny_pyNext_ascii_end hw st hx fun h1 eb => ⟨rfl, I.turned (t' := s.toks) (fun b o hb e => eb b o hb e) f0 f1 f3 f4 f5⟩
      · exact end_ascii_hot hot st hx fun h1 eb => ⟨rfl, I.turned (t' := s.toks) (fun b o hb e => eb b o hb e) f0 f1 f3 f4 f5⟩
    · subst z
      rcases hw with hw | ⟨x1, hot⟩
      · exact wpAny_pyNext_wide_end hw st hx fun h1 eb => ⟨rfl, I.turned (t' := s.toks) (fun b o hb e => eb b o hb e) f0 f1 f3 f4 f5⟩
      · exact end_wide_hot hot st hx fun h1 eb => ⟨rfl, I.turned (t' := s.toks) (fun b o hb e => eb b o hb e) f0 f1 f3 f4 f5⟩
  self := fun A i s Q E st h => by
    rcases hty with z | z
    · subst z
      exact wpAny_pyIter_striter_ascii st h
    · subst z
      exact wpAny_pyIter_striter_wide st h
theorem one_itW {X : Cx} {tg : Expr} {pins : List Pin} {σ : St} {H : Hp} {s : Shared} {R : It → Hp → Prop} {x : Str} {t : Tok} {ty : String} {o : Obj} {tk : Nat} (I : Inv X pins σ H s) (hty : ty = "str_ascii_iterator" ∨ ty = "str_iterator")
    (st : (s.heap.push o).IsStrIter s.heap.objs.size ty x t 0) (q : R (Its x) H) : PIEW X pins σ tg R (.ref s.heap.objs.size) { s with heap := s.heap.push o, toks := tk } := by
  refine ⟨s.heap.objs.size, [s.heap.objs.size], _, _, H, rfl, I.kept (t' := tk) fun b o e => Heap.get?_push_of_some _ e, turn_strW _ x t ty hty, st, fun b hb => ?_, q⟩
  obtain rfl : b = s.heap.objs.size := by simpa using hb
  exact I.fpOk (Nat.le_refl _) (I.hok.fresh (Nat.le_refl _))
theorem pi_strW {X : Cx} {tg e : Expr} {te : TE} (he : PE X e te) : PIW X tg e (iStr te) := by
  refine ⟨fun pins s σ H R I h => ?_⟩
  refine thn (he.run pins s σ H _ I h) fun v s1 ⟨y, H1, I1, r1, x, ex, q⟩ => ?_
  subst ex
  obtain ⟨t, rfl⟩ := r1
  cases ha : x.cps.all (· < 128)
  · exact wpAny_pyIter_wide ha (one_itW I1 (.inr rfl) ⟨_, Heap.get?_push_size _ rfl, rfl, rfl⟩ q)
  · exact wpAny_pyIter_ascii ha (one_itW I1 (.inl rfl) ⟨_, Heap.get?_push_size _ rfl, rfl, rfl⟩ q)
end L2

namespace L2
open PySem PySem.Spec PyProof.Rows
section
variable {X : Cx} {ps : List Pin}
/-- type(e), e an exception -/
theorem call_typeEv (hps : ∀ p ∈ ps, p ∈ X.pn) : CallR X (.type "type") (fun xs H Q => ∃ (a C d : Addr) (fs : List (Str × V)), xs = [.ref a] ∧ EvP ps H a C d fs ∧ Q (.ref C) H) := by
  intro pins s σ H xs us Q I r h
  obtain ⟨a, C, d, fs, rfl, ev, q⟩ := h
  obtain ⟨u, rfl, ru⟩ := vals1 r
  obtain rfl : u = Value.ref a := ru
  obtain ⟨oe, od, mA, J, _⟩ := ev.look I hps
  obtain ⟨hh, g, d2, t, os⟩ := s
  refine call_type_obj J.at_ (by rw [J.cls]; rfl) ?_
  rw [J.cls]
  exact ⟨.ref C, H, I, rfl, q⟩
theorem op_isRT : OpR X (compareOp .Is) (fun x y H Q => ∃ a b, x = .ref a ∧ y = .ty b ∧ Q (.bl false) H) := by
  intro pins s σ H x y v u Q I rx ry h
  obtain ⟨a, b, rfl, rfl, q⟩ := h
  obtain rfl : v = Value.ref a := rx
  obtain rfl : u = Value.type b := ry
  exact wpAny_is_other rfl (fun z => nomatch z) ⟨.bl false, H, I, rfl, q⟩
theorem op_notRT : OpR X (compareOp .IsNot) (fun x y H Q => ∃ a b, x = .ref a ∧ y = .ty b ∧ Q (.bl true) H) := by
  intro pins s σ H x y v u Q I rx ry h
  obtain ⟨a, b, rfl, rfl, q⟩ := h
  obtain rfl : v = Value.ref a := rx
  obtain rfl : u = Value.type b := ry
  exact wpAny_isNot_plain rfl (fin_bl I q rfl)
end
/-- data as in Rdd: its type's name -/
theorem Rdd.tyb {K : PySem.W.Frag} {H : Hp} {v : V} {d : PyData} (r : Rdd H v d) : ∃ T : String, TyB K H v T ∧ TyX K H v (.type T) ∧ (T = "str" → ∃ z, v = .str z ∧ d = .str z) ∧ (T = "tuple" → ∃ p xs ds, v = .ref p ∧ d = .tuple ds ∧ H p = some (.tup xs) ∧ RddAll H xs ds) := by
  cases r with
  | non => exact ⟨_, .non, .base .non, (fun z => absurd z (by decide)), fun z => absurd z (by decide)⟩
  | bl b => exact ⟨_, .bl b, .base (.bl b), (fun z => absurd z (by decide)), fun z => absurd z (by decide)⟩
  | int i => exact ⟨_, .int i, .base (.int i), (fun z => absurd z (by decide)), fun z => absurd z (by decide)⟩
  | str x => exact ⟨_, .str x, .base (.str x), (fun _ => ⟨_, rfl, rfl⟩), fun z => absurd z (by decide)⟩
  | lst h r => exact ⟨_, .lst (SqL.of h), .base (.lst h), (fun z => absurd z (by decide)), fun z => absurd z (by decide)⟩
  | tup h r => exact ⟨_, .tup (SqT.of h), .base (.tup h), (fun z => absurd z (by decide)), fun _ => ⟨_, _, _, rfl, rfl, h, r⟩⟩
  | dK h r1 r2 => exact ⟨_, .dK h, .base (.dK h), (fun z => absurd z (by decide)), fun z => absurd z (by decide)⟩
end L2

/-! how long the text of data can be -/
namespace L2
open PySem PySem.Spec PyProof.Rows
open PySem.PyData
mutual
/-- its text is at most so long -/
def wt : PyData → Nat
  | .none => 4
  | .bool _ => 5
  | .int i => (PyData.shown (.int i)).length
  | .str x => 10 * x.length + 2
  | .list xs => wtAll xs + 2
  | .tuple xs => wtAll xs + 3
  | .dict kvs => wtKv kvs + 2
def wtAll : List PyData → Nat
  | [] => 0
  | x :: xs => wt x + 2 + wtAll xs
def wtKv : List (PyData × PyData) → Nat
  | [] => 0
  | q :: r => wt q.1 + wt q.2 + 4 + wtKv r
end
mutual
/-- all signs of it are plain ones -/
def asc : PyData → Bool
  | .str x => x.cps.toList.all fun c => decide (c < 128)
  | .list xs => ascAll xs
  | .tuple xs => ascAll xs
  | .dict kvs => ascKv kvs
  | _ => true
def ascAll : List PyData → Bool
  | [] => true
  | x :: xs => asc x && ascAll xs
def ascKv : List (PyData × PyData) → Bool
  | [] => true
  | q :: r => asc q.1 && (asc q.2 && ascKv r)
end
theorem from_le : ∀ (ts : List Str) (k : Nat) (acc : Str), (textFrom k acc ts).length ≤ acc.length + piled ts
  | [], k, acc => by
    show acc.length ≤ _
    omega
  | t :: r, k, acc => by
    have h := from_le r (k + 1) (acc ++ (if k > 0 then ", " else "" : String) ++ t)
    have e : (acc ++ (if k > 0 then ", " else "" : String) ++ t).length ≤ acc.length + 2 + t.length := by
      rw [strLen_append, strLen_append]
      have e2 : ((", " : String) : Str).length = 2 := rfl
      have e0 : (("" : String) : Str).length = 0 := rfl
      split
      · rw [e2] <;> omega
      · rw [e0] <;> omega
    have p : piled (t :: r) = t.length + 2 + piled r := by simp [piled]
    show (textFrom (k + 1) _ r).length ≤ _
    omega
theorem list_le (ts : List Str) : (listText ts).length ≤ piled ts + 2 := by
  unfold listText
  rw [strLen_append]
  have h := from_le ts 0 "["
  have e1 : (("[" : String) : Str).length = 1 := rfl
  have e2 : (("]" : String) : Str).length = 1 := rfl
  omega
theorem join_le (ts : List Str) : (Str.join ", " ts).length ≤ piled ts := by
  by_cases h : ts = []
  · subst h
    exact Nat.zero_le _
  · have z := join_length_add ts h
    omega
theorem tuple_le (ts : List Str) : (tupleText ts).length ≤ piled ts + 3 := by
  unfold tupleText
  rw [strLen_append, strLen_append]
  have h := join_le ts
  have e1 : (("(" : String) : Str).length = 1 := rfl
  have e2 : ((",)" : String) : Str).length = 2 := rfl
  have e3 : ((")" : String) : Str).length = 1 := rfl
  split
  · rw [e2] <;> omega
  · rw [e3] <;> omega
theorem dict_le (ts : List Str) : (dictText ts).length ≤ piled ts + 2 := by
  unfold dictText
  rw [strLen_append, strLen_append]
  have h := join_le ts
  have e1 : (("{" : String) : Str).length = 1 := rfl
  have e2 : (("}" : String) : Str).length = 1 := rfl
  omega
mutual
theorem shown_le : ∀ d : PyData, asc d = true → (PyData.shown d).length ≤ wt d
  | .none, _ => by simp only [PyData.shown, wt]; decide
  | .bool b, _ => by cases b <;> (simp only [PyData.shown, wt]; decide)
  | .int i, _ => by simp only [wt]; exact Nat.le_refl _
  | .str x, h => by
    simp only [PyData.shown, wt]
    refine PySem.StrLaws.reprText_len x fun c hc => ?_
    simp only [asc] at h
    have z := of_decide_eq_true (List.all_eq_true.mp h c hc)
    exact Nat.lt_of_lt_of_le z (by decide)
  | .list xs, h => by
    simp only [PyData.shown, wt]
    simp only [asc] at h
    have z := shownAll_le xs h
    have y := list_le (PyData.shownAll xs)
    omega
  | .tuple xs, h => by
    simp only [PyData.shown, wt]
    simp only [asc] at h
    have z := shownAll_le xs h
    have y := tuple_le (PyData.shownAll xs)
    omega
  | .dict kvs, h => by
    simp only [PyData.shown, wt]
    simp only [asc] at h
    have z := shownKv_le kvs h
    have y := dict_le (PyData.shownKv kvs)
    omega
theorem shownAll_le : ∀ xs : List PyData, ascAll xs = true → piled (PyData.shownAll xs) ≤ wtAll xs
  | [], _ => by simp [PyData.shownAll, piled, wtAll]
  | x :: xs, h => by
    simp only [ascAll, Bool.and_eq_true] at h
    have z := shown_le x h.1
    have y := shownAll_le xs h.2
    simp only [PyData.shownAll, wtAll]
    have p : piled (PyData.shown x :: PyData.shownAll xs) = (PyData.shown x).length + 2 + piled (PyData.shownAll xs) := by simp [piled]
    omega
theorem shownKv_le : ∀ kvs : List (PyData × PyData), ascKv kvs = true → piled (PyData.shownKv kvs) ≤ wtKv kvs
  | [], _ => by simp [PyData.shownKv, piled, wtKv]
  | q :: r, h => by
    obtain ⟨k, v⟩ := q
    simp only [ascKv, Bool.and_eq_true] at h
    have z := shown_le k h.1
    have y := shown_le v h.2.1
    have x := shownKv_le r h.2.2
    simp only [PyData.shownKv, wtKv]
    have p : piled ((PyData.shown k ++ (": " : Str) ++ PyData.shown v) :: PyData.shownKv r) = (PyData.shown k ++ (": " : Str) ++ PyData.shown v).length + 2 + piled (PyData.shownKv r) := by simp [piled]
    rw [p, strLen_append, strLen_append]
    have e2 : ((": " : String) : Str).length = 2 := rfl
    omega
end
/-- data whose text is told -/
structure Tame (d : PyData) : Prop where
  a : asc d = true
  s : d.showable = true
  h : d.depth ≤ 32
  w : wt d ≤ 1000000
theorem Tame.len {d : PyData} (t : Tame d) : d.shown.length ≤ sizeLine := by
  have z := shown_le d t.a
  have y := t.w
  rw [sizeLine_eq]
  omega
end L2

/-! != of two lists whose items are equal, whatever these are -/
namespace PySem.SeqAt
open AutoSeq1 (wpAny_loadPart')
open MeetsSeq MeetsSeq2 MeetsSeq3
section
variable {prog : Program} {w : World}
theorem ne_loopE (l r : Addr) (xs ys : Array Value) (n m : Nat) (d1 d2 : Option Addr) (s1 s2 : Array (Option Value)) (hsz : xs.size = ys.size) (k : Nat) :
    ∀ i : Nat, xs.size - i = k → MeetsIn prog w (Builtin.«list.__eq__.loop» ⟨[.ref l, .ref r, rawInt i, rawInt 3], []⟩)
      (fun A R s => s.heap.get? l = some { cls := .type "list", dict := d1, data := .seq xs n, slots := s1 } ∧
        s.heap.get? r = some { cls := .type "list", dict := d2, data := .seq ys m, slots := s2 } ∧
        (∀ j (h1 : j < xs.size) (h2 : j < ys.size), EqP prog w A.in1 s xs[j] ys[j] true) ∧ R (.ok (.ret (.bool false))) s) := by
  induction k with
  | zero =>
    intro i hk A R s h
    obtain ⟨hp, gs, dr, tk, os⟩ := s
    obtain ⟨hl, hr, he, h⟩ := h
    wp_walk using wpAny_loadPart' hl, wpAny_loadPart' hr
    have z1 : xs[((i : Nat) : Int).toNat]? = none := by simp; omega
    have z2 : ys[((i : Nat) : Int).toNat]? = none := by simp; omega
    rw [z1, z2]
    wp_walk using wpAny_loadPart' hl, wpAny_loadPart' hr
    show R (.ok (.ret (.bool (xs.size != ys.size)))) _
    rw [hsz]
    simpa using h
  | succ k ih =>
    intro i hk A R s h
    obtain ⟨hp, gs, dr, tk, os⟩ := s
    obtain ⟨hl, hr, he, h⟩ := h
    wp_walk using wpAny_loadPart' hl, wpAny_loadPart' hr
    have l1 : i < xs.size := by omega
    have l2 : i < ys.size := by omega
    have z1 : xs[((i : Nat) : Int).toNat]? = some xs[i] := by simp [l1]
    have z2 : ys[((i : Nat) : Int).toNat]? = some ys[i] := by simp [l2]
    have up : ((i : Int) + 1) = ((i + 1 : Nat) : Int) := by omega
    rw [z1, z2]
    refine wpAny_bind (he i l1 l2 _ _ ?_)
    wp_walk
    rw [up]
    refine ⟨plainId_quiet plain_eq_loop _, codeAny_builtin entry_eq_loop ?_⟩
    rw [Around.under_plainId plain_eq_loop _]
    exact ih (i + 1) (by omega) A R _ ⟨hl, hr, he, h⟩
theorem list_neE (l r : Addr) (xs ys : Array Value) (n m : Nat) (d1 d2 : Option Addr) (s1 s2 : Array (Option Value)) (hsz : xs.size = ys.size) :
    MeetsIn prog w (Builtin.«list.__ne__» ⟨[.ref l, .ref r], []⟩)
      (fun A R s => s.heap.get? l = some { cls := .type "list", dict := d1, data := .seq xs n, slots := s1 } ∧
        s.heap.get? r = some { cls := .type "list", dict := d2, data := .seq ys m, slots := s2 } ∧
        (∀ j (h1 : j < xs.size) (h2 : j < ys.size), EqP prog w A.in1 s xs[j] ys[j] true) ∧ R (.ok (.ret (.bool false))) s) := by
  intro A R s h
  obtain ⟨hp, gs, dr, tk, os⟩ := s
  obtain ⟨hl, hr, he, h⟩ := h
  have f3 := AutoSeq1.sub_list_list
  have same : ¬ (xs.size != ys.size) = true := by simp [hsz]
  wp_walk using wpAny_loadPart' hl, wpAny_loadPart' hr
  refine ⟨plainId_quiet plain_eq_loop _, codeAny_builtin entry_eq_loop ?_⟩
  rw [Around.under_plainId plain_eq_loop _]
  exact ne_loopE l r xs ys n m d1 d2 s1 s2 hsz _ 0 rfl A R _ ⟨hl, hr, he, h⟩
theorem rcNe_lists {A : Around} {s : Shared} {l r : Addr} {xs ys : Array Value} (hl : s.heap.IsList l xs) (hr : s.heap.IsList r ys) (hsz : xs.size = ys.size) (hu : A.units < cLine)
    (he : ∀ j (h1 : j < xs.size) (h2 : j < ys.size), EqP prog w A.in1 s xs[j] ys[j] true) (E Q : Value → Shared → Prop) (h : Q (.bool false) s) :
    wpAny (model prog w) A (richCompare .NotEq (.ref l) (.ref r)) Q E s := by
  obtain ⟨⟨c1, e1, f1, g1⟩, o1, hc1, n, hd1⟩ := id hl
  obtain ⟨⟨c2, e2, f2, g2⟩, o2, hc2, m, hd2⟩ := id hr
  simp only at hc1 hd1 hc2 hd2
  subst hc1 hd1 hc2 hd2
  have t1 : s.TypeIs (.ref l) "list" := ⟨_, o1, rfl⟩
  have t2 : s.TypeIs (.ref r) "list" := ⟨_, o2, rfl⟩
  refine wpAny_richCompare_same_room (op := .NotEq) t1 t2 F.slot_list_ne ?_ hu
  refine call_meetsIn F.slot_list_ne t1 F.entry_list_ne (F.args_list_ne_2 _ _) (list_neE l r xs ys n m e1 e2 g1 g2 hsz) ?_
  exact ⟨o1, o2, he, show Value.bool false ≠ Value.notImplemented ∧ Q (.bool false) s from ⟨(fun x => nomatch x), h⟩⟩
end
end PySem.SeqAt
namespace L2
open PySem PySem.Spec PyProof.Rows
/-- a != b, two lists of equal items -/
def rNeV (K : PySem.W.Frag) : R2 := fun x y H Q => ∃ (n : Nat) (a b : Addr) (xs ys : List V), n ≤ 60 ∧ x = .ref a ∧ y = .ref b ∧ SqL K H a xs ∧ SqL K H b ys ∧ Paired (EqV K H n) xs ys ∧ Q (.bl false) H
theorem op_neV {X : Cx} (hu : X.A.units + 64 < cLine) : OpR X (compareOp .NotEq) (rNeV X.K) := by
  intro pins s σ H x y v u Q I rx ry h
  obtain ⟨n, a, b, xs, ys, hn, rfl, rfl, ha, hb, hp, q⟩ := h
  obtain rfl : v = Value.ref a := rx
  obtain rfl : u = Value.ref b := ry
  obtain ⟨us, r1, p1, _⟩ := I.list ha
  obtain ⟨ws, r2, p2, _⟩ := I.list hb
  have hsz : us.toArray.size = ws.toArray.size := by
    rw [List.size_toArray, List.size_toArray, ← r1.length, ← r2.length]
    exact Paired.length hp
  refine SeqAt.rcNe_lists p1.isList p2.isList hsz (by omega) (fun j h1 h2 => ?_) _ _ ⟨.bl false, H, I, rfl, q⟩
  have k := items_run (fun x y v u => eqV_run I n X.A.in1 (by show X.A.units + 1 + n < cLine; omega) x y v u) hp r1 r2 j (by simpa using h1) (by simpa using h2)
  simpa using k
end L2

/-! a def of the text with its promise; small lemmas -/
namespace L2
open PySem PySem.Spec PyProof.Rows
abbrev Fd (K : PySem.W.Frag) (x : Str) (st : Stmt) (f : Addr) (fd : FuncData) : Prop := FunD K x x (defArgs st) (defBody st) (defScope st) [] [] f fd
/-- the def st of the text, called x, keeps sp -/
structure Ok (P : Program) (w : World) (K : PySem.W.Frag) (mg : Str → Option Value) (base : Heap) (CX : CXT) (k : Nat) (x : Str) (st : Stmt) (ps : List Str) (sp : Sp) : Prop where
  ex : ∃ f fd, mg x = some (.ref f) ∧ Fd K x st f fd ∧ Binds K fd ps [] ∧ FnOk P w K mg base CX k f fd ps sp
theorem Ok.mono {P : Program} {w : World} {K : PySem.W.Frag} {mg : Str → Option Value} {base : Heap} {CX : CXT} {j k : Nat} {x : Str} {st : Stmt} {ps : List Str} {sp : Sp} (O : Ok P w K mg base CX j x st ps sp) (h : j ≤ k) : Ok P w K mg base CX k x st ps sp :=
  let ⟨f, fd, g, F, b, o⟩ := O.ex
  ⟨f, fd, g, F, b, o.mono h⟩
theorem Ok.imp {P : Program} {w : World} {K : PySem.W.Frag} {mg : Str → Option Value} {base : Heap} {CX : CXT} {k : Nat} {x : Str} {st : Stmt} {ps : List Str} {sp sp' : Sp} (O : Ok P w K mg base CX k x st ps sp) (h : ∀ vs H Q E, sp' vs H Q E → sp vs H Q E) : Ok P w K mg base CX k x st ps sp' :=
  let ⟨f, fd, g, F, b, o⟩ := O.ex
  ⟨f, fd, g, F, b, o.imp h⟩
/-- .. that is called where no repr is under way -/
structure OkG (P : Program) (w : World) (K : PySem.W.Frag) (mg : Str → Option Value) (base : Heap) (k : Nat) (x : Str) (st : Stmt) (ps : List Str) (sp : Sp) : Prop where
  ex : ∃ f fd, mg x = some (.ref f) ∧ Fd K x st f fd ∧ Binds K fd ps [] ∧ FnG P w K mg base k f fd ps sp
/-- names of the machine that the text does not hide -/
structure Blts (mg : Str → Option Value) (us : List Str) : Prop where
  u : ∀ x, x ∈ us → mg x = none
theorem pass_none {X : Cx} (σ : St) : PassesAt CX0 X σ fun _ _ _ => False := fun _ _ _ _ _ _ h => h.elim
theorem takes_none {X : Cx} : L2N.Takes X fun _ _ _ _ => False := fun _ _ ⟨_, _, _, _, _, _, _, _, _, _, _, _, _, _, _, _, w⟩ => w.elim
theorem pass_noneN {X : Cx} (σ : St) : PassesAt (L2N.CX X.prog X.w) X σ fun _ _ _ => False := fun _ _ _ _ _ _ ⟨_, _, _, _, _, _, _, _, _, _, _, _, h⟩ => h.elim
section
variable {X : Cx} {CX : CXT} {j k n : Nat} {x : Str} {st : Stmt} {ps ks : List Str} {sp : Sp} {E : St → XK} {np pos : Pos} {e : Expr} {es : List Expr} {kws : List Keyword} {t tk : TA} {g : List Value → List Value → List Value} {gV : List V → List V → List V}
theorem pe_o (O : Ok X.prog X.w X.K X.mg X.base CX0 k x st ps sp) (hr : Room k X.A) (hg : Gl X x) (ha : PA X (e :: es) t) (hdb : (x == ("__debug__" : Str)) = false := by decide)
    (he : starEach (e :: es) X.env = (false, eval e X.env) :: starEach es X.env := by rfl) (hpl : (backTo pos (starEach es X.env)).any (·.1) = false := by rfl) : PE X (.Call (.Name x np) (e :: es) [] pos) (tCallS sp (fun _ => noE) t) := by
  obtain ⟨f, fd, gm, F, b, o⟩ := O.ex
  exact pe_callS o hr hg gm F.kp b pass_none ha hdb he hpl
theorem pe_oS (O : Ok X.prog X.w X.K X.mg X.base CX k x st ps sp) (hr : Room k X.A) (hg : Gl X x) (hx : ∀ σ, PassesAt CX X σ (E σ)) (ha : PA X (e :: es) t) (hdb : (x == ("__debug__" : Str)) = false := by decide)
    (he : starEach (e :: es) X.env = (false, eval e X.env) :: starEach es X.env := by rfl) (hpl : (backTo pos (starEach es X.env)).any (·.1) = false := by rfl) : PE X (.Call (.Name x np) (e :: es) [] pos) (tCallS sp E t) := by
  obtain ⟨f, fd, gm, F, b, o⟩ := O.ex
  exact pe_callS o hr hg gm F.kp b hx ha hdb he hpl
theorem pe_oG (O : OkG X.prog X.w X.K X.mg X.base k x st ps sp) (hgd : X.A.guards = some []) (hr : Room k X.A) (hg : Gl X x) (ha : PA X (e :: es) t) (hdb : (x == ("__debug__" : Str)) = false := by decide)
    (he : starEach (e :: es) X.env = (false, eval e X.env) :: starEach es X.env := by rfl) (hpl : (backTo pos (starEach es X.env)).any (·.1) = false := by rfl) : PE X (.Call (.Name x np) (e :: es) [] pos) (tCall sp [] noE t) := by
  obtain ⟨f, fd, gm, F, b, o⟩ := O.ex
  exact pe_callG o hgd hr hg gm F.kp b ha hdb he hpl
/-- f(k = v, ..) -/
theorem pe_oK0 (O : Ok X.prog X.w X.K X.mg X.base CX k x st ps sp) (hr : Room k X.A) (hg : Gl X x) (hb : ∀ f fd, Fd X.K x st f fd → KBn X.K fd ps 0 ks g gV) (hx : ∀ σ, PassesAt CX X σ (E σ)) (hkw : PK X kws tk)
    (hall : (backToKw pos (keywordEach kws X.env)).all (·.1.isSome) = true := by rfl) (hks : (backToKw pos (keywordEach kws X.env)).filterMap (·.1) = ks := by rfl) (hdb : (x == ("__debug__" : Str)) = false := by decide)
    (hpl : ((backTo pos (starEach [] X.env)).any (·.1) || (backToKw pos (keywordEach kws X.env)).any (·.1.isNone)) = false := by rfl) : PE X (.Call (.Name x np) [] kws pos) (tCallKS 0 ks.length sp gV E tNil tk) := by
  obtain ⟨f, fd, gm, F, b, o⟩ := O.ex
  exact pe_callKS0 o hr hg gm F.kp (hb f fd F) hx hkw hall hks hdb hpl
/-- f(e, .., k = v, ..) -/
theorem pe_oK (O : Ok X.prog X.w X.K X.mg X.base CX k x st ps sp) (hr : Room k X.A) (hg : Gl X x) (hb : ∀ f fd, Fd X.K x st f fd → KBn X.K fd ps n ks g gV) (hx : ∀ σ, PassesAt CX X σ (E σ)) (ha : PA X (e :: es) t) (hkw : PK X kws tk)
    (hall : (backToKw pos (keywordEach kws X.env)).all (·.1.isSome) = true := by rfl) (hks : (backToKw pos (keywordEach kws X.env)).filterMap (·.1) = ks := by rfl) (hdb : (x == ("__debug__" : Str)) = false := by decide)
    (he : starEach (e :: es) X.env = (false, eval e X.env) :: starEach es X.env := by rfl) (hpl : ((backTo pos (starEach (e :: es) X.env)).any (·.1) || (backToKw pos (keywordEach kws X.env)).any (·.1.isNone)) = false := by rfl) :
    PE X (.Call (.Name x np) (e :: es) kws pos) (tCallKS n ks.length sp gV E t tk) := by
  obtain ⟨f, fd, gm, F, b, o⟩ := O.ex
  exact pe_callKS o hr hg gm F.kp (hb f fd F) hx ha hkw hall hks hdb he hpl
end
/-! ### type(x) in (A, B) -/
theorem meta_ty {T : String} (h : T ∈ ["NoneType", "bool", "int", "str", "list", "tuple", "dict"]) (s : Shared) : s.TypeIs (.type T) "type" := by
  simp only [List.mem_cons, List.not_mem_nil, or_false] at h
  rcases h with rfl | rfl | rfl | rfl | rfl | rfl | rfl
  · exact TypeEq.meta_NoneType s
  · exact TypeEq.meta_bool s
  · exact TypeEq.meta_int s
  · exact TypeEq.meta_str s
  · exact TypeEq.meta_list s
  · exact TypeEq.meta_tuple s
  · exact TypeEq.meta_dict s
theorem eqAt_ty {A : Around} {s : Shared} {a b : String} (ha : a ∈ ["NoneType", "bool", "int", "str", "list", "tuple", "dict"]) (hb : b ∈ ["NoneType", "bool", "int", "str", "list", "tuple", "dict"]) : SeqAt.EqAt A s (.type a) (.type b) (decide (a = b)) := fun prog w E Q h => by
  by_cases e : a = b
  · subst e
    rw [decide_eq_true rfl] at h
    exact SeqAt.EqAt.same (.type a) prog w E Q h
  · rw [decide_eq_false e] at h
    have ne : (Value.type a == Value.type b) = false := by rw [ty_beq, decide_eq_false e]
    unfold eqBool
    refine wpAny_holding ?_
    refine wpAny_ite_split (fun hab => absurd hab (by rw [ne]; exact Bool.false_ne_true)) (fun _ => ?_)
    refine wpAny_bind ?_
    exact TypeEq.eq_type_other (fun s' => meta_ty ha s') (fun s' => meta_ty hb s') ne (wpAny_truthy_bool h)
def rInTy (K : PySem.W.Frag) : R2 := fun x y H Q => ∃ (p : Addr) (T : String) (Us : List String), x = .ty T ∧ y = .ref p ∧ SqT K H p (Us.map V.ty) ∧ T ∈ ["NoneType", "bool", "int", "str", "list", "tuple", "dict"] ∧ (∀ U ∈ Us, U ∈ ["NoneType", "bool", "int", "str", "list", "tuple", "dict"]) ∧ Q (.bl (decide (T ∈ Us))) H
theorem vals_ty : ∀ {Us : List String} {its : List Value}, Vals (Us.map V.ty) its → its = Us.map Value.type
  | [], _, .nil => rfl
  | U :: Us, _, .cons r t => by rw [show _ = Value.type U from r, vals_ty t]; rfl
theorem op_inTy {X : Cx} : OpR X (compareOp .In) (rInTy X.K) := by
  intro pins s σ H x y v u Q I rx ry h
  obtain ⟨p, T, Us, rfl, rfl, hp, hT, hU, q⟩ := h
  obtain rfl : v = Value.type T := rx
  obtain rfl : u = Value.ref p := ry
  obtain ⟨its, r, pl, hz⟩ := I.tuple hp
  have e := vals_ty r
  subst e
  refine SeqAt.in_tupleAt (fun w => match w with | .type U => decide (U = T) | _ => false) pl (fun w hw => ?_) ⟨.bl _, H, I, rfl, ?_⟩
  · obtain ⟨U, hm, rfl⟩ := List.mem_map.mp (show w ∈ Us.map Value.type by simpa using hw)
    exact eqAt_ty (hU U hm) hT
  · have : ((Us.map Value.type).toArray.any fun w => match w with | .type U => decide (U = T) | _ => false) = decide (T ∈ Us) := by
      rw [List.any_toArray, List.any_map]
      clear hU r pl hz q hp
      induction Us with
      | nil => rfl
      | cons U Us ih =>
        rw [List.any_cons, ih]
        show (decide (U = T) || decide (T ∈ Us)) = _
        by_cases e : U = T
        · subst e; simp
        · have e2 : ¬ T = U := fun z => e z.symm
          simp [e, e2]
    rw [this]
    exact q
abbrev rTupOf (K : PySem.W.Frag) : List V → Hp → VK → Prop := fun xs H Q => ∃ p ys, xs = [V.ref p] ∧ ((SqL K H p ys ∧ ∀ (l : Addr), H l = none → Q (V.ref l) (upd H l (HO.tup ys))) ∨ SqT K H p ys ∧ Q (V.ref p) H)
abbrev rLstOf (K : PySem.W.Frag) : List V → Hp → VK → Prop := fun xs H Q => ∃ p ys, xs = [.ref p] ∧ (SqL K H p ys ∨ SqT K H p ys) ∧ ∀ l, H l = none → Q (.ref l) (upd H l (.lst ys))
/-! ### small words -/
theorem pss_mono {X : Cx} {st : List Stmt} {t u : TS} (h : PSs X st t) (k : ∀ D σ H, u D σ H → t D σ H) : PSs X st u := ⟨fun pins s σ H D I q => h.run pins s σ H D I (k _ _ _ q)⟩
theorem two_ln {n : Nat} (h : n ≤ 16777216) : n ≤ sizeLine := by
  rw [sizeLine_eq]
  exact h
theorem lt_ln {n : Nat} (h : n < 16777216) : n < sizeLine := by
  rw [sizeLine_eq]
  exact h
theorem upd_grow {H : Hp} {p : Addr} {o : HO} (h : H p = none) : Same H (upd H p o) := fun b u e => by
  rw [upd_ne (ne_of_none e h)]
  exact e
theorem iteB {c : Bool} {A B : Prop} (h1 : c = true → A) (h2 : c = false → B) : if c = true then A else B := by
  cases c with
  | true => exact iteT (h1 rfl)
  | false => exact iteF (h2 rfl)
/-- all but what stands at p is kept -/
def But (p : Addr) (H H' : Hp) : Prop := ∀ b o, b ≠ p → H b = some o → H' b = some o
theorem But.of {p : Addr} {H H' : Hp} (k : Same H H') : But p H H' := fun b o _ e => k b o e
theorem But.trans {p : Addr} {H H1 H2 : Hp} (a : But p H H1) (b : But p H1 H2) : But p H H2 := fun c o hc e => b c o hc (a c o hc e)
theorem But.upd {p : Addr} {H : Hp} {o : HO} : But p H (L2.upd H p o) := fun b u hb e => by
  rw [upd_ne hb]
  exact e
theorem del_mono {p : Addr} {H H' : Hp} (k : Same H H') : Same (del H p) (del H' p) := fun b o e => by
  by_cases z : b = p
  · rw [z, del_same] at e
    cases e
  · rw [del_ne z] at e ⊢
    exact k b o e
theorem del_upd {p : Addr} {H : Hp} {o : HO} : Same (del H p) (L2.upd H p o) := fun b u e => by
  by_cases z : b = p
  · rw [z, del_same] at e
    cases e
  · rw [upd_ne z]
    rwa [del_ne z] at e
theorem del_le {p : Addr} {H : Hp} : Same (del H p) H := fun b o e => by
  by_cases z : b = p
  · rw [z, del_same] at e
    cases e
  · rwa [del_ne z] at e
theorem but_del {p : Addr} {H H' : Hp} (k : But p H H') : Same (del H p) (del H' p) := fun b o e => by
  by_cases z : b = p
  · rw [z, del_same] at e
    cases e
  · rw [del_ne z] at e ⊢
    exact k b o z e
theorem fresh_same {l : Addr} {H H' : Hp} {o : HO} (hl : H l = none) (k : But l (L2.upd H l o) H') : Same H H' := fun b u e => k b u (ne_of_none e hl) (by rw [upd_ne (ne_of_none e hl)]; exact e)
theorem ixAt {K : PySem.W.Frag} {H : Hp} {p : Addr} {xs : List V} {i : Int} {v : V} {Q : VK} (h : H p = some (.lst xs)) (e : atI xs i = some v) (q : Q v H) : rIx K (.ref p) (.int i) H Q :=
  .inl ⟨p, xs, i, v, rfl, rfl, SqL.of h, e, q⟩
theorem ixTup {K : PySem.W.Frag} {H : Hp} {p : Addr} {xs : List V} {i : Int} {v : V} {Q : VK} (h : SqT K H p xs) (e : atI xs i = some v) (q : Q v H) : rIx K (.ref p) (.int i) H Q :=
  .inr (.inl ⟨p, xs, i, v, rfl, rfl, h, e, q⟩)
theorem not_t {b : Bool} (h : (!b) = true) : b = false := by simpa using h
theorem not_f {b : Bool} (h : (!b) = false) : b = true := by simpa using h
theorem rdds_len {H : Hp} : ∀ {xs : List V} {ds : List PyData}, RddAll H xs ds → xs.length = ds.length
  | _, _, .nil => rfl
  | _, _, .cons _ t => congrArg Nat.succ (rdds_len t)
theorem rdds_two {H : Hp} {xs : List V} {a b : PyData} : RddAll H xs [a, b] → ∃ x y, xs = [x, y] ∧ Rdd H x a ∧ Rdd H y b
  | .cons r1 (.cons r2 .nil) => ⟨_, _, rfl, r1, r2⟩
theorem rdds_add {H : Hp} {v : V} {d : PyData} (h : Rdd H v d) : ∀ {xs : List V} {ds : List PyData}, RddAll H xs ds → RddAll H (xs ++ [v]) (ds ++ [d])
  | _, _, .nil => .cons h .nil
  | _, _, .cons r t => .cons r (rdds_add h t)
theorem rdds_get {H : Hp} : ∀ {xs : List V} {ds : List PyData} {i : Nat} {d : PyData}, RddAll H xs ds → ds[i]? = some d → ∃ x, xs[i]? = some x ∧ Rdd H x d
  | _, _, _, _, .nil, e => by simp at e
  | _, _, 0, _, .cons r _, e => by simp at e; subst e; exact ⟨_, rfl, r⟩
  | _, _, i + 1, _, .cons _ t, e => rdds_get (i := i) t (by simpa using e)
theorem rdds_of {H : Hp} : ∀ {xs : List V} {ds : List PyData}, xs.length = ds.length → (∀ (i : Nat) (x : V) (d : PyData), xs[i]? = some x → ds[i]? = some d → Rdd H x d) → RddAll H xs ds
  | [], [], _, _ => .nil
  | x :: xs, d :: ds, l, h => by
    refine .cons (h 0 x d rfl rfl) (rdds_of (by simpa using l) fun i y e h1 h2 => h (i + 1) y e ?_ ?_)
    · rw [List.getElem?_cons_succ]; exact h1
    · rw [List.getElem?_cons_succ]; exact h2
  | [], _ :: _, l, _ => nomatch l
  | _ :: _, [], l, _ => nomatch l
theorem rdds_app {H : Hp} : ∀ {xs ys : List V} {ds es : List PyData}, RddAll H xs ds → RddAll H ys es → RddAll H (xs ++ ys) (ds ++ es)
  | _, _, _, _, .nil, s => s
  | _, _, _, _, .cons r t, s => .cons r (rdds_app t s)
theorem str_eq {a b : Str} (h : a.cps.toList = b.cps.toList) : a = b := by
  cases a; cases b
  simp at h
  rw [h]
theorem same_del {H H' : Hp} {D : Addr} (k : Same H H') (h : H D = none) : Same H (del H' D) := fun b o e => by
  rw [del_ne (ne_of_none e h)]
  exact k b o e
theorem del_new {b p : Addr} {H : Hp} {o u : HO} (hb : H b = some o) (hp : H p = none) : del (upd H p u) b p = some u := by
  rw [del_ne (ne_of_none hb hp).symm]
  exact upd_same
/-- a comprehension over what is walked, its test p, its items as R tells; the new list at D is no part of what R speaks of -/
theorem lc_gen {J : It} {n : Nat} {G : Hp → Prop} {Y : Nat → Hp → V → Hp → Prop} (w : Walk J n G Y) {g : TG} {tt : TT} {te : TE} {vs : List Nat} {σ : St} {H : Hp} {D : Addr} {Qd : Hp → Prop} (p : Nat → Bool) (R : Nat → V → Hp → Prop)
    (Rm : ∀ i y H1 H2, Same H1 H2 → R i y H1 → R i y H2) (hD : H D = none) (hn : n ≤ 16777215) (hG : ∀ H', Same H (del H' D) → G H')
    (he : ∀ i x H1 H2 (K : V → Hp → Prop) (N : Hp → Prop), i < n → Same H (del H1 D) → (∃ o, H1 D = some o) → Y i H1 x H2 → (p i = true → ∀ y H4, Same H1 H4 → R i y (del H4 D) → K y H4) → (p i = false → ∀ H4, Same H1 H4 → N H4) →
      g x (wipe σ vs) H2 fun σ2 H2' => wipe σ2 vs = wipe σ vs ∧ tt σ2 H2' fun b H3 => if b = true then te σ2 H3 K else N H3)
    (q : ∀ (ys : List V) (H' : Hp), Same H (del H' D) → H' D = some (.lst ys) → ys.length = ((List.range n).filter p).length → (∀ (k i : Nat) (y : V), ((List.range n).filter p)[k]? = some i → ys[k]? = some y → R i y (del H' D)) → Qd H') :
    ∃ W : Nat → Nat → Hp → Prop, (∃ m, W 0 m (upd H D (.lst []))) ∧ ∀ i m H, W i m H →
      (J.stop i H ∧ Qd H) ∨ (J.go i H ∧ ∃ Nx : Hp → Prop, (∀ H', Nx H' → ∃ m', m' < m ∧ W (i + 1) m' H') ∧ ∀ x H', J.yld i H x H' → g x (wipe σ vs) H' fun σ2 H2 => wipe σ2 vs = wipe σ vs ∧ tt σ2 H2 fun b H3 =>
        if b = true then te σ2 H3 fun y H4 => ∃ acc, H4 D = some (.lst acc) ∧ acc.length < sizeLine ∧ Nx (upd H4 D (.lst (acc ++ [y]))) else Nx H3) := by
  have step : ∀ i, (List.range (i + 1)).filter p = (List.range i).filter p ++ (if p i = true then [i] else []) := fun i => by
    rw [List.range_succ, List.filter_append]
    by_cases e : p i = true
    · rw [if_pos e, List.filter_cons_of_pos e] <;> rfl
    · rw [if_neg e, List.filter_cons_of_neg e] <;> rfl
  refine lc_it w (fun i H' => Same H (del H' D) ∧ ∃ ys, H' D = some (.lst ys) ∧ ys.length = ((List.range i).filter p).length ∧ ∀ (k j : Nat) (y : V), ((List.range i).filter p)[k]? = some j → ys[k]? = some y → R j y (del H' D)) ?_ (fun i H' _ h => hG H' h.1) ?_ ?_
  · refine ⟨fun b o e => ?_, [], upd_same, rfl, fun k j y h => by simp at h⟩
    rw [del_ne (ne_of_none e hD), upd_ne (ne_of_none e hD)]
    exact e
  · rintro i x H1 H2 hi ⟨k1, ys, h1, l1, r1⟩ hy
    have bound : ((List.range i).filter p).length ≤ i := by
      have := List.length_filter_le p (List.range i)
      rwa [List.length_range] at this
    refine he i x H1 H2 _ _ hi k1 ⟨_, h1⟩ hy (fun e y H4 k4 r4 => ?_) (fun e H4 k4 => ?_)
    · refine ⟨ys, k4 _ _ h1, by rw [l1]; exact lt_ln (by omega), (fun b o z => ?_), _, upd_same, ?_, ?_⟩
      · have z1 := k1 b o z
        have nb : b ≠ D := ne_of_none z hD
        rw [del_ne nb] at z1 ⊢
        rw [upd_ne nb]
        exact k4 _ _ z1
      · rw [step, if_pos e, List.length_append, List.length_append, l1] <;> rfl
      · intro k j y2 hk hy2
        have dd : del (upd H4 D (.lst (ys ++ [y]))) D = del H4 D := by
          funext b
          by_cases nb : b = D
          · rw [nb, del_same, del_same]
          · rw [del_ne nb, del_ne nb, upd_ne nb]
        rw [dd]
        rw [step, if_pos e] at hk
        by_cases c : k < ys.length
        · rw [List.getElem?_append_left (by omega)] at hk
          rw [List.getElem?_append_left c] at hy2
          exact Rm _ _ _ _ (del_mono k4) (r1 k j y2 hk hy2)
        · have lt := (List.getElem?_eq_some_iff.mp hy2).1
          rw [List.length_append] at lt
          have ek : k = ys.length := by
            have : ([y] : List V).length = 1 := rfl
            omega
          subst ek
          rw [List.getElem?_append_right (by omega)] at hk
          rw [List.getElem?_append_right (Nat.le_refl _)] at hy2
          rw [← l1, Nat.sub_self] at hk
          rw [Nat.sub_self] at hy2
          obtain rfl : i = j := by simpa using hk
          obtain rfl : y = y2 := by simpa using hy2
          exact r4
    · refine ⟨(fun b o z => ?_), ys, k4 _ _ h1, ?_, ?_⟩
      · have z1 := k1 b o z
        have nb : b ≠ D := ne_of_none z hD
        rw [del_ne nb] at z1 ⊢
        exact k4 _ _ z1
      · rw [step, if_neg (by rw [e]; exact Bool.false_ne_true), List.append_nil, l1]
      · intro k j y2 hk hy2
        rw [step, if_neg (by rw [e]; exact Bool.false_ne_true), List.append_nil] at hk
        exact Rm _ _ _ _ (del_mono k4) (r1 k j y2 hk hy2)
  · rintro H1 ⟨k1, ys, h1, l1, r1⟩
    exact q ys H1 k1 h1 l1 r1
theorem map_of {F : Nat → V} : ∀ {is : List Nat} {ys : List V}, ys.length = is.length → (∀ (k i : Nat) (y : V), is[k]? = some i → ys[k]? = some y → y = F i) → ys = is.map F
  | [], [], _, _ => rfl
  | i :: is, y :: ys, l, h => by
    have e0 := h 0 i y rfl rfl
    have e1 : ys = is.map F := map_of (by simpa using l) fun k j z h1 h2 => h (k + 1) j z (by rw [List.getElem?_cons_succ]; exact h1) (by rw [List.getElem?_cons_succ]; exact h2)
    rw [e0, e1]
    rfl
  | [], _ :: _, l, _ => nomatch l
  | _ :: _, [], l, _ => nomatch l
/-- what is a list or a tuple, walked -/
def iSeq (K : PySem.W.Frag) (tl : TE) : TI := fun σ H R => tl σ H fun x H1 => ∃ a xs, x = .ref a ∧ (SqL K H1 a xs ∨ SqT K H1 a xs) ∧ ∀ J, Walk J xs.length (fun H => H a = H1 a) (YAt xs) → R J H1
theorem sqL_at {K : PySem.W.Frag} {H H' : Hp} {a : Addr} {xs : List V} (e : H' a = H a) (h : SqL K H a xs) : SqL K H' a xs :=
  h.elim (fun h => .inl (h.elim (fun h => .inl (e.trans h)) fun ⟨o, h⟩ => .inr ⟨o, e.trans h⟩)) fun h => .inr h
theorem sqT_at {K : PySem.W.Frag} {H H' : Hp} {a : Addr} {xs : List V} (e : H' a = H a) (h : SqT K H a xs) : SqT K H' a xs :=
  h.elim (fun h => .inl (h.elim (fun h => .inl (e.trans h)) fun ⟨o, h⟩ => .inr ⟨o, e.trans h⟩)) fun h => .inr h
theorem pi_seq {X : Cx} {tg l : Expr} {tl : TE} (hl : PE X l tl) : PI X tg l (iSeq X.K tl) := by
  refine ⟨fun pins s σ H R I h => ?_⟩
  refine thn (hl.run pins s σ H _ I h) fun v s1 ⟨x, H1, I1, r1, q1⟩ => ?_
  obtain ⟨a, xs, e, hq, q⟩ := q1
  subst e
  cases r1
  rcases hq with hq | hq
  · have q := q (Itl X.K a) (walk_list.mono (fun H e => sqL_at e hq) fun _ _ _ _ _ _ y => y)
    obtain ⟨its, rv, p, hz⟩ := I1.list hq
    refine wpAny_pyIter_list p.isList ?_
    refine ⟨s1.heap.objs.size, [s1.heap.objs.size], _, _, H1, rfl, I1.kept (t' := s1.toks) fun b o e => Heap.get?_push_of_some _ e, turn_list a _, ⟨_, Heap.get?_push_size _ rfl, rfl, rfl⟩, fun b hb => ?_, q⟩
    have e : b = s1.heap.objs.size := by simpa using hb
    subst e
    exact I1.fpOk (Nat.le_refl _) (I1.hok.fresh (Nat.le_refl _))
  · have q := q (Itt X.K a) (walk_tup.mono (fun H e => sqT_at e hq) fun _ _ _ _ _ _ y => y)
    obtain ⟨its, rv, p, hz⟩ := I1.tuple hq
    refine wpAny_pyIter_tuple (show s1.heap.IsTuple a its.toArray from p) ?_
    refine ⟨s1.heap.objs.size, [s1.heap.objs.size], _, _, H1, rfl, I1.kept (t' := s1.toks) fun b o e => Heap.get?_push_of_some _ e, turn_tuple a _, ⟨_, Heap.get?_push_size _ rfl, rfl, rfl⟩, fun b hb => ?_, q⟩
    have e : b = s1.heap.objs.size := by simpa using hb
    subst e
    exact I1.fpOk (Nat.le_refl _) (I1.hok.fresh (Nat.le_refl _))
theorem filt_all (n : Nat) : (List.range n).filter (fun _ => true) = List.range n := by
  rw [List.filter_eq_self]
  exact fun _ _ => rfl
theorem sqL_same {K : PySem.W.Frag} {H H' : Hp} {a : Addr} {xs : List V} (k : Same H H') (h : SqL K H a xs) : SqL K H' a xs := SqL.ext h k
theorem sqT_same {K : PySem.W.Frag} {H H' : Hp} {a : Addr} {xs : List V} (k : Same H H') (h : SqT K H a xs) : SqT K H' a xs := SqT.ext h k
theorem del_sub {H H' : Hp} {D : Addr} (k : Same H (del H' D)) : Same H H' := fun b o e => del_le b o (k b o e)
theorem rel_app {vs zs : List V} {us ws : List Value} (r : Vals vs us) (q : Vals zs ws) : Vals (vs ++ zs) (us ++ ws) := r.append q
end L2

/-! trees: their roads, their walks -/
namespace Tm
abbrev Road := Nat × Nat
/-- the order of two roads -/
def ltR (a b : Road) : Bool := decide (a.1 < b.1) || (decide (a.1 = b.1) && decide (a.2 < b.2))
structure RoadsOk (n : Nat) (rs : List Road) : Prop where
  len : rs.length + 1 = n
  bnd : ∀ r ∈ rs, r.1 < r.2 ∧ r.2 < n
  asc : rs.Pairwise (fun a b => ltR a b = true)
/-- the other end of a road at a house -/
def nb (h : Nat) (r : Road) : Option Nat := if r.1 = h then some r.2 else if r.2 = h then some r.1 else none
def near (rs : List Road) (h : Nat) : List Nat := rs.filterMap (nb h)
theorem near_snoc (rs : List Road) (r : Road) (h : Nat) : near (rs ++ [r]) h = near rs h ++ (nb h r).toList := by
  unfold near
  rw [List.filterMap_append]
  cases e : nb h r with
  | none => simp [e]
  | some x => simp [e]
theorem mem_near {rs : List Road} {h x : Nat} (H : x ∈ near rs h) : (h, x) ∈ rs ∨ (x, h) ∈ rs := by
  obtain ⟨r, hr, e⟩ := List.mem_filterMap.mp H
  unfold nb at e
  obtain ⟨a, b⟩ := r
  by_cases h1 : a = h
  · simp [h1] at e
    subst h1 e
    exact .inl hr
  · by_cases h2 : b = h
    · simp [h1, h2] at e
      subst h2 e
      exact .inr hr
    · simp [h1, h2] at e
theorem near_of {rs : List Road} {h x : Nat} (ne : ∀ r ∈ rs, r.1 < r.2) (H : (h, x) ∈ rs ∨ (x, h) ∈ rs) : x ∈ near rs h := by
  rcases H with H | H
  · exact List.mem_filterMap.mpr ⟨_, H, by simp [nb]⟩
  · have := ne _ H
    refine List.mem_filterMap.mpr ⟨_, H, ?_⟩
    have h1 : ¬ x = h := by
      intro e
      subst e
      exact absurd this (Nat.lt_irrefl _)
    simp [nb, h1]
theorem near_sym {rs : List Road} {h x : Nat} (ne : ∀ r ∈ rs, r.1 < r.2) (H : x ∈ near rs h) : h ∈ near rs x := near_of ne (mem_near H).symm
theorem near_lt {n : Nat} {rs : List Road} (ok : ∀ r ∈ rs, r.1 < r.2 ∧ r.2 < n) {h x : Nat} (H : x ∈ near rs h) : x < n ∧ h < n ∧ x ≠ h := by
  rcases mem_near H with H | H
  · have := ok _ H
    simp only at this
    omega
  · have := ok _ H
    simp only at this
    omega
/-- ascending -/
theorem near_asc {rs : List Road} (ne : ∀ r ∈ rs, r.1 < r.2) (asc : rs.Pairwise (fun a b => ltR a b = true)) (h : Nat) : (near rs h).Pairwise (· < ·) := by
  unfold near
  refine List.Pairwise.filterMap (R := fun a b => ltR a b = true ∧ a.1 < a.2 ∧ b.1 < b.2) (nb h) ?_ ?_
  · rintro ⟨a, b⟩ ⟨c, d⟩ ⟨l, l1, l2⟩ x hx y hy
    simp only [ltR, Bool.or_eq_true, Bool.and_eq_true, decide_eq_true_eq] at l
    simp only at l1 l2
    unfold nb at hx hy
    simp only at hx hy
    split at hx
    · split at hy
      · cases hx; cases hy; omega
      · split at hy
        · cases hx; cases hy; omega
        · cases hy
    · split at hx
      · split at hy
        · cases hx; cases hy; omega
        · split at hy
          · cases hx; cases hy; omega
          · cases hy
      · cases hx
  · exact asc.imp_of_mem fun ha hb e => ⟨e, ne _ ha, ne _ hb⟩
/-! ### the walk over all houses -/
abbrev B := List (Nat × Nat)
def keys (b : B) : List Nat := b.map (·.1)
/-- one neighbour o of h is looked at; the stack's top is its head -/
def visit (bar : Option Nat) (h : Nat) (s : B × List Nat) (o : Nat) : B × List Nat :=
  if some o = bar ∨ o ∈ keys s.1 then s else (s.1 ++ [(o, h)], o :: s.2)
abbrev visits (nr : Nat → List Nat) (bar : Option Nat) (h : Nat) (b : B) (st : List Nat) : B × List Nat := (nr h).foldl (visit bar h) (b, st)
inductive Dfs (nr : Nat → List Nat) (bar : Option Nat) : B → List Nat → B → Prop
  | done {b : B} : Dfs nr bar b [] b
  | step {b : B} {h : Nat} {st : List Nat} {r : B} : Dfs nr bar (visits nr bar h b st).1 (visits nr bar h b st).2 r → Dfs nr bar b (h :: st) r
theorem Dfs.det {nr : Nat → List Nat} {bar : Option Nat} {b : B} {st : List Nat} {r r' : B} (h : Dfs nr bar b st r) : Dfs nr bar b st r' → r = r' := by
  induction h with
  | done => intro k; cases k; rfl
  | step _ ih => intro k; cases k with | step k => exact ih k
/-- what has grown from the start -/
inductive Grown (nr : Nat → List Nat) (bar : Option Nat) (s : Nat) : B → Prop
  | base : Grown nr bar s [(s, s)]
  | grow {b : B} {x p : Nat} : Grown nr bar s b → p ∈ keys b → x ∈ nr p → some x ≠ bar → x ∉ keys b → Grown nr bar s (b ++ [(x, p)])
section
variable {nr : Nat → List Nat} {bar : Option Nat} {s : Nat}
theorem keys_snoc (b : B) (x p : Nat) : keys (b ++ [(x, p)]) = keys b ++ [x] := by simp [keys]
theorem Grown.nodup {b : B} (g : Grown nr bar s b) : (keys b).Nodup := by
  induction g with
  | base => simp [keys]
  | grow _ _ _ _ hx ih =>
    rw [keys_snoc]
    refine List.nodup_append.mpr ⟨ih, by simp, ?_⟩
    intro a ha c hc e
    simp at hc
    subst e hc
    exact hx ha
theorem Grown.start {b : B} (g : Grown nr bar s b) : s ∈ keys b := by
  induction g with
  | base => simp [keys]
  | grow _ _ _ _ _ ih => rw [keys_snoc]; exact List.mem_append_left _ ih
theorem Grown.bound {b : B} {n : Nat} (g : Grown nr bar s b) (hs : s < n) (hn : ∀ h, ∀ x ∈ nr h, x < n) : ∀ x ∈ keys b, x < n := by
  induction g with
  | base => intro x hx; simp [keys] at hx; omega
  | grow _ _ hx _ _ ih =>
    intro y hy
    rw [keys_snoc] at hy
    rcases List.mem_append.mp hy with hy | hy
    · exact ih y hy
    · simp at hy
      subst hy
      exact hn _ _ hx
theorem Grown.nobar {b : B} (g : Grown nr bar s b) (hs : some s ≠ bar) : ∀ x ∈ keys b, some x ≠ bar := by
  induction g with
  | base => intro x hx; simp [keys] at hx; subst hx; exact hs
  | grow _ _ _ hb _ ih =>
    intro y hy
    rw [keys_snoc] at hy
    rcases List.mem_append.mp hy with hy | hy
    · exact ih y hy
    · simp at hy
      subst hy
      exact hb
/-- a list of different numbers below n is no longer than n -/
theorem nodup_len : ∀ {n : Nat} {l : List Nat}, l.Nodup → (∀ x ∈ l, x < n) → l.length ≤ n
  | 0, [], _, _ => Nat.le_refl 0
  | 0, x :: l, _, h => absurd (h x List.mem_cons_self) (Nat.not_lt_zero _)
  | n + 1, l, d, h => by
    by_cases m : n ∈ l
    · have d2 := d.erase n
      have z := nodup_len (n := n) d2 fun x hx => by
        have h1 := h x (List.mem_of_mem_erase hx)
        have h2 : x ≠ n := fun e => by
          subst e
          exact (List.Nodup.mem_erase_iff d).mp hx |>.1 rfl
        omega
      have l1 := List.length_erase_of_mem m
      have l2 := List.length_pos_of_mem m
      omega
    · have z := nodup_len (n := n) d fun x hx => by
        have h1 := h x hx
        have h2 : x ≠ n := fun e => by
          subst e
          exact m hx
        omega
      omega
/-- what the neighbours of h leave -/
theorem visit_grown {h : Nat} : ∀ {os : List Nat} {b : B} {st : List Nat}, Grown nr bar s b → h ∈ keys b → (∀ o ∈ os, o ∈ nr h) →
    Grown nr bar s (os.foldl (visit bar h) (b, st)).1 ∧ (∀ x ∈ keys b, x ∈ keys (os.foldl (visit bar h) (b, st)).1) ∧ (∀ o ∈ os, some o ≠ bar → o ∈ keys (os.foldl (visit bar h) (b, st)).1) ∧
    (∀ x ∈ keys (os.foldl (visit bar h) (b, st)).1, x ∈ keys b ∨ x ∈ (os.foldl (visit bar h) (b, st)).2) ∧ (∀ x ∈ st, x ∈ (os.foldl (visit bar h) (b, st)).2) ∧
    (∀ x ∈ (os.foldl (visit bar h) (b, st)).2, x ∈ st ∨ x ∈ keys (os.foldl (visit bar h) (b, st)).1) ∧
    (os.foldl (visit bar h) (b, st)).1.length + st.length = b.length + (os.foldl (visit bar h) (b, st)).2.length
  | [], b, st, g, hh, ho => ⟨g, fun x hx => hx, (fun o ho => nomatch ho), fun x hx => .inl hx, fun x hx => hx, fun x hx => .inl hx, by simp⟩
  | o :: os, b, st, g, hh, ho => by
    rw [List.foldl_cons]
    by_cases c : some o = bar ∨ o ∈ keys b
    · have e : visit bar h (b, st) o = (b, st) := by simp [visit, c]
      rw [e]
      obtain ⟨h1, h2, h3, h4, h5, h6, h7⟩ := visit_grown (os := os) (st := st) g hh fun x hx => ho x (List.mem_cons_of_mem _ hx)
      refine ⟨h1, h2, fun x hx nb => ?_, h4, h5, h6, h7⟩
      rcases List.mem_cons.mp hx with rfl | hx
      · rcases c with c | c
        · exact absurd c nb
        · exact h2 _ c
      · exact h3 x hx nb
    · have e : visit bar h (b, st) o = (b ++ [(o, h)], o :: st) := by simp [visit, c]
      rw [e]
      have c1 : ¬ some o = bar := fun z => c (.inl z)
      have c2 : ¬ o ∈ keys b := fun z => c (.inr z)
      have g2 : Grown nr bar s (b ++ [(o, h)]) := .grow g hh (ho o List.mem_cons_self) c1 c2
      have up : ∀ x ∈ keys b, x ∈ keys (b ++ [(o, h)]) := fun x hx => by rw [keys_snoc]; exact List.mem_append_left _ hx
      obtain ⟨h1, h2, h3, h4, h5, h6, h7⟩ := visit_grown (os := os) (st := o :: st) g2 (up _ hh) fun x hx => ho x (List.mem_cons_of_mem _ hx)
      have ok : o ∈ keys (b ++ [(o, h)]) := by rw [keys_snoc]; simp
      refine ⟨h1, fun x hx => h2 _ (up _ hx), fun x hx nb => ?_, fun x hx => ?_, fun x hx => h5 x (List.mem_cons_of_mem _ hx), fun x hx => ?_, ?_⟩
      · rcases List.mem_cons.mp hx with rfl | hx
        · exact h2 _ ok
        · exact h3 x hx nb
      · rcases h4 x hx with h | h
        · rw [keys_snoc] at h
          rcases List.mem_append.mp h with h | h
          · exact .inl h
          · simp at h
            subst h
            exact .inr (h5 _ List.mem_cons_self)
        · exact .inr h
      · rcases h6 x hx with h | h
        · rcases List.mem_cons.mp h with rfl | h
          · exact .inr (h2 _ ok)
          · exact .inl h
        · exact .inr h
      · simp only [List.length_append, List.length_cons, List.length_nil] at h7 ⊢
        omega
/-- all neighbours of what is done are there -/
def Closed (nr : Nat → List Nat) (bar : Option Nat) (b : B) (st : List Nat) : Prop := ∀ x ∈ keys b, x ∉ st → ∀ o ∈ nr x, some o ≠ bar → o ∈ keys b
structure Going (nr : Nat → List Nat) (bar : Option Nat) (s : Nat) (b : B) (st : List Nat) : Prop where
  g : Grown nr bar s b
  c : Closed nr bar b st
  sub : ∀ x ∈ st, x ∈ keys b
theorem Going.start : Going nr bar s [(s, s)] [s] := ⟨.base, fun x hx nx => absurd (by simpa [keys] using hx) (by simpa using nx), fun x hx => by simpa [keys] using hx⟩
theorem Going.next {b : B} {h : Nat} {st : List Nat} (G : Going nr bar s b (h :: st)) : Going nr bar s (visits nr bar h b st).1 (visits nr bar h b st).2 ∧
    (visits nr bar h b st).1.length + st.length = b.length + (visits nr bar h b st).2.length := by
  obtain ⟨h1, h2, h3, h4, h5, h6, h7⟩ := visit_grown (os := nr h) (st := st) G.g (G.sub h List.mem_cons_self) fun o ho => ho
  refine ⟨⟨h1, fun x hx nx o ho nb => ?_, fun x hx => ?_⟩, h7⟩
  · rcases h4 x hx with hb | hb
    · by_cases e : x = h
      · subst e
        exact h3 o ho nb
      · refine h2 _ (G.c x hb (fun hm => ?_) o ho nb)
        rcases List.mem_cons.mp hm with rfl | hm
        · exact e rfl
        · exact nx (h5 _ hm)
    · exact absurd hb nx
  · rcases h6 x hx with h | h
    · exact h2 _ (G.sub x (List.mem_cons_of_mem _ h))
    · exact h
theorem Dfs.going {b : B} {st : List Nat} {r : B} (d : Dfs nr bar b st r) (G : Going nr bar s b st) : Going nr bar s r [] := by
  induction d with
  | done => exact G
  | step _ ih => exact ih G.next.1
/-- how many houses are still to be looked at -/
theorem Going.room {b : B} {st : List Nat} {n : Nat} (G : Going nr bar s b st) (hs : s < n) (hn : ∀ h, ∀ x ∈ nr h, x < n) : b.length ≤ n := by
  have z := nodup_len G.g.nodup (G.g.bound hs hn)
  simpa [keys] using z
theorem Dfs.ex {n : Nat} (hs : s < n) (hn : ∀ h, ∀ x ∈ nr h, x < n) : ∀ (k : Nat) {b : B} {st : List Nat}, Going nr bar s b st → st.length + (n - b.length) ≤ k → ∃ r, Dfs nr bar b st r := by
  intro k
  induction k with
  | zero =>
    intro b st G h
    cases st with
    | nil => exact ⟨b, .done⟩
    | cons x st => simp at h
  | succ k ih =>
    intro b st G h
    cases st with
    | nil => exact ⟨b, .done⟩
    | cons x st =>
      obtain ⟨G2, e⟩ := G.next
      have l1 := G2.room hs hn
      have l0 := G.room hs hn
      rw [List.length_cons] at h
      obtain ⟨r, d⟩ := ih G2 (by omega)
      exact ⟨r, .step d⟩
theorem dfs_all {n : Nat} (hs : s < n) (hn : ∀ h, ∀ x ∈ nr h, x < n) : ∃ r, Dfs nr bar [(s, s)] [s] r ∧ Going nr bar s r [] := by
  obtain ⟨r, d⟩ := Dfs.ex hs hn _ (b := [(s, s)]) (st := [s]) .start (Nat.le_refl _)
  exact ⟨r, d, d.going .start⟩
end
end Tm

namespace Tm
/-! ### ways -/
/-- from x upward to the start s -/
inductive Up (b : B) (s : Nat) : Nat → List Nat → Prop
  | here : Up b s s [s]
  | step {x p : Nat} {l : List Nat} : x ≠ s → (x, p) ∈ b → Up b s p l → Up b s x (x :: l)
theorem key_mem {b : B} {x p : Nat} (h : (x, p) ∈ b) : x ∈ keys b := List.mem_map.mpr ⟨_, h, rfl⟩
theorem key_one {b : B} {x p q : Nat} (d : (keys b).Nodup) (h : (x, p) ∈ b) (k : (x, q) ∈ b) : p = q := by
  induction b with
  | nil => cases h
  | cons y b ih =>
    have d' : y.1 ∉ keys b ∧ (keys b).Nodup := by simpa [keys] using d
    rcases List.mem_cons.mp h with h | h
    · rcases List.mem_cons.mp k with k | k
      · rw [← h] at k
        exact (Prod.mk.inj k).2.symm
      · rw [← h] at d'
        exact absurd (key_mem k) d'.1
    · rcases List.mem_cons.mp k with k | k
      · rw [← k] at d'
        exact absurd (key_mem h) d'.1
      · exact ih d'.2 h k
theorem Up.det {b : B} {s x : Nat} {l l' : List Nat} (d : (keys b).Nodup) (h : Up b s x l) : Up b s x l' → l = l' := by
  induction h generalizing l' with
  | here =>
    intro k
    cases k with
    | here => rfl
    | step ne _ _ => exact absurd rfl ne
  | step ne m _ ih =>
    intro k
    cases k with
    | here => exact absurd rfl ne
    | step _ m' k =>
      have e := key_one d m m'
      subst e
      rw [ih k]
theorem Up.mono {b b' : B} {s x : Nat} {l : List Nat} (h : Up b s x l) (k : ∀ y ∈ b, y ∈ b') : Up b' s x l := by
  induction h with
  | here => exact .here
  | step ne m _ ih => exact .step ne (k _ m) ih
/-- y lies next to the one ahead of it -/
def Adj (nr : Nat → List Nat) : List Nat → Prop
  | [] => True
  | [_] => True
  | x :: y :: l => x ∈ nr y ∧ Adj nr (y :: l)
/-- a way from x to y -/
structure Path (nr : Nat → List Nat) (x y : Nat) (l : List Nat) : Prop where
  hd : l.head? = some x
  la : l.getLast? = some y
  nd : l.Nodup
  ad : Adj nr l
section
variable {nr : Nat → List Nat} {bar : Option Nat} {s : Nat}
theorem Grown.up {b : B} (g : Grown nr bar s b) : ∀ x ∈ keys b, ∃ l, Up b s x l ∧ Path nr x s l ∧ ∀ y ∈ l, y ∈ keys b := by
  induction g with
  | base =>
    intro x hx
    simp [keys] at hx
    subst hx
    exact ⟨[x], .here, ⟨rfl, rfl, by simp, True.intro⟩, fun y hy => by simpa [keys] using hy⟩
  | @grow b x p g hp hx nb nk ih =>
    intro z hz
    rw [keys_snoc] at hz
    have mo : ∀ y ∈ b, y ∈ b ++ [(x, p)] := fun y hy => List.mem_append_left _ hy
    have mk : ∀ y ∈ keys b, y ∈ keys (b ++ [(x, p)]) := fun y hy => by rw [keys_snoc]; exact List.mem_append_left _ hy
    rcases List.mem_append.mp hz with hz | hz
    · obtain ⟨l, u, pa, sub⟩ := ih z hz
      exact ⟨l, u.mono mo, pa, fun y hy => mk y (sub y hy)⟩
    · simp at hz
      subst hz
      obtain ⟨l, u, pa, sub⟩ := ih p hp
      have ns : z ≠ s := fun e => by
        subst e
        exact nk g.start
      refine ⟨z :: l, .step ns (by simp) (u.mono mo), ⟨rfl, ?_, ?_, ?_⟩, fun y hy => ?_⟩
      · have h1 := pa.hd
        cases l with
        | nil => cases h1
        | cons a l =>
          rw [List.getLast?_cons_cons]
          exact pa.la
      · exact List.nodup_cons.mpr ⟨fun m => nk (sub _ m), pa.nd⟩
      · have h1 := pa.hd
        cases l with
        | nil => cases h1
        | cons a l =>
          simp at h1
          subst h1
          exact ⟨hx, pa.ad⟩
      · rcases List.mem_cons.mp hy with rfl | hy
        · rw [keys_snoc]
          simp
        · exact mk y (sub y hy)
end
/-! ### a tree's roads are the steps of its walk -/
theorem erase_sub {α : Type} [DecidableEq α] : ∀ {l m : List α}, l.Nodup → (∀ x ∈ l, x ∈ m) → m.length ≤ l.length → ∀ x ∈ m, x ∈ l
  | [], m, _, _, h, x, hx => by
    cases m with
    | nil => cases hx
    | cons y m => simp at h
  | a :: l, m, d, s, h, x, hx => by
    have d' := List.nodup_cons.mp d
    have ha := s a List.mem_cons_self
    by_cases e : x = a
    · subst e
      exact List.mem_cons_self
    · refine List.mem_cons_of_mem _ (erase_sub (m := m.erase a) d'.2 (fun y hy => ?_) ?_ x ?_)
      · have ne : y ≠ a := fun q => by
          subst q
          exact d'.1 hy
        exact (List.mem_erase_of_ne ne).mpr (s y (List.mem_cons_of_mem _ hy))
      · have l1 := List.length_erase_of_mem ha
        rw [List.length_cons] at h
        omega
      · exact (List.mem_erase_of_ne e).mpr hx
/-- the road between two -/
def mkR (x p : Nat) : Road := (min x p, max x p)
/-- the steps upward, the first left out -/
def stepsR (b : B) : List Road := b.tail.map fun y => mkR y.1 y.2
/-- its place in the walk -/
def idx (b : B) (x : Nat) : Nat := (keys b).findIdx (· == x)
theorem idx_snoc_old {b : B} {x p y : Nat} (h : y ∈ keys b) : idx (b ++ [(x, p)]) y = idx b y := by
  unfold idx
  rw [keys_snoc, List.findIdx_append]
  have : (keys b).findIdx (· == y) < (keys b).length := List.findIdx_lt_length_of_exists ⟨y, h, by simp⟩
  simp [this]
theorem idx_lt {b : B} {y : Nat} (h : y ∈ keys b) : idx b y < (keys b).length := List.findIdx_lt_length_of_exists ⟨y, h, by simp⟩
theorem idx_snoc_new {b : B} {x p : Nat} (h : x ∉ keys b) : idx (b ++ [(x, p)]) x = (keys b).length := by
  unfold idx
  rw [keys_snoc, List.findIdx_append]
  have e : (keys b).findIdx (· == x) = (keys b).length := by
    rw [List.findIdx_eq_length]
    intro y hy
    simp
    intro e
    subst e
    exact h hy
  simp [e]
section
variable {nr : Nat → List Nat} {bar : Option Nat} {s : Nat}
theorem Grown.tail {b : B} (g : Grown nr bar s b) : ∃ t, b = (s, s) :: t := by
  induction g with
  | base => exact ⟨[], rfl⟩
  | grow _ _ _ _ _ ih =>
    obtain ⟨t, e⟩ := ih
    subst e
    exact ⟨t ++ [_], rfl⟩
theorem Grown.par {b : B} (g : Grown nr bar s b) : ∀ y ∈ b.tail, y.2 ∈ keys b ∧ y.1 ∈ nr y.2 ∧ idx b y.2 < idx b y.1 ∧ y.1 ≠ s := by
  induction g with
  | base => intro y hy; cases hy
  | @grow b x p g hp hx nb nk ih =>
    obtain ⟨t, e⟩ := g.tail
    intro y hy
    have hy : y ∈ b.tail ++ [(x, p)] := by
      subst e
      exact hy
    rcases List.mem_append.mp hy with hy | hy
    · obtain ⟨h1, h2, h3, h4⟩ := ih y hy
      have k : y.1 ∈ keys b := List.mem_map.mpr ⟨y, by subst e; exact List.mem_cons_of_mem _ hy, rfl⟩
      refine ⟨by rw [keys_snoc]; exact List.mem_append_left _ h1, h2, ?_, h4⟩
      rw [idx_snoc_old h1, idx_snoc_old k]
      exact h3
    · simp at hy
      subst hy
      refine ⟨by rw [keys_snoc]; exact List.mem_append_left _ hp, hx, ?_, fun e => nk (by rw [show x = s from e]; exact g.start)⟩
      rw [idx_snoc_old hp, idx_snoc_new nk]
      exact idx_lt hp
theorem mem_tail {b : B} {x p : Nat} (g : Grown nr bar s b) (h : (x, p) ∈ b) (ne : x ≠ s) : (x, p) ∈ b.tail := by
  obtain ⟨t, e⟩ := g.tail
  subst e
  rcases List.mem_cons.mp h with h | h
  · cases h
    exact absurd rfl ne
  · exact h
end
/-- whatever tree: its roads are steps -/
theorem roads_steps {n : Nat} {rs : List Road} {b : B} (ok : RoadsOk n rs) (g : Grown (near rs) none 0 b) (all : b.length = n) : ∀ r ∈ rs, (r.1, r.2) ∈ b.tail ∨ (r.2, r.1) ∈ b.tail := by
  have ne : ∀ r ∈ rs, r.1 < r.2 := fun r hr => (ok.bnd r hr).1
  obtain ⟨t, e⟩ := g.tail
  have lt : t.length + 1 = n := by
    rw [e] at all
    simpa using all
  have sub : ∀ r ∈ stepsR b, r ∈ rs := by
    intro r hr
    obtain ⟨y, hy, rfl⟩ := List.mem_map.mp hr
    obtain ⟨h1, h2, h3, h4⟩ := g.par y hy
    unfold mkR
    rcases mem_near h2 with h | h
    · have z := ne _ h
      simp only at z
      rw [Nat.min_eq_right (by omega), Nat.max_eq_left (by omega)]
      exact h
    · have z := ne _ h
      simp only at z
      rw [Nat.min_eq_left (by omega), Nat.max_eq_right (by omega)]
      exact h
  have nd : (stepsR b).Nodup := by
    have d := g.nodup
    have dt : (b.tail.map (·.1)).Nodup := by
      subst e
      have : (0 :: t.map (·.1)).Nodup := d
      exact (List.nodup_cons.mp this).2
    unfold stepsR
    refine List.pairwise_map.mpr ?_
    have d2 := List.pairwise_map.mp dt
    refine d2.imp_of_mem fun {y z} hy hz hne q => ?_
    have p1 := g.par y hy
    have p2 := g.par z hz
    unfold mkR at q
    have q1 := (Prod.mk.inj q).1
    have q2 := (Prod.mk.inj q).2
    have : y.1 = z.2 ∧ y.2 = z.1 := by omega
    rw [this.1, this.2] at p1
    omega
  have back := erase_sub nd sub (by unfold stepsR; rw [List.length_map, e]; show rs.length ≤ t.length; have := ok.len; omega)
  intro r hr
  obtain ⟨y, hy, q⟩ := List.mem_map.mp (back r hr)
  have l := ne r hr
  unfold mkR at q
  have q1 : min y.1 y.2 = r.1 := congrArg Prod.fst q
  have q2 : max y.1 y.2 = r.2 := congrArg Prod.snd q
  obtain ⟨y1, y2⟩ := y
  simp only at q1 q2
  by_cases c : y1 ≤ y2
  · have e1 : y1 = r.1 := by omega
    have e2 : y2 = r.2 := by omega
    subst e1 e2
    exact .inl hy
  · have e1 : y1 = r.2 := by omega
    have e2 : y2 = r.1 := by omega
    subst e1 e2
    exact .inr hy
end Tm

namespace Tm
/-! ### there is just one way -/
structure Rooted (n : Nat) (nr : Nat → List Nat) (b : B) : Prop where
  g : Grown nr none 0 b
  st : ∀ x y, x ∈ nr y → (x, y) ∈ b.tail ∨ (y, x) ∈ b.tail
  sym : ∀ x y, x ∈ nr y → y ∈ nr x
  all : ∀ x, x < n → x ∈ keys b
  lt : ∀ x y, x ∈ nr y → x < n
  nr0 : 0 < n
section
variable {n : Nat} {nr : Nat → List Nat} {b : B}
theorem par_one (R : Rooted n nr b) {x p q : Nat} (h : (x, p) ∈ b.tail) (k : (x, q) ∈ b.tail) : p = q :=
  key_one R.g.nodup (List.mem_of_mem_tail h) (List.mem_of_mem_tail k)
theorem idx_inj {x y : Nat} (hx : x ∈ keys b) (hy : y ∈ keys b) (e : idx b x = idx b y) : x = y := by
  have h1 := idx_lt hx
  have h2 := idx_lt hy
  have e1 : (keys b)[idx b x] = x := by
    exact beq_iff_eq.mp (List.findIdx_getElem (xs := keys b) (p := (· == x)) (w := h1))
  have e2 : (keys b)[idx b y] = y := by
    exact beq_iff_eq.mp (List.findIdx_getElem (xs := keys b) (p := (· == y)) (w := h2))
  rw [← e1, ← e2]
  simp [e]
theorem climb (R : Rooted n nr b) : ∀ {x z y : Nat} {l : List Nat}, (x :: z :: l).Nodup → Adj nr (x :: z :: l) → (x :: z :: l).getLast? = some y → (z, x) ∈ b.tail → idx b x < idx b y
  | x, z, y, [], _, _, la, h => by
    simp at la
    subst la
    exact (R.g.par _ h).2.2.1
  | x, z, y, w :: l, nd, ad, la, h => by
    have h1 := (R.g.par _ h).2.2.1
    simp only at h1
    have ad2 : z ∈ nr w ∧ Adj nr (w :: l) := ad.2
    rcases R.st z w ad2.1 with k | k
    · have e := par_one R h k
      subst e
      have := List.nodup_cons.mp nd
      exact absurd (by simp) this.1
    · have i := climb R (List.nodup_cons.mp nd).2 ad.2 (by rw [← la]; exact List.getLast?_cons_cons.symm) k
      omega
theorem path_step (R : Rooted n nr b) {x y : Nat} {l : List Nat} (p : Path nr x y l) (h : idx b y < idx b x) : ∃ z r, l = x :: r ∧ (x, z) ∈ b.tail ∧ Path nr z y r := by
  obtain ⟨hd, la, nd, ad⟩ := p
  match l, hd, la, nd, ad with
  | [a], hd, la, nd, ad =>
    simp at hd la
    subst hd la
    exact absurd h (Nat.lt_irrefl _)
  | a :: z :: r, hd, la, nd, ad =>
    simp at hd
    subst hd
    rcases R.st a z ad.1 with k | k
    · exact ⟨z, z :: r, rfl, k, ⟨rfl, by rw [← la, List.getLast?_cons_cons], (List.nodup_cons.mp nd).2, ad.2⟩⟩
    · have := climb R nd ad la k
      omega
theorem adj_split : ∀ {p : List Nat} {m : Nat} {q : List Nat}, Adj nr (p ++ m :: q) ↔ Adj nr (p ++ [m]) ∧ Adj nr (m :: q)
  | [], m, q => by simp [Adj]
  | [a], m, q => by simp [Adj]
  | a :: c :: p, m, q => by
    have i := adj_split (p := c :: p) (m := m) (q := q)
    simp only [List.cons_append] at i ⊢
    show (a ∈ nr c ∧ Adj nr (c :: (p ++ m :: q))) ↔ (a ∈ nr c ∧ Adj nr (c :: (p ++ [m]))) ∧ _
    rw [i]
    constructor
    · rintro ⟨h1, h2, h3⟩; exact ⟨⟨h1, h2⟩, h3⟩
    · rintro ⟨⟨h1, h2⟩, h3⟩; exact ⟨h1, h2, h3⟩
theorem adj_rev (sym : ∀ x y, x ∈ nr y → y ∈ nr x) : ∀ {l : List Nat}, Adj nr l → Adj nr l.reverse
  | [], _ => True.intro
  | [a], _ => True.intro
  | a :: c :: l, h => by
    have i := adj_rev sym h.2
    rw [List.reverse_cons] at i
    rw [List.reverse_cons, List.reverse_cons, List.append_assoc]
    show Adj nr (l.reverse ++ c :: [a])
    exact adj_split.mpr ⟨i, sym _ _ h.1, True.intro⟩
theorem Path.rev (sym : ∀ x y, x ∈ nr y → y ∈ nr x) {x y : Nat} {l : List Nat} (p : Path nr x y l) : Path nr y x l.reverse where
  hd := by rw [List.head?_reverse]; exact p.la
  la := by rw [List.getLast?_reverse]; exact p.hd
  nd := List.pairwise_reverse.mpr (p.nd.imp fun h e => h e.symm)
  ad := adj_rev sym p.ad
theorem path_one (R : Rooted n nr b) : ∀ (k : Nat) {x y : Nat} {l l' : List Nat}, x < n → y < n → l.length ≤ k → Path nr x y l → Path nr x y l' → l = l' := by
  intro k
  induction k with
  | zero =>
    intro x y l l' hx hy hk p p'
    have h := p.hd
    cases l with
    | nil => cases h
    | cons a l => simp at hk
  | succ k ih =>
    intro x y l l' hx hy hk p p'
    rcases Nat.lt_trichotomy (idx b x) (idx b y) with c | c | c
    · obtain ⟨z, r, e, hz, q⟩ := path_step R (p.rev R.sym) c
      obtain ⟨z', r', e', hz', q'⟩ := path_step R (p'.rev R.sym) c
      have ez := par_one R hz hz'
      subst ez
      have l1 : l.length = r.length + 1 := by rw [← List.length_reverse, e, List.length_cons]
      have zn : z < n := R.lt _ _ (R.sym _ _ (R.g.par _ hz).2.1)
      have i := ih zn hx (by omega) q q'
      rw [← List.reverse_reverse l, ← List.reverse_reverse l', e, e', i]
    · have e := idx_inj (R.all x hx) (R.all y hy) c
      subst e
      have one : ∀ {l : List Nat}, Path nr x x l → l = [x] := by
        intro l p
        obtain ⟨hd, la, nd, ad⟩ := p
        match l, hd, la, nd with
        | [a], hd, la, nd => simp at hd; rw [hd]
        | a :: c :: r, hd, la, nd =>
          simp at hd
          subst hd
          rw [List.getLast?_cons_cons] at la
          exact absurd (List.mem_of_getLast? la) (List.nodup_cons.mp nd).1
      rw [one p, one p']
    · obtain ⟨z, r, e, hz, q⟩ := path_step R p c
      obtain ⟨z', r', e', hz', q'⟩ := path_step R p' c
      have ez := par_one R hz hz'
      subst ez
      have zn : z < n := R.lt _ _ (R.sym _ _ (R.g.par _ hz).2.1)
      have i := ih zn hy (by rw [e, List.length_cons] at hk; omega) q q'
      rw [e, e', i]
theorem Path.uniq (R : Rooted n nr b) {x y : Nat} {l l' : List Nat} (hx : x < n) (hy : y < n) (p : Path nr x y l) (p' : Path nr x y l') : l = l' := path_one R _ hx hy (Nat.le_refl _) p p'
theorem last_app (p : List Nat) (m : Nat) (q : List Nat) : (p ++ m :: q).getLast? = (m :: q).getLast? := by
  rw [List.getLast?_append]
  cases e : (m :: q).getLast? with
  | none => simp at e
  | some x => rfl
/-- the first of m that is in l -/
theorem first_split (l : List Nat) : ∀ {m : List Nat}, (∃ x ∈ m, x ∈ l) → ∃ p x q, m = p ++ x :: q ∧ x ∈ l ∧ ∀ y ∈ p, y ∉ l
  | [], ⟨x, hx, _⟩ => nomatch hx
  | a :: m, ⟨x, hx, k⟩ => by
    by_cases c : a ∈ l
    · exact ⟨[], a, m, rfl, c, fun y hy => nomatch hy⟩
    · rcases List.mem_cons.mp hx with rfl | hx
      · exact absurd k c
      · obtain ⟨p, x2, q, e, h1, h2⟩ := first_split l (m := m) ⟨x, hx, k⟩
        refine ⟨a :: p, x2, q, by rw [e]; rfl, h1, fun y hy => ?_⟩
        rcases List.mem_cons.mp hy with rfl | hy
        · exact c
        · exact h2 y hy
theorem foot_eq (R : Rooted n nr b) {u v c : Nat} {L M1 M2 : List Nat} (hv : v < n) (hc : c < n) (pL : Path nr u v L) (p1 : Path nr c u M1) (p2 : Path nr c v M2) :
    ∃ m, (M1.filter fun h => decide (h ∈ L)).head? = some m ∧ (L.filter fun h => decide (h ∈ M1) && decide (h ∈ M2)).head? = some m ∧ m ∈ L := by
  have uL : u ∈ L := List.mem_of_mem_head? pL.hd
  have uM : u ∈ M1 := List.mem_of_getLast? p1.la
  obtain ⟨p, m, q, e1, hm, hp⟩ := first_split L ⟨u, uM, uL⟩
  obtain ⟨p', q', e2⟩ := List.append_of_mem hm
  have ndL := pL.nd
  have nd1 := p1.nd
  rw [e2] at ndL
  rw [e1] at nd1
  have N : Path nr c v (p ++ m :: q') := by
    refine ⟨?_, ?_, ?_, ?_⟩
    · have h := p1.hd
      rw [e1] at h
      cases p with
      | nil => exact h
      | cons a p => exact h
    · have h := pL.la
      rw [e2, last_app] at h
      rw [last_app]
      exact h
    · refine List.nodup_append.mpr ⟨(List.nodup_append.mp nd1).1, (List.nodup_append.mp ndL).2.1, fun a ha d hd e => ?_⟩
      subst e
      refine hp a ha ?_
      rw [e2]
      exact List.mem_append_right _ hd
    · have a1 := p1.ad
      have a2 := pL.ad
      rw [e1] at a1
      rw [e2] at a2
      exact adj_split.mpr ⟨(adj_split.mp a1).1, (adj_split.mp a2).2⟩
  have e3 := p2.uniq R hc hv N
  refine ⟨m, ?_, ?_, hm⟩
  · rw [e1, List.filter_append]
    have z : p.filter (fun h => decide (h ∈ L)) = [] := List.filter_eq_nil_iff.mpr fun y hy => by simpa using hp y hy
    rw [z, List.nil_append, List.filter_cons_of_pos (by simpa using hm)]
    rfl
  · have key : ∀ y ∈ p', y ∉ M2 := by
      intro y hy hm2
      rw [e3] at hm2
      rcases List.mem_append.mp hm2 with k | k
      · exact hp y k (by rw [e2]; exact List.mem_append_left _ hy)
      · exact (List.nodup_append.mp ndL).2.2 y hy y k rfl
    have m1 : m ∈ M1 := by rw [e1]; simp
    have m2 : m ∈ M2 := by rw [e3]; simp
    conv => lhs; rw [e2]
    rw [List.filter_append]
    have z : p'.filter (fun h => decide (h ∈ M1) && decide (h ∈ M2)) = [] := List.filter_eq_nil_iff.mpr fun y hy => by
      have := key y hy
      simp [this]
    rw [z, List.nil_append, List.filter_cons_of_pos (by simp [m1, m2])]
    rfl
end
/-- all houses are joined -/
def Joined (n : Nat) (rs : List Road) : Prop := ∃ b, Dfs (near rs) none [(0, 0)] [0] b ∧ b.length = n
theorem all_keys {n : Nat} {l : List Nat} (d : l.Nodup) (h : ∀ x ∈ l, x < n) (e : l.length = n) : ∀ x, x < n → x ∈ l := by
  intro x hx
  refine erase_sub (m := List.range n) d (fun y hy => List.mem_range.mpr (h y hy)) (by rw [List.length_range, e]; exact Nat.le_refl n) x (List.mem_range.mpr hx)
theorem rooted {n : Nat} {rs : List Road} (ok : RoadsOk n rs) (j : Joined n rs) : ∃ b, Rooted n (near rs) b := by
  obtain ⟨b, d, e⟩ := j
  have G := d.going .start
  have n0 : 0 < n := by have := ok.len; omega
  have lt : ∀ h, ∀ x ∈ near rs h, x < n := fun h x hx => (near_lt ok.bnd hx).1
  refine ⟨b, G.g, fun x y hx => ?_, fun x y => near_sym fun r hr => (ok.bnd r hr).1, fun x hx => ?_, fun x y hx => (near_lt ok.bnd hx).1, n0⟩
  · have st := roads_steps ok G.g e
    rcases mem_near hx with h | h
    · exact (st _ h).symm
    · exact st _ h
  · exact all_keys G.g.nodup (G.g.bound n0 lt) (by simpa [keys] using e) x hx
end Tm

namespace Tm
theorem ltR_irr (a : Road) : ltR a a = false := by simp [ltR]
theorem ltR_tri {a b : Road} (h : ltR b a = false) (ne : a ≠ b) : ltR a b = true := by
  obtain ⟨a1, a2⟩ := a
  obtain ⟨b1, b2⟩ := b
  simp only [ltR, Bool.or_eq_false_iff, Bool.and_eq_false_iff, decide_eq_false_iff_not, Bool.or_eq_true, Bool.and_eq_true, decide_eq_true_eq] at h ⊢
  rcases Nat.lt_trichotomy a1 b1 with c | c | c
  · exact .inl c
  · subst c
    rcases Nat.lt_trichotomy a2 b2 with d | d | d
    · exact .inr ⟨rfl, d⟩
    · exact absurd (by rw [d]) ne
    · omega
  · omega
theorem mkR_eq {x y z w : Nat} (h : mkR x y = mkR z w) : (x = z ∧ y = w) ∨ (x = w ∧ y = z) := by
  have h1 : min x y = min z w := congrArg Prod.fst h
  have h2 : max x y = max z w := congrArg Prod.snd h
  omega
theorem mkR_lt {x y : Nat} (h : x ≠ y) : (mkR x y).1 < (mkR x y).2 := by
  show min x y < max x y
  omega
theorem mkR_near {rs : List Road} {x y : Nat} (ne : ∀ r ∈ rs, r.1 < r.2) (h : mkR x y ∈ rs) : x ∈ near rs y ∧ y ∈ near rs x := by
  have k : (x, y) ∈ rs ∨ (y, x) ∈ rs := by
    by_cases c : x ≤ y
    · left
      have : mkR x y = (x, y) := by
        unfold mkR
        rw [Nat.min_eq_left c, Nat.max_eq_right c]
      rwa [this] at h
    · right
      have : mkR x y = (y, x) := by
        unfold mkR
        rw [Nat.min_eq_right (by omega), Nat.max_eq_left (by omega)]
      rwa [this] at h
  exact ⟨near_of ne k.symm, near_of ne k⟩
theorem nodup_inj : ∀ {l : List Nat} {i j : Nat}, l.Nodup → (hi : i < l.length) → (hj : j < l.length) → l[i] = l[j] → i = j
  | [], i, _, _, hi, _, _ => absurd hi (Nat.not_lt_zero _)
  | a :: l, 0, 0, _, _, _, _ => rfl
  | a :: l, 0, j + 1, d, hi, hj, e => by
    have d' := List.nodup_cons.mp d
    simp only [List.getElem_cons_zero, List.getElem_cons_succ] at e
    exact absurd (by rw [e]; exact List.getElem_mem _) d'.1
  | a :: l, i + 1, 0, d, hi, hj, e => by
    have d' := List.nodup_cons.mp d
    simp only [List.getElem_cons_zero, List.getElem_cons_succ] at e
    exact absurd (by rw [← e]; exact List.getElem_mem _) d'.1
  | a :: l, i + 1, j + 1, d, hi, hj, e => by
    have d' := List.nodup_cons.mp d
    simp only [List.getElem_cons_succ] at e
    rw [nodup_inj d'.2 (by simpa using hi) (by simpa using hj) e]
/-- a tree out of houses in any order, each joined to one ahead of it -/
theorem tree_of {n : Nat} {ms : List Nat} {js : Nat → Nat} {rs : List Road} (n0 : 0 < n) (hl : ms.length = n) (nd : ms.Nodup) (bd : ∀ x ∈ ms, x < n)
    (hj : ∀ i, i + 1 < n → js (i + 1) ≤ i) (hp : rs.Perm ((List.range (n - 1)).map fun i => mkR (ms.getD (i + 1) 0) (ms.getD (js (i + 1)) 0)))
    (hs : rs.Pairwise fun a b => ltR b a = false) : RoadsOk n rs ∧ Joined n rs := by
  have gd : ∀ i, i < n → ∃ h : i < ms.length, ms.getD i 0 = ms[i] := fun i hi => ⟨by omega, by rw [List.getD_eq_getElem?_getD, List.getElem?_eq_getElem (by omega)]; rfl⟩
  have inj : ∀ i j, i < n → j < n → ms.getD i 0 = ms.getD j 0 → i = j := by
    intro i j hi hj e
    obtain ⟨h1, e1⟩ := gd i hi
    obtain ⟨h2, e2⟩ := gd j hj
    rw [e1, e2] at e
    exact nodup_inj nd h1 h2 e
  have mem : ∀ i, i < n → ms.getD i 0 < n := fun i hi => by
    obtain ⟨h1, e1⟩ := gd i hi
    rw [e1]
    exact bd _ (List.getElem_mem h1)
  have isr : ∀ i, i + 1 < n → mkR (ms.getD (i + 1) 0) (ms.getD (js (i + 1)) 0) ∈ rs := fun i hi =>
    hp.mem_iff.mpr (List.mem_map.mpr ⟨i, List.mem_range.mpr (by omega), rfl⟩)
  have bnd : ∀ r ∈ rs, r.1 < r.2 ∧ r.2 < n := by
    intro r hr
    obtain ⟨i, hi, rfl⟩ := List.mem_map.mp (hp.mem_iff.mp hr)
    have hi := List.mem_range.mp hi
    have j1 := hj i (by omega)
    refine ⟨mkR_lt fun e => ?_, ?_⟩
    · have := inj _ _ (by omega) (by omega) e
      omega
    · have m1 := mem (i + 1) (by omega)
      have m2 := mem (js (i + 1)) (by omega)
      show max _ _ < n
      omega
  have ne : ∀ r ∈ rs, r.1 < r.2 := fun r hr => (bnd r hr).1
  have ndr : rs.Nodup := by
    refine hp.nodup_iff.mpr (List.pairwise_map.mpr ?_)
    refine (List.nodup_range (n := n - 1)).imp_of_mem fun {i k} hi hk hne q => ?_
    have hi := List.mem_range.mp hi
    have hk := List.mem_range.mp hk
    have j1 := hj i (by omega)
    have j2 := hj k (by omega)
    rcases mkR_eq q with ⟨q1, q2⟩ | ⟨q1, q2⟩
    · have := inj _ _ (by omega) (by omega) q1
      omega
    · have e1 := inj _ _ (by omega) (by omega) q1
      have e2 := inj _ _ (by omega) (by omega) q2
      omega
  have ok : RoadsOk n rs := by
    refine ⟨?_, bnd, ?_⟩
    · rw [hp.length_eq, List.length_map, List.length_range]
      omega
    · refine (hs.and ndr).imp fun {a b} h => ltR_tri h.1 h.2
  refine ⟨ok, ?_⟩
  have lt : ∀ h, ∀ x ∈ near rs h, x < n := fun h x hx => (near_lt bnd hx).1
  obtain ⟨b, d, G⟩ := dfs_all (nr := near rs) (bar := none) n0 lt
  refine ⟨b, d, ?_⟩
  have cl : ∀ x y, x ∈ keys b → y ∈ near rs x → y ∈ keys b := fun x y hx hy => G.c x hx (fun z => nomatch z) y hy (fun z => nomatch z)
  have down : ∀ k, k < n → ms.getD k 0 ∈ keys b → ms.getD 0 0 ∈ keys b := by
    intro k
    induction k using Nat.strongRecOn with
    | ind k ih =>
      intro hk h
      cases k with
      | zero => exact h
      | succ k =>
        have j1 := hj k hk
        exact ih _ (by omega) (by omega) (cl _ _ h (mkR_near ne (isr k hk)).2)
  have z0 : ms.getD 0 0 ∈ keys b := by
    have m0 : (0 : Nat) ∈ ms := all_keys nd bd hl 0 n0
    obtain ⟨k, hk, e⟩ := List.mem_iff_getElem.mp m0
    refine down k (by omega) ?_
    rw [(gd k (by omega)).2, e]
    exact G.g.start
  have up : ∀ k, k < n → ms.getD k 0 ∈ keys b := by
    intro k
    induction k using Nat.strongRecOn with
    | ind k ih =>
      intro hk
      cases k with
      | zero => exact z0
      | succ k =>
        have j1 := hj k hk
        exact cl _ _ (ih _ (by omega) (by omega)) (mkR_near ne (isr k hk)).1
  have le := G.room n0 lt
  have ge : ms.length ≤ (keys b).length := by
    by_cases c : ms.length ≤ (keys b).length
    · exact c
    · have sub := erase_sub (l := keys b) (m := ms) G.g.nodup (fun x hx => all_keys nd bd hl x (G.g.bound n0 lt x hx))
      exfalso
      have c2 : ∀ (l m : List Nat), l.Nodup → (∀ x ∈ l, x ∈ m) → l.length ≤ m.length := by
        intro l
        induction l with
        | nil => intro m _ _; exact Nat.zero_le _
        | cons a l ih =>
          intro m d s
          have d' := List.nodup_cons.mp d
          have ha := s a List.mem_cons_self
          have l1 := List.length_erase_of_mem ha
          have l2 := List.length_pos_of_mem ha
          have i := ih (m.erase a) d'.2 fun y hy => (List.mem_erase_of_ne fun q => d'.1 (by rw [← q]; exact hy)).mpr (s y (List.mem_cons_of_mem _ hy))
          rw [List.length_cons]
          omega
      exact c (c2 ms (keys b) nd fun x hx => by
        obtain ⟨k, hk, e⟩ := List.mem_iff_getElem.mp hx
        have := up k (by omega)
        rw [(gd k (by omega)).2, e] at this
        exact this)
  have : (keys b).length = b.length := by simp [keys]
  omega
end Tm

namespace L2
open PySem PySem.Spec PyProof.Rows
/-- the type's name of data -/
def tyd : PyData → String
  | .none => "NoneType"
  | .bool _ => "bool"
  | .int _ => "int"
  | .str _ => "str"
  | .list _ => "list"
  | .tuple _ => "tuple"
  | .dict _ => "dict"
abbrev tys : List String := ["NoneType", "bool", "int", "str", "list", "tuple", "dict"]
theorem tyd_mem (d : PyData) : tyd d ∈ tys := by cases d <;> simp [tyd, tys]
theorem Rdd.tb {K : PySem.W.Frag} {H : Hp} {v : V} {d : PyData} (r : Rdd H v d) : TyB K H v (tyd d) := by
  cases r with
  | non => exact .non
  | bl b => exact .bl b
  | int i => exact .int i
  | str x => exact .str x
  | lst h r => exact .lst (SqL.of h)
  | tup h r => exact .tup (SqT.of h)
  | dK h r1 r2 => exact .dK h
theorem Rdd.tx {K : PySem.W.Frag} {H : Hp} {v : V} {d : PyData} (r : Rdd H v d) : TyX K H v (.type (tyd d)) := by
  cases r with
  | non => exact .base .non
  | bl b => exact .base (.bl b)
  | int i => exact .base (.int i)
  | str x => exact .base (.str x)
  | lst h r => exact .base (.lst h)
  | tup h r => exact .base (.tup h)
  | dK h r1 r2 => exact .base (.dK h)
theorem Rdd.int_of {H : Hp} {v : V} {d : PyData} (r : Rdd H v d) (h : tyd d = "int") : ∃ i, v = .int i ∧ d = .int i := by
  cases r with
  | int i => exact ⟨i, rfl, rfl⟩
  | _ => exact absurd h (by simp [tyd])
theorem Rdd.tup_of {H : Hp} {v : V} {d : PyData} (r : Rdd H v d) (h : tyd d = "tuple") : ∃ p xs ds, v = .ref p ∧ d = .tuple ds ∧ H p = some (.tup xs) ∧ RddAll H xs ds := by
  cases r with
  | tup h1 r => exact ⟨_, _, _, rfl, rfl, h1, r⟩
  | _ => exact absurd h (by simp [tyd])
end L2
namespace K02
open PySem PySem.Spec PyProof.Rows L2
def top (i : Nat) : Stmt := PySem.Challenge.pw_maplost_k02_trees.main.body.getD i (.Pass ⟨0, 0, 0, 0⟩)
/-- the k-th statement of the class at i -/
def cdef (i k : Nat) : Stmt := match top i with
  | .ClassDef _ _ _ b _ _ _ _ _ _ _ => b.getD k (.Pass ⟨0, 0, 0, 0⟩)
  | s => s
abbrev bnames : List Str := ["type", "int", "list", "tuple", "len", "range", "all", "sum", "abs", "sorted", "min", "max", "repr", "isinstance", "bool", "str", "ord", "any"]
abbrev Bl (mg : Str → Option Value) : Prop := Blts mg bnames
abbrev sIsInt : Stmt := top 9
theorem scIsInt : FnScope ["value"] ["value"] (defScope sIsInt) := ⟨rfl, rfl, rfl, by decide +kernel, rfl, by decide +kernel, by decide +kernel⟩
abbrev sIsBelow : Stmt := top 10
theorem scIsBelow : FnScope ["value", "bound"] ["value", "bound"] (defScope sIsBelow) := ⟨rfl, rfl, rfl, by decide +kernel, rfl, by decide +kernel, by decide +kernel⟩
abbrev sIsList : Stmt := top 11
theorem scIsList : FnScope ["value"] ["value"] (defScope sIsList) := ⟨rfl, rfl, rfl, by decide +kernel, rfl, by decide +kernel, by decide +kernel⟩
abbrev sIsTuple : Stmt := top 12
theorem scIsTuple : FnScope ["value", "many"] ["value", "many"] (defScope sIsTuple) := ⟨rfl, rfl, rfl, by decide +kernel, rfl, by decide +kernel, by decide +kernel⟩
def belowD (b : Int) : PyData → Bool
  | .int i => decide (0 ≤ i) && decide (i < b)
  | _ => false
def tupD (n : Nat) : PyData → Bool
  | .tuple ds => decide (ds.length = n)
  | _ => false
def listD (d : PyData) : Bool := decide (tyd d ∈ ["list", "tuple"])
def spIsInt : Sp := fun vs H Q _ => ∃ v d, vs = [v] ∧ Rdd H v d ∧ Q (.bl (decide (tyd d = "int"))) H
def spIsBelow : Sp := fun vs H Q _ => ∃ v d b, vs = [v, .int b] ∧ Rdd H v d ∧ Q (.bl (belowD b d)) H
def spIsList : Sp := fun vs H Q _ => ∃ v d, vs = [v] ∧ Rdd H v d ∧ ∀ H', Same H H' → Q (.bl (listD d)) H'
def spIsTuple : Sp := fun vs H Q _ => ∃ v d n, vs = [v, .int (n : Nat)] ∧ Rdd H v d ∧ (∀ ds, d = .tuple ds → ds.length ≤ 16777216) ∧ Q (.bl (tupD n d)) H
section
variable {P : Program} {w : World} {K : PySem.W.Frag} {mg : Str → Option Value} {base : Heap} {f : Addr} {fd : FuncData}
theorem ok_is_int (F : Fd K "is_int" sIsInt f fd) (g : mg "is_int" = some (.ref f)) (B : Bl mg) : Ok P w K mg base CX0 1 "is_int" sIsInt ["value"] spIsInt := by
  refine ⟨f, fd, g, F, F.bindsN fun _ _ _ _ _ _ us hl => match us, hl with | [_], _ => rfl, F.ok scIsInt (fun vs H Q E h => ?_) (fun cdv A outer s H vs Q E hr h => ?_)⟩
  · obtain ⟨v, d, rfl, _⟩ := h
    rfl
  · refine ⟨_, (pss_one (ps_ret (pe_cmpR op_isTyB (pe_callTy call_type1 (by rfl) (B.u "type" (by decide +kernel)) (by decide +kernel) (pa_cons (pv 0) pa_nil)) (pe_bltn (by rfl) (B.u "int" (by decide +kernel)) (by decide +kernel) (v := .ty "int") rfl) (nomark _)))), ?_⟩
    obtain ⟨v, d, rfl, r, q⟩ := h
    exact ⟨_, rfl, _, _, rfl, r.tb, _, _, rfl, rfl, q⟩
theorem ok_is_below (F : Fd K "is_below" sIsBelow f fd) (g : mg "is_below" = some (.ref f)) (B : Bl mg) : Ok P w K mg base CX0 1 "is_below" sIsBelow ["value", "bound"] spIsBelow := by
  refine ⟨f, fd, g, F, F.bindsN fun _ _ _ _ _ _ us hl => match us, hl with | [_, _], _ => rfl, F.ok scIsBelow (fun vs H Q E h => ?_) (fun cdv A outer s H vs Q E hr h => ?_)⟩
  · obtain ⟨v, d, b, rfl, _⟩ := h
    rfl
  · refine ⟨_, (pss_one (ps_ret (pe_and (pe_cmpR op_isTyB (pe_callTy call_type1 (by rfl) (B.u "type" (by decide +kernel)) (by decide +kernel) (pa_cons (pv 0) pa_nil)) (pe_bltn (by rfl) (B.u "int" (by decide +kernel)) (by decide +kernel) (v := .ty "int") rfl) (nomark _)) (pe_one (pe_chain op_le op_lt pe_int (pv 0) (pv 1)))))), ?_⟩
    obtain ⟨v, d, b, rfl, r, q⟩ := h
    refine ⟨_, rfl, _, _, rfl, r.tb, _, _, rfl, rfl, _, rfl, iteB (fun e => ?_) fun e => ?_⟩
    · obtain ⟨i, rfl, rfl⟩ := r.int_of (of_decide_eq_true e)
      refine ⟨_, rfl, _, _, rfl, rfl, _, rfl, iteB (fun e1 => ⟨_, rfl, _, _, rfl, rfl, ?_⟩) fun e1 => ?_⟩
      · have z : belowD b (.int i) = decide (i < b) := by
          simp [belowD, of_decide_eq_true e1]
        rw [z] at q
        exact q
      · have z : belowD b (.int i) = false := by
          have e2 := of_decide_eq_false e1
          simp only [belowD, decide_eq_false e2, Bool.false_and]
        rw [z] at q
        exact q
    · have e := of_decide_eq_false e
      have z : belowD b d = false := by
        cases d with
        | int i => exact absurd rfl e
        | _ => rfl
      rw [z] at q
      exact q
theorem ok_is_list (F : Fd K "is_list" sIsList f fd) (g : mg "is_list" = some (.ref f)) (B : Bl mg) : Ok P w K mg base CX0 1 "is_list" sIsList ["value"] spIsList := by
  refine ⟨f, fd, g, F, F.bindsN fun _ _ _ _ _ _ us hl => match us, hl with | [_], _ => rfl, F.ok scIsList (fun vs H Q E h => ?_) (fun cdv A outer s H vs Q E hr h => ?_)⟩
  · obtain ⟨v, d, rfl, _⟩ := h
    rfl
  · refine ⟨_, (pss_one (ps_ret (pe_cmpR op_inTy (pe_callTy call_type1 (by rfl) (B.u "type" (by decide +kernel)) (by decide +kernel) (pa_cons (pv 0) pa_nil)) (pe_tup (pa_cons (pe_bltn (by rfl) (B.u "list" (by decide +kernel)) (by decide +kernel) (v := .ty "list") rfl) (pa_cons (pe_bltn (by rfl) (B.u "tuple" (by decide +kernel)) (by decide +kernel) (v := .ty "tuple") rfl) pa_nil))) (by rfl)))), ?_⟩
    obtain ⟨v, d, rfl, r, q⟩ := h
    refine ⟨_, rfl, _, _, rfl, r.tb, two_ln (by decide), fun p hp => ?_⟩
    refine ⟨p, tyd d, ["list", "tuple"], rfl, rfl, SqT.of upd_same, tyd_mem d, by decide, q _ (upd_grow hp)⟩
theorem ok_is_tuple (F : Fd K "is_tuple" sIsTuple f fd) (g : mg "is_tuple" = some (.ref f)) (B : Bl mg) : Ok P w K mg base CX0 1 "is_tuple" sIsTuple ["value", "many"] spIsTuple := by
  refine ⟨f, fd, g, F, F.bindsN fun _ _ _ _ _ _ us hl => match us, hl with | [_, _], _ => rfl, F.ok scIsTuple (fun vs H Q E h => ?_) (fun cdv A outer s H vs Q E hr h => ?_)⟩
  · obtain ⟨v, d, n, rfl, _⟩ := h
    rfl
  · refine ⟨_, (pss_one (ps_ret (pe_and (pe_cmpR op_isTyB (pe_callTy call_type1 (by rfl) (B.u "type" (by decide +kernel)) (by decide +kernel) (pa_cons (pv 0) pa_nil)) (pe_bltn (by rfl) (B.u "tuple" (by decide +kernel)) (by decide +kernel) (v := .ty "tuple") rfl) (nomark _)) (pe_one (pe_cmpR op_eq (pe_callB call_len (by rfl) (B.u "len" (by decide +kernel)) boot_len (pa_cons (pv 0) pa_nil)) (pv 1) (nomark _)))))), ?_⟩
    obtain ⟨v, d, n, rfl, r, ln, q⟩ := h
    refine ⟨_, rfl, _, _, rfl, r.tb, _, _, rfl, rfl, _, rfl, iteB (fun e => ?_) fun e => ?_⟩
    · obtain ⟨p, xs, ds, rfl, rfl, hp, ra⟩ := r.tup_of (of_decide_eq_true e)
      refine ⟨_, rfl, _, _, rfl, .inr ⟨_, SqT.of hp, rfl⟩, _, rfl, rfl, ?_⟩
      have l := rdds_len ra
      have y : decide (V.int (xs.length : Int) = V.int (n : Int)) = tupD n (.tuple ds) := by
        unfold tupD
        apply decide_eq_decide.mpr
        rw [l]
        simp
        omega
      show Q (.bl (decide (V.int (xs.length : Int) = V.int (n : Int)))) H
      rw [y]
      exact q
    · have e := of_decide_eq_false e
      have z : tupD n d = false := by
        cases d with
        | tuple i => exact absurd rfl e
        | _ => rfl
      rw [z] at q
      exact q
end
end K02

namespace K02
open PySem PySem.Spec PyProof.Rows L2
abbrev sIsAsc : Stmt := top 13
theorem scIsAsc : FnScope ["values", "k"] ["values"] (defScope sIsAsc) := ⟨rfl, rfl, rfl, by decide +kernel, rfl, by decide +kernel, by decide +kernel⟩
abbrev sAreRoads : Stmt := top 17
theorem scAreRoads : FnScope ["houses", "value", "road"] ["houses", "value"] (defScope sAreRoads) := ⟨rfl, rfl, rfl, by decide +kernel, rfl, by decide +kernel, by decide +kernel⟩
/-- a road as data -/
def rd (r : Tm.Road) : PyData := .tuple [.int r.1, .int r.2]
/-- the roads of data -/
def isRoads (d : PyData) (rs : List Tm.Road) : Prop := d = .list (rs.map rd) ∨ d = .tuple (rs.map rd)
/-- a row, a list or a tuple, at p -/
def RowAt (H : Hp) (p : Addr) (xs : List V) : Prop := H p = some (.lst xs) ∨ H p = some (.tup xs)
theorem RowAt.sq {K : PySem.W.Frag} {H : Hp} {p : Addr} {xs : List V} (h : RowAt H p xs) : SqL K H p xs ∨ SqT K H p xs := h.imp SqL.of SqT.of
theorem RowAt.len {K : PySem.W.Frag} {H : Hp} {p : Addr} {xs : List V} (h : RowAt H p xs) : LenV K (.ref p) H xs.length := h.elim (fun h => .inl ⟨_, SqL.of h, rfl⟩) fun h => .inr ⟨_, SqT.of h, rfl⟩
theorem RowAt.ix {K : PySem.W.Frag} {H : Hp} {p : Addr} {xs : List V} (h : RowAt H p xs) {i : Int} {v : V} {Q : VK} (e : atI xs i = some v) (q : Q v H) : rIx K (.ref p) (.int i) H Q := by
  rcases h with h | h
  · exact ixAt h e q
  · exact ixTup (SqT.of h) e q
theorem RowAt.mono {H H' : Hp} {p : Addr} {xs : List V} (k : Same H H') (h : RowAt H p xs) : RowAt H' p xs := h.imp (k _ _) (k _ _)
def spIsAsc : Sp := fun vs H Q _ => ∃ (p : Addr) (xs : List V) (rs : List Tm.Road), vs = [.ref p] ∧ RowAt H p xs ∧ RddAll H xs (rs.map rd) ∧ rs.length ≤ 100 ∧
  ∀ b H', Same H H' → (b = true ↔ ∀ k, k + 1 < rs.length → Tm.ltR (rs.getD k (0, 0)) (rs.getD (k + 1) (0, 0)) = true) → Q (.bl b) H'
def spAreRoads : Sp := fun vs H Q _ => ∃ (n : Nat) (v : V) (d : PyData), vs = [.int n, v] ∧ Rdd H v d ∧ Tame d ∧ 1 ≤ n ∧ n ≤ 65 ∧
  ∀ b H', Same H H' → (b = true ↔ ∃ rs, isRoads d rs ∧ Tm.RoadsOk n rs) → Q (.bl b) H'
theorem lexLt2 (a b c d : Int) : HT.lexLt [a, b] [c, d] = (decide (a < c) || (decide (a = c) && decide (b < d))) := by
  rw [HT.lexLt_cons, HT.lexLt_cons, HT.lexLt_nil_nil]
  by_cases e : a = c
  · subst e
    by_cases f : b = d
    · subst f; simp
    · simp [f]
  · simp [e]
theorem ltR_int (a b : Tm.Road) : HT.lexLt [(a.1 : Int), a.2] [(b.1 : Int), b.2] = Tm.ltR a b := by
  rw [lexLt2]
  unfold Tm.ltR
  congr 1
  · apply decide_eq_decide.mpr; omega
  · congr 1 <;> (apply decide_eq_decide.mpr; omega)
section
variable {P : Program} {w : World} {K : PySem.W.Frag} {mg : Str → Option Value} {base : Heap} {f : Addr} {fd : FuncData}
theorem ok_is_ascending (F : Fd K "is_ascending" sIsAsc f fd) (g : mg "is_ascending" = some (.ref f)) (B : Bl mg) : Ok P w K mg base CX0 1 "is_ascending" sIsAsc ["values"] spIsAsc := by
  refine ⟨f, fd, g, F, F.bindsN fun _ _ _ _ _ _ us hl => match us, hl with | [_], _ => rfl, F.ok scIsAsc (fun vs H Q E h => ?_) (fun cdv A outer s H vs Q E hr h => ?_)⟩
  · obtain ⟨p, xs, rs, rfl, _⟩ := h
    rfl
  · refine ⟨_, (pss_one (ps_ret (pe_callB (cr_all rfl) (by rfl) (B.u "all" (by decide +kernel)) (by decide +kernel) (pa_cons (pe_lc (own := [("k", 1)]) (g := gName 1) rfl scIsAsc.nd (pi_range1 (by rfl) (B.u "range" (by decide +kernel)) (pa_cons (pe_op op_sub (pe_callB call_len (by rfl) (B.u "len" (by decide +kernel)) boot_len (pa_cons (pv 0) pa_nil)) pe_int) pa_nil)) (blkOk_by (N := ["values", "k"]) (sc := defScope sIsAsc) (by decide +kernel)) (fun _ _ _ _ _ => (pg_name (i := 1) scIsAsc.nd rfl (Or.inl rfl))) (fun _ _ _ _ _ => pts_nil) (fun _ _ _ _ _ => (pe_cmpR (r := rLtT K) (op_ltT (by exact hr.units0)) (pe_ix (r := rIx K) ix_seq (pv 0) (pv 1) fun _ _ => rfl) (pe_ix (r := rIx K) ix_seq (pv 0) (pe_op op_add (pv 1) pe_int) fun _ _ => rfl) (nomark _)))) pa_nil)))), ?_⟩
    obtain ⟨p, xs, rs, rfl, hp, ra, hl, q⟩ := h
    have l := rdds_len ra
    rw [List.length_map] at l
    have at_ : ∀ k, k < rs.length → ∃ a, xs[k]? = some (.ref a) ∧ H a = some (.tup [.int ((rs.getD k (0, 0)).1 : Nat), .int ((rs.getD k (0, 0)).2 : Nat)]) := by
      intro k hk
      have e : (rs.map rd)[k]? = some (rd (rs.getD k (0, 0))) := by
        rw [List.getElem?_map, List.getElem?_eq_getElem hk, List.getD_eq_getElem?_getD, List.getElem?_eq_getElem hk] <;> rfl
      obtain ⟨x, hx, r⟩ := rdds_get ra e
      unfold rd at r
      cases r with
      | tup h r2 =>
        obtain ⟨y, z, rfl, r3, r4⟩ := rdds_two r2
        cases r3
        cases r4
        exact ⟨_, hx, h⟩
    refine ⟨_, rfl, _, _, rfl, hp.len, _, _, rfl, rfl, _, rfl, by omega, by omega, fun D hD => ?_⟩
    have en : (((xs.length : Nat) : Int) - 1).toNat = rs.length - 1 := by omega
    show ∃ W : Nat → Nat → Hp → Prop, _
    rw [en]
    refine lc_gen walk_range (fun _ => true) (fun i y _ => y = .bl (Tm.ltR (rs.getD i (0, 0)) (rs.getD (i + 1) (0, 0)))) (fun _ _ _ _ _ h => h) hD (by omega) (fun _ _ => True.intro) ?_ ?_
    · rintro i x H1 H2 K1 N1 hi k1 ⟨o, ho⟩ ⟨rfl, rfl⟩ hK _
      obtain ⟨a, xa, ha⟩ := at_ i (by omega)
      obtain ⟨b, xb, hb⟩ := at_ (i + 1) (by omega)
      have e1 : (0 : Int) + i = (i : Nat) := by omega
      have e2 : (0 : Int) + i + 1 = ((i + 1 : Nat) : Int) := by omega
      have k2 := del_sub k1
      refine ⟨rfl, _, rfl, _, rfl, (hp.mono k2).ix (by rw [e1]; exact atI_nat xa) ⟨_, rfl, _, rfl, _, _, rfl, rfl, (hp.mono k2).ix (by rw [e2]; exact atI_nat xb) ?_⟩⟩
      refine ⟨_, _, [((rs.getD i (0, 0)).1 : Int), (rs.getD i (0, 0)).2], [((rs.getD (i + 1) (0, 0)).1 : Int), (rs.getD (i + 1) (0, 0)).2], rfl, rfl, SqT.of (k2 _ _ ha), SqT.of (k2 _ _ hb), ?_⟩
      refine hK rfl _ _ (Same.refl _) ?_
      rw [ltR_int]
    · intro ys H1 k1 h1 l1 r1
      rw [filt_all] at l1 r1
      have e := map_of (F := fun i => V.bl (Tm.ltR (rs.getD i (0, 0)) (rs.getD (i + 1) (0, 0)))) l1 r1
      subst e
      refine ⟨D, (List.range (rs.length - 1)).map fun i => Tm.ltR (rs.getD i (0, 0)) (rs.getD (i + 1) (0, 0)), rfl, ?_, q _ H1 (del_sub k1) ?_⟩
      · rw [List.map_map]
        exact SqL.of h1
      · rw [List.all_map, List.all_eq_true]
        constructor
        · intro h k hk
          exact h k (List.mem_range.mpr (by omega))
        · intro h k hk
          have := List.mem_range.mp hk
          exact h k (by omega)
theorem asc_of {rs : List Tm.Road} (h : ∀ k, k + 1 < rs.length → Tm.ltR (rs.getD k (0, 0)) (rs.getD (k + 1) (0, 0)) = true) : rs.Pairwise fun a b => Tm.ltR a b = true := by
  induction rs with
  | nil => exact .nil
  | cons a rs ih =>
    have i := ih fun k hk => by
      have := h (k + 1) (by rw [List.length_cons]; omega)
      simpa using this
    refine .cons (fun b hb => ?_) i
    cases rs with
    | nil => cases hb
    | cons c rs =>
      have h0 : Tm.ltR a c = true := by
        have := h 0 (by simp)
        simpa using this
      rcases List.mem_cons.mp hb with rfl | hb
      · exact h0
      · have h1 := (List.pairwise_cons.mp i).1 b hb
        simp only [Tm.ltR, Bool.or_eq_true, Bool.and_eq_true, decide_eq_true_eq] at h0 h1 ⊢
        omega
theorem of_asc {rs : List Tm.Road} (h : rs.Pairwise fun a b => Tm.ltR a b = true) : ∀ k, k + 1 < rs.length → Tm.ltR (rs.getD k (0, 0)) (rs.getD (k + 1) (0, 0)) = true := by
  intro k hk
  rw [List.getD_eq_getElem?_getD, List.getD_eq_getElem?_getD, List.getElem?_eq_getElem (by omega), List.getElem?_eq_getElem hk]
  exact List.pairwise_iff_getElem.mp h k (k + 1) (by omega) hk (by omega)

def Good (n : Nat) (d : PyData) : Prop := ∃ u v : Nat, d = rd (u, v) ∧ u < v ∧ v < n
theorem rd_inj {a b : Tm.Road} (h : rd a = rd b) : a = b := by
  unfold rd at h
  obtain ⟨a1, a2⟩ := a
  obtain ⟨b1, b2⟩ := b
  simp at h
  have h1 : a1 = b1 := by omega
  have h2 : a2 = b2 := by omega
  rw [h1, h2]
theorem rds_inj : ∀ {rs qs : List Tm.Road}, rs.map rd = qs.map rd → rs = qs
  | [], [], _ => rfl
  | a :: rs, b :: qs, h => by
    rw [List.map_cons, List.map_cons] at h
    have h1 := (List.cons.inj h).1
    have h2 := (List.cons.inj h).2
    rw [rd_inj h1, rds_inj h2]
  | [], _ :: _, h => nomatch h
  | _ :: _, [], h => nomatch h
theorem goods {n : Nat} : ∀ {ds : List PyData}, (∀ d ∈ ds, Good n d) → ∃ rs : List Tm.Road, ds = rs.map rd ∧ ∀ r ∈ rs, r.1 < r.2 ∧ r.2 < n
  | [], _ => ⟨[], rfl, fun _ z => nomatch z⟩
  | d :: ds, h => by
    obtain ⟨u, v, e, h1, h2⟩ := h d List.mem_cons_self
    obtain ⟨rs, e2, h3⟩ := goods fun x hx => h x (List.mem_cons_of_mem _ hx)
    refine ⟨(u, v) :: rs, by rw [e, e2]; rfl, fun r hr => ?_⟩
    rcases List.mem_cons.mp hr with rfl | hr
    · exact ⟨h1, h2⟩
    · exact h3 r hr
theorem good_of {n : Nat} {ds : List PyData} {rs : List Tm.Road} (e : ds = rs.map rd) (ok : Tm.RoadsOk n rs) : ∀ d ∈ ds, Good n d := fun d hd => by
  rw [e] at hd
  obtain ⟨r, hr, rfl⟩ := List.mem_map.mp hd
  exact ⟨r.1, r.2, rfl, (ok.bnd r hr).1, (ok.bnd r hr).2⟩
theorem isRoads_row {d : PyData} {ds : List PyData} (h : d = .list ds ∨ d = .tuple ds) {rs : List Tm.Road} : isRoads d rs ↔ ds = rs.map rd := by
  unfold isRoads
  rcases h with rfl | rfl <;> simp
theorem row_of {H : Hp} {v : V} {d : PyData} (r : Rdd H v d) (h : listD d = true) : ∃ p xs ds, v = .ref p ∧ RowAt H p xs ∧ RddAll H xs ds ∧ (d = .list ds ∨ d = .tuple ds) := by
  cases r with
  | lst h1 r => exact ⟨_, _, _, rfl, .inl h1, r, .inl rfl⟩
  | tup h1 r => exact ⟨_, _, _, rfl, .inr h1, r, .inr rfl⟩
  | _ => exact absurd h (by simp [listD, tyd])
theorem wtAll_len : ∀ ds : List PyData, 2 * ds.length ≤ wtAll ds
  | [] => Nat.zero_le _
  | d :: ds => by
    have := wtAll_len ds
    simp only [wtAll, List.length_cons]
    omega
theorem wtAll_mem : ∀ {ds : List PyData} {d : PyData}, d ∈ ds → wt d ≤ wtAll ds
  | d :: ds, e, h => by
    simp only [wtAll]
    rcases List.mem_cons.mp h with rfl | h
    · omega
    · have := wtAll_mem h
      omega
theorem tame_len {d : PyData} {ds : List PyData} (t : Tame d) (h : d = .list ds ∨ d = .tuple ds) : ds.length ≤ 500000 ∧ ∀ e ∈ ds, wt e ≤ 1000000 := by
  have w := t.w
  have l := wtAll_len ds
  rcases h with rfl | rfl
  · simp only [wt] at w
    exact ⟨by omega, fun e he => by have := wtAll_mem he; omega⟩
  · simp only [wt] at w
    exact ⟨by omega, fun e he => by have := wtAll_mem he; omega⟩
theorem belowD_nat {n : Nat} {d : PyData} (h : belowD n d = true) : ∃ u : Nat, d = .int u ∧ u < n := by
  cases d with
  | int i =>
    simp only [belowD, Bool.and_eq_true, decide_eq_true_eq] at h
    exact ⟨i.toNat, by rw [Int.toNat_of_nonneg h.1], by omega⟩
  | _ => cases h
theorem belowD_of {n u : Nat} (h : u < n) : belowD n (.int u) = true := by
  simp only [belowD, Bool.and_eq_true, decide_eq_true_eq]
  omega
theorem ok_are_roads (F : Fd K "are_roads" sAreRoads f fd) (g : mg "are_roads" = some (.ref f)) (B : Bl mg) (o_is_list : Ok P w K mg base CX0 1 "is_list" sIsList ["value"] spIsList) (o_is_tuple : Ok P w K mg base CX0 1 "is_tuple" sIsTuple ["value", "many"] spIsTuple)
    (o_is_below : Ok P w K mg base CX0 1 "is_below" sIsBelow ["value", "bound"] spIsBelow) (o_is_ascending : Ok P w K mg base CX0 1 "is_ascending" sIsAsc ["values"] spIsAsc) : Ok P w K mg base CX0 2 "are_roads" sAreRoads ["houses", "value"] spAreRoads := by
  refine ⟨f, fd, g, F, F.bindsN fun _ _ _ _ _ _ us hl => match us, hl with | [_, _], _ => rfl, F.ok scAreRoads (fun vs H Q E h => ?_) (fun cdv A outer s H vs Q E hr h => ?_)⟩
  · obtain ⟨n, v, d, rfl, _⟩ := h
    rfl
  · refine ⟨_, (pss_cons (ps_if (pw_or (pt_not (pt_val (pe_o o_is_list (hr.mono (by decide)) (by rfl) (pa_cons (pv 1) pa_nil)))) (pw_or1 (pt_cmpR op_ne (pe_callB call_len (by rfl) (B.u "len" (by decide +kernel)) boot_len (pa_cons (pv 1) pa_nil)) (pe_op op_sub (pv 0) pe_int) (nomark _)))).pt
        (pss_one (ps_ret pe_bl))
        pss_nil)
      (pss_cons (ps_for (passes_of rfl) rfl (pi_seq (pv 1)) (pg_name (i := 2) scAreRoads.nd rfl (Or.inl rfl))
        (pss_cons (ps_if (pw_or (pt_not (pt_val (pe_o o_is_tuple (hr.mono (by decide)) (by rfl) (pa_cons (pv 2) (pa_cons pe_int pa_nil))))) (pw_or (pt_not (pt_val (pe_o o_is_below (hr.mono (by decide)) (by rfl) (pa_cons (pe_ix ix_seq (pv 2) pe_int fun _ _ => rfl) (pa_cons (pv 0) pa_nil))))) (pw_or1 (pt_not (pt_val (pe_o o_is_below (hr.mono (by decide)) (by rfl) (pa_cons (pe_ix ix_seq (pv 2) pe_int fun _ _ => rfl) (pa_cons (pv 0) pa_nil)))))))).pt
          (pss_one (ps_ret pe_bl))
          pss_nil)
        (pss_one (ps_if (pt_cmpR op_ge (pe_ix ix_seq (pv 2) pe_int fun _ _ => rfl) (pe_ix ix_seq (pv 2) pe_int fun _ _ => rfl) (nomark _))
          (pss_one (ps_ret pe_bl))
          pss_nil))))
      (pss_one (ps_ret (pe_o o_is_ascending (hr.mono (by decide)) (by rfl) (pa_cons (pv 1) pa_nil)))))), ?_⟩
    obtain ⟨n, v, d, rfl, r, t, n1, n2, q⟩ := h
    refine ⟨_, rfl, v, d, rfl, r, fun H1 k1 => ⟨_, rfl, iteB (fun e => iteT ?_) fun e => ?_⟩⟩
    · -- no row
      refine q _ _ k1 ⟨(fun z => nomatch z), fun ⟨rs, hr, ok⟩ => ?_⟩
      have e := not_t e
      rcases hr with rfl | rfl <;> simp [listD, tyd] at e
    have e := not_f e
    obtain ⟨p, xs, ds, rfl, hp, ra, hd⟩ := row_of r e
    have hp1 := hp.mono k1
    have ra1 := ra.mono k1
    have l := rdds_len ra
    obtain ⟨tl, tm⟩ := tame_len t hd
    refine ⟨_, rfl, _, _, rfl, hp1.len, _, rfl, _, _, rfl, rfl, rfl, _, rfl, iteB (fun e2 => ?_) fun e2 => ?_⟩
    · refine q _ _ k1 ⟨(fun z => nomatch z), fun ⟨rs, hr, ok⟩ => ?_⟩
      have e3 := (isRoads_row hd).mp hr
      have e2 := not_t e2
      have e2 := of_decide_eq_false e2
      refine absurd (congrArg V.int ?_) e2
      have := ok.len
      rw [l, e3, List.length_map]
      omega
    have e2 := not_f e2
    have e2 : ((xs.length : Nat) : Int) = (n : Int) - 1 := V.int.inj (of_decide_eq_true e2)
    refine ⟨_, rfl, p, xs, rfl, hp1.sq, fun J w => ?_⟩
    refine for_it w (fun i σ H' => Same H1 H' ∧ (∀ d ∈ ds.take i, Good n d) ∧ ∃ a : Option V, σ = [some (.int n), some (.ref p), a]) ⟨Same.refl _, (fun d hd => by simp at hd), none, rfl⟩ (fun i σ H' _ h => ?_) ?_ ?_
    · rcases hp1 with h1 | h1
      · rw [h1, h.1 _ _ h1]
      · rw [h1, h.1 _ _ h1]
    · rintro i x σ H0 H2 hi ⟨k2, g2, a, rfl⟩ ⟨rfl, hx⟩
      have hdi : i < ds.length := by omega
      obtain ⟨x', hx', rx⟩ := rdds_get (ra1.mono k2) (List.getElem?_eq_getElem hdi)
      rw [hx] at hx'
      obtain rfl : x = x' := Option.some.inj hx'
      have mem : ds[i] ∈ ds := List.getElem_mem hdi
      have bad : ¬ Good n ds[i] → ∀ H', Same H2 H' → Q (.bl false) H' := fun nb H' k => q _ _ (k1.trans (k2.trans k)) ⟨(fun z => nomatch z), fun ⟨rs, hr, ok⟩ => absurd (good_of ((isRoads_row hd).mp hr) ok _ mem) nb⟩
      have tw := tm _ mem
      refine ⟨_, rfl, x, ds[i], 2, rfl, rx, (fun es z => ?_), _, rfl, iteB (fun e3 => iteT ?_) fun e3 => ?_⟩
      · rw [z] at tw
        simp only [wt] at tw
        have := wtAll_len es
        omega
      · refine bad (fun ⟨u, v, z, _⟩ => ?_) _ (Same.refl _)
        rw [z] at e3
        exact absurd e3 (by simp [tupD, rd])
      have e3 := not_f e3
      generalize hdd : ds[i] = di at *
      cases rx with
      | @tup pt ys es h r2 =>
        have le : es.length = 2 := of_decide_eq_true e3
        obtain ⟨d1, d2, rfl⟩ : ∃ d1 d2, es = [d1, d2] := match es, le with
          | [a, b], _ => ⟨a, b, rfl⟩
        obtain ⟨y1, y2, rfl, r1, r3⟩ := rdds_two r2
        have i0 : ∀ {Q : VK}, Q y1 H2 → rIx K (.ref pt) (.int 0) H2 Q := fun z => ixTup (SqT.of h) rfl z
        have i1 : ∀ {Q : VK}, Q y2 H2 → rIx K (.ref pt) (.int 1) H2 Q := fun z => ixTup (SqT.of h) rfl z
        refine ⟨_, rfl, i0 ⟨_, rfl, y1, d1, (n : Int), rfl, r1, _, rfl, iteB (fun e4 => iteT ?_) fun e4 => ?_⟩⟩
        · refine bad (fun ⟨u, v, z, h1, h2⟩ => ?_) _ (Same.refl _)
          simp [rd] at z
          rw [z.1, belowD_of (by omega)] at e4
          cases e4
        refine ⟨_, rfl, i1 ⟨_, rfl, y2, d2, (n : Int), rfl, r3, _, rfl, iteB (fun e5 => ?_) fun e5 => ?_⟩⟩
        · refine bad (fun ⟨u, v, z, h1, h2⟩ => ?_) _ (Same.refl _)
          simp [rd] at z
          rw [z.2, belowD_of (by omega)] at e5
          cases e5
        obtain ⟨u, rfl, hu⟩ := belowD_nat (not_f e4)
        obtain ⟨u2, rfl, hu2⟩ := belowD_nat (not_f e5)
        cases r1
        cases r3
        refine ⟨_, rfl, i0 ⟨_, rfl, i1 ⟨_, _, rfl, rfl, _, rfl, iteB (fun e6 => ?_) fun e6 => ?_⟩⟩⟩
        · refine bad (fun ⟨a, b, z, h1, h2⟩ => ?_) _ (Same.refl _)
          simp [rd] at z
          have := of_decide_eq_true e6
          omega
        · refine ⟨k2, fun d hd' => ?_, _, rfl⟩
          rw [List.take_succ_eq_append_getElem hdi] at hd'
          rcases List.mem_append.mp hd' with hd' | hd'
          · exact g2 d hd'
          · have := of_decide_eq_false e6
            simp at hd'
            subst hd'
            rw [hdd]
            exact ⟨u, u2, rfl, by omega, hu2⟩
      | _ => exact absurd e3 (by simp [tupD])
    · rintro σ H2 ⟨k2, g2, a, rfl⟩
      have e5 : xs.length = ds.length := l
      rw [e5, List.take_length] at g2
      obtain ⟨rs, rfl, hb⟩ := goods g2
      rw [List.length_map] at l
      refine ⟨_, rfl, p, xs, rs, rfl, hp1.mono k2, ra1.mono k2, by omega, fun b H3 k3 hbi => ?_⟩
      refine q b H3 (k1.trans (k2.trans k3)) ?_
      rw [hbi]
      constructor
      · intro h
        exact ⟨rs, (isRoads_row hd).mpr rfl, by omega, hb, asc_of h⟩
      · rintro ⟨qs, hq, ok⟩
        have := rds_inj ((isRoads_row hd).mp hq)
        subst this
        exact of_asc ok.asc
end
end K02

/-! a list of lists, each changed by its place; dicts of whole numbers -/
namespace L2
open PySem PySem.Spec PyProof.Rows
/-- at L: the list of the lists at as, the h-th of them f h -/
structure LL (H : Hp) (L : Addr) (as : List Addr) (f : Nat → List V) : Prop where
  top : H L = some (.lst (as.map V.ref))
  nd : as.Nodup
  nin : L ∉ as
  row : ∀ (h : Nat) (a : Addr), as[h]? = some a → H a = some (.lst (f h))
theorem LL.set {H : Hp} {L : Addr} {as : List Addr} {f : Nat → List V} (S : LL H L as f) {u : Nat} {a : Addr} (ha : as[u]? = some a) (ys : List V) : LL (upd H a (.lst ys)) L as (fun h => if h = u then ys else f h) where
  top := by rw [upd_ne (fun e => S.nin (by rw [e]; exact List.mem_of_getElem? ha))]; exact S.top
  nd := S.nd
  nin := S.nin
  row := fun h b hb => by
    by_cases e : h = u
    · subst e
      rw [ha] at hb
      cases hb
      rw [if_pos rfl, upd_same]
    · rw [if_neg e]
      have ne : b ≠ a := fun z => by
        subst z
        obtain ⟨l1, e1⟩ := List.getElem?_eq_some_iff.mp hb
        obtain ⟨l2, e2⟩ := List.getElem?_eq_some_iff.mp ha
        have nd := List.pairwise_iff_getElem.mp S.nd
        rcases Nat.lt_trichotomy h u with c | c | c
        · exact nd h u l1 l2 c (e1.trans e2.symm)
        · exact e c
        · exact nd u h l2 l1 c (e2.trans e1.symm)
      rw [upd_ne ne]
      exact S.row h b hb
theorem LL.congr {H : Hp} {L : Addr} {as : List Addr} {f g : Nat → List V} (S : LL H L as f) (h : ∀ i, i < as.length → f i = g i) : LL H L as g :=
  ⟨S.top, S.nd, S.nin, fun i a ha => by rw [← h i (List.getElem?_eq_some_iff.mp ha).1]; exact S.row i a ha⟩
/-- [[] for .. in ..] -/
theorem lc_empties {J : It} {n : Nat} {G : Hp → Prop} {Y : Nat → Hp → V → Hp → Prop} (w : Walk J n G Y) {g : TG} {tt : TT} {te : TE} {vs : List Nat} {σ : St} {H : Hp} {D : Addr} {Qd : Hp → Prop} (hD : H D = none) (hn : n ≤ 16777215) (hG : ∀ H', Same H (del H' D) → G H')
    (he : ∀ i x H1 H2 (K : V → Hp → Prop) (N : Hp → Prop), i < n → Same H (del H1 D) → Y i H1 x H2 → (∀ a, H1 a = none → K (.ref a) (upd H1 a (.lst []))) → g x (wipe σ vs) H2 fun σ2 H2' => wipe σ2 vs = wipe σ vs ∧ tt σ2 H2' fun b H3 => if b = true then te σ2 H3 K else N H3)
    (q : ∀ as H', as.length = n → (∀ a ∈ as, H a = none) → Same H (del H' D) → Same H H' → LL H' D as (fun _ => []) → Qd H') :
    ∃ W : Nat → Nat → Hp → Prop, (∃ m, W 0 m (upd H D (.lst []))) ∧ ∀ i m H, W i m H →
      (J.stop i H ∧ Qd H) ∨ (J.go i H ∧ ∃ Nx : Hp → Prop, (∀ H', Nx H' → ∃ m', m' < m ∧ W (i + 1) m' H') ∧ ∀ x H', J.yld i H x H' → g x (wipe σ vs) H' fun σ2 H2 => wipe σ2 vs = wipe σ vs ∧ tt σ2 H2 fun b H3 =>
        if b = true then te σ2 H3 fun y H4 => ∃ acc, H4 D = some (.lst acc) ∧ acc.length < sizeLine ∧ Nx (upd H4 D (.lst (acc ++ [y]))) else Nx H3) := by
  refine lc_it w (fun i H' => Same H (del H' D) ∧ ∃ as : List Addr, as.length = i ∧ (∀ a ∈ as, H a = none) ∧ LL H' D as (fun _ => [])) ?_ (fun i H' _ h => hG H' h.1) ?_ ?_
  · refine ⟨fun b o e => ?_, [], rfl, (fun _ z => nomatch z), upd_same, .nil, (fun z => nomatch z), fun h a z => by simp at z⟩
    rw [del_ne (ne_of_none e hD), upd_ne (ne_of_none e hD)]
    exact e
  · rintro i x H1 H2 hi ⟨k1, as, l1, f1, S⟩ hy
    refine he i x H1 H2 _ _ hi k1 hy fun a ha => ?_
    have nD : a ≠ D := fun e => by rw [e, S.top] at ha; cases ha
    have na : a ∉ as := fun m => by
      obtain ⟨j, lj, e⟩ := List.mem_iff_getElem.mp m
      have := S.row j a (by rw [List.getElem?_eq_getElem lj, e])
      rw [this] at ha
      cases ha
    have Ha : H a = none := by
      cases e : H a with
      | none => rfl
      | some o =>
        have := k1 a o e
        rw [del_ne nD, ha] at this
        cases this
    refine ⟨as.map V.ref, by rw [upd_ne nD.symm]; exact S.top, by rw [List.length_map, l1]; exact lt_ln (by omega), (fun b o z => ?_), as ++ [a], by rw [List.length_append, l1]; rfl, ?_, ?_⟩
    · have z1 := k1 b o z
      have nb : b ≠ D := ne_of_none z hD
      rw [del_ne nb] at z1 ⊢
      rw [upd_ne nb, upd_ne (ne_of_none z1 ha)]
      exact z1
    · intro b hb
      rcases List.mem_append.mp hb with hb | hb
      · exact f1 b hb
      · rw [List.mem_singleton.mp hb]
        exact Ha
    · refine ⟨by rw [upd_same, List.map_append]; rfl, ?_, ?_, ?_⟩
      · refine List.nodup_append.mpr ⟨S.nd, by simp, fun b hb c hc e => ?_⟩
        rw [List.mem_singleton.mp hc] at e
        subst e
        exact na hb
      · intro m
        rcases List.mem_append.mp m with m | m
        · exact S.nin m
        · exact nD (List.mem_singleton.mp m).symm
      · intro h b hb
        have nb : b ≠ D := fun e => by
          subst e
          have m := List.mem_of_getElem? hb
          rcases List.mem_append.mp m with m | m
          · exact S.nin m
          · exact nD (List.mem_singleton.mp m).symm
        rw [upd_ne nb]
        by_cases c : h < as.length
        · rw [List.getElem?_append_left c] at hb
          have z := S.row h b hb
          rw [upd_ne (ne_of_none z ha)]
          exact z
        · rw [List.getElem?_append_right (by omega)] at hb
          have : b = a := by
            cases k : h - as.length with
            | zero => rw [k] at hb; simpa using hb.symm
            | succ m => rw [k] at hb; simp at hb
          rw [this, upd_same]
  · rintro H1 ⟨k1, as, l1, f1, S⟩
    exact q as H1 l1 f1 k1 (del_sub k1) S
/-! ### dicts of whole numbers -/
/-- the entries of a dict from numbers to numbers -/
def dkv (b : List (Nat × Nat)) : List (Key × V) := b.map fun e => (Sum.inl (e.1 : Int), V.int (e.2 : Int))
theorem dkv_val {b : List (Nat × Nat)} {x : Nat} : (valV (dkv b) (Sum.inl (x : Int))).isSome = decide (x ∈ b.map (·.1)) := by
  induction b with
  | nil => rfl
  | cons e b ih =>
    show (valV ((Sum.inl (e.1 : Int), V.int (e.2 : Int)) :: dkv b) (Sum.inl (x : Int))).isSome = _
    by_cases c : e.1 = x
    · subst c
      rw [valV_pos rfl]
      simp
    · have n : ¬ (Sum.inl (e.1 : Int) : Key) = Sum.inl (x : Int) := fun z => c (by have := Sum.inl.inj z; omega)
      rw [valV_neg n, ih]
      have n2 : ¬ x = e.1 := fun z => c z.symm
      simp [n2]
theorem dkv_get {b : List (Nat × Nat)} {x p : Nat} (nd : (b.map (·.1)).Nodup) (h : (x, p) ∈ b) : valV (dkv b) (Sum.inl (x : Int)) = some (.int p) := by
  induction b with
  | nil => cases h
  | cons e b ih =>
    have nd' : e.1 ∉ b.map (·.1) ∧ (b.map (·.1)).Nodup := by simpa using nd
    show valV ((Sum.inl (e.1 : Int), V.int (e.2 : Int)) :: dkv b) (Sum.inl (x : Int)) = _
    rcases List.mem_cons.mp h with h | h
    · subst h
      exact valV_pos rfl
    · have n : ¬ (Sum.inl (e.1 : Int) : Key) = Sum.inl (x : Int) := fun z => by
        have : e.1 = x := by have := Sum.inl.inj z; omega
        exact nd'.1 (by rw [this]; exact List.mem_map.mpr ⟨_, h, rfl⟩)
      rw [valV_neg n]
      exact ih nd'.2 h
theorem dkv_put {b : List (Nat × Nat)} {x p : Nat} (h : x ∉ b.map (·.1)) : putK (dkv b) (Sum.inl (x : Int)) (.int p) = dkv (b ++ [(x, p)]) := by
  have e : valV (dkv b) (Sum.inl (x : Int)) = none := by
    have := dkv_val (b := b) (x := x)
    rw [decide_eq_false h] at this
    cases z : valV (dkv b) (Sum.inl (x : Int)) with
    | none => rfl
    | some v => rw [z] at this; cases this
  rw [putK_new _ e]
  simp [dkv]
end L2

namespace K02
open PySem PySem.Spec PyProof.Rows L2
abbrev sNear : Stmt := top 18
theorem scNear : FnScope ["houses", "roads", "near", "_", "u", "v", "row"] ["houses", "roads"] (defScope sNear) := ⟨rfl, rfl, rfl, by decide +kernel, rfl, by decide +kernel, by decide +kernel⟩
abbrev sFrom : Stmt := top 19
theorem scFrom : FnScope ["near", "start", "barred", "before", "fresh", "house", "other"] ["near", "start", "barred"] (defScope sFrom) := ⟨rfl, rfl, rfl, by decide +kernel, rfl, by decide +kernel, by decide +kernel⟩
/-- whole numbers as values, as data -/
def natV (l : List Nat) : List V := l.map fun x : Nat => V.int (x : Int)
def natD (l : List Nat) : List PyData := l.map fun x : Nat => PyData.int (x : Int)
def nearD (n : Nat) (rs : List Tm.Road) : PyData := .tuple ((List.range n).map fun h => .tuple (natD (Tm.near rs h)))
theorem nat_rdd {H : Hp} : ∀ l : List Nat, RddAll H (natV l) (natD l)
  | [] => .nil
  | x :: l => .cons (.int _) (nat_rdd l)
theorem rdd_nat {H : Hp} : ∀ {l : List Nat} {xs : List V}, RddAll H xs (natD l) → xs = natV l
  | [], _, .nil => rfl
  | x :: l, _, .cons r t => by
    cases r
    rw [rdd_nat t]
    rfl
abbrev Bnd (n : Nat) (rs : List Tm.Road) : Prop := ∀ r ∈ rs, r.1 < r.2 ∧ r.2 < n
def spNear : Sp := fun vs H Q _ => ∃ (n : Nat) (p : Addr) (xs : List V) (rs : List Tm.Road), vs = [.int n, .ref p] ∧ RowAt H p xs ∧ RddAll H xs (rs.map rd) ∧ Bnd n rs ∧ n ≤ 100 ∧ rs.length ≤ 100 ∧
  ∀ nt H', Same H H' → Rdd H' (.ref nt) (nearD n rs) → Q (.ref nt) H'
def barV : Option Nat → V
  | none => .non
  | some x => .int x
def spFrom : Sp := fun vs H Q _ => ∃ (nt : Addr) (n s : Nat) (rs : List Tm.Road) (bar : Option Nat), vs = [.ref nt, .int s, barV bar] ∧ Rdd H (.ref nt) (nearD n rs) ∧ Bnd n rs ∧ s < n ∧ n ≤ 100 ∧
  ∀ d b H', Same H H' → H d = none → Tm.Dfs (Tm.near rs) bar [(s, s)] [s] b → Tm.Going (Tm.near rs) bar s b [] → H' d = some (.dK (dkv b)) → Q (.ref d) H'
/-- the row of a house -/
theorem near_row {H : Hp} {nt : Addr} {n h : Nat} {rs : List Tm.Road} (r : Rdd H (.ref nt) (nearD n rs)) (hh : h < n) : ∃ xs t, H nt = some (.tup xs) ∧ atI xs (h : Int) = some (.ref t) ∧ H t = some (.tup (natV (Tm.near rs h))) := by
  cases r with
  | tup h1 ra =>
    have e : ((List.range n).map fun h => PyData.tuple (natD (Tm.near rs h)))[h]? = some (.tuple (natD (Tm.near rs h))) := by
      rw [List.getElem?_map, List.getElem?_eq_getElem (by rw [List.length_range]; exact hh)]
      simp
    obtain ⟨x, hx, rx⟩ := rdds_get ra e
    cases rx with
    | tup h2 r2 =>
      rw [rdd_nat r2] at h2
      exact ⟨_, _, h1, atI_nat hx, h2⟩
theorem near_len {n : Nat} {rs : List Tm.Road} (h : Nat) : (Tm.near rs h).length ≤ rs.length := List.length_filterMap_le _ _
theorem nat_get {l : List Nat} {i : Nat} {x : V} (h : (natV l)[i]? = some x) : ∃ (lt : i < l.length), x = .int (l[i] : Nat) := by
  unfold natV at h
  rw [List.getElem?_map] at h
  cases e : l[i]? with
  | none => rw [e] at h; cases h
  | some y =>
    rw [e] at h
    obtain ⟨lt, z⟩ := List.getElem?_eq_some_iff.mp e
    refine ⟨lt, ?_⟩
    rw [z]
    exact (Option.some.inj h).symm
section
variable {P : Program} {w : World} {K : PySem.W.Frag} {mg : Str → Option Value} {base : Heap} {f : Addr} {fd : FuncData}
theorem ok_houses_near (F : Fd K "houses_near" sNear f fd) (g : mg "houses_near" = some (.ref f)) (B : Bl mg) : Ok P w K mg base CX0 1 "houses_near" sNear ["houses", "roads"] spNear := by
  refine ⟨f, fd, g, F, F.bindsN fun _ _ _ _ _ _ us hl => match us, hl with | [_, _], _ => rfl, F.ok scNear (fun vs H Q E h => ?_) (fun cdv A outer s H vs Q E hr h => ?_)⟩
  · obtain ⟨n, p, xs, rs, rfl, _⟩ := h
    rfl
  · refine ⟨_, (pss_cons (ps_setLc (i := 2) (own := [("_", 3)]) (g := gName 3) rfl scNear.nd rfl rfl (sw_true rfl rfl rfl (by decide +kernel)) (pi_range1 (by rfl) (B.u "range" (by decide +kernel)) (pa_cons (pv 0) pa_nil)) (blkOk_by (N := ["houses", "roads", "near", "_", "u", "v", "row"]) (sc := defScope sNear) (by decide +kernel)) (fun _ _ _ _ _ => (pg_name (i := 3) scNear.nd rfl (Or.inl rfl))) (fun _ _ _ _ _ => pts_nil) (fun _ _ _ _ _ => (pe_lst pa_nil)))
      (pss_cons (ps_for (passes_of rfl) rfl (pi_seq (pv 1)) (pg_tup rfl (pgs_cons (pg_name (i := 4) scNear.nd rfl (Or.inl rfl)) (pgs_cons (pg_name (i := 5) scNear.nd rfl (Or.inl rfl)) pgs_nil)))
        (pss_cons (ps_expr (pe_bm PySem.F.plainAttrs_list PySem.F.slot_list_append PySem.F.type_list_append mt_append (pe_ix ix_seq (pv 2) (pv 4) fun _ _ => rfl) (pa_cons (pv 5) pa_nil)))
        (pss_one (ps_expr (pe_bm PySem.F.plainAttrs_list PySem.F.slot_list_append PySem.F.type_list_append mt_append (pe_ix ix_seq (pv 2) (pv 5) fun _ _ => rfl) (pa_cons (pv 4) pa_nil))))))
      (pss_one (ps_ret (pe_callTy call_tuple_of (by rfl) (B.u "tuple" (by decide +kernel)) (by decide +kernel) (pa_cons (pe_lc (own := [("row", 6)]) (g := gName 6) rfl scNear.nd (pi_list (pv 2)) (blkOk_by (N := ["houses", "roads", "near", "_", "u", "v", "row"]) (sc := defScope sNear) (by decide +kernel)) (fun _ _ _ _ _ => (pg_name (i := 6) scNear.nd rfl (Or.inl rfl))) (fun _ _ _ _ _ => pts_nil) (fun _ _ _ _ _ => (pe_callTy (r := rTupOf K) (by exact call_tuple_of) (by rfl) (B.u "tuple" (by decide +kernel)) (by decide +kernel) (pa_cons (pv 6) pa_nil)))) pa_nil)))))), ?_⟩
    obtain ⟨n, p, xs, rs, rfl, hp, ra, bd, n1, n2, q⟩ := h
    have l := rdds_len ra
    rw [List.length_map] at l
    refine ⟨_, rfl, _, rfl, by omega, by omega, fun D hD => ?_⟩
    refine lc_empties walk_range hD (by omega) (fun _ _ => True.intro) ?_ ?_
    · rintro i x H0 H1 K1 N1 hi k1 ⟨rfl, rfl⟩ hK
      exact ⟨rfl, two_ln (by decide), fun a ha => hK a ha⟩
    · intro as H1 l1 f1 k1 k2 S
      refine ⟨_, rfl, p, xs, rfl, (hp.mono k2).sq, fun J w => ?_⟩
      have keep : ∀ {H' : Hp} {a : Addr} {ys : List V}, Same H H' → a ∈ as → Same H (upd H' a (.lst ys)) := fun k m b o e => by
        rw [upd_ne (ne_of_none e (f1 _ m))]
        exact k b o e
      refine for_it w (fun i σ H' => Same H H' ∧ LL H' D as (fun h => natV (Tm.near (rs.take i) h)) ∧ ∃ a b c : Option V, σ = [some (.int n), some (.ref p), some (.ref D), a, b, c, none]) ⟨k2, S.congr fun i _ => rfl, none, none, none, rfl⟩ (fun i σ H' _ h => ?_) ?_ ?_
      · rcases hp with h1 | h1
        · rw [h.1 _ _ h1, k2 _ _ h1]
        · rw [h.1 _ _ h1, k2 _ _ h1]
      · rintro i x σ H0 H2 hi ⟨k3, S2, a, b, c, rfl⟩ ⟨rfl, hx⟩
        have hdi : i < rs.length := by omega
        obtain ⟨x', hx', rx⟩ := rdds_get (ra.mono k3) (show (rs.map rd)[i]? = some (rd rs[i]) by rw [List.getElem?_map, List.getElem?_eq_getElem hdi]; rfl)
        rw [hx] at hx'
        obtain rfl : x = x' := Option.some.inj hx'
        have bi := bd _ (List.getElem_mem hdi)
        generalize hr2 : rs[i] = r at rx bi
        obtain ⟨u, v⟩ := r
        unfold rd at rx
        cases rx with
        | @tup pt ys es h r2 =>
          obtain ⟨y1, y2, rfl, r3, r4⟩ := rdds_two r2
          cases r3
          cases r4
          simp only at bi
          have lu : u < as.length := by omega
          have lv : v < as.length := by omega
          have au : as[u]? = some as[u] := List.getElem?_eq_getElem lu
          have av : as[v]? = some as[v] := List.getElem?_eq_getElem lv
          have mu := List.getElem_mem lu
          have mv := List.getElem_mem lv
          have len : ∀ h, (natV (Tm.near (rs.take i) h)).length ≤ 100 := fun h => by
            unfold natV
            rw [List.length_map]
            have := near_len (n := n) (rs := rs.take i) h
            rw [List.length_take] at this
            omega
          have S3 := S2.set au (natV (Tm.near (rs.take i) u) ++ [V.int (v : Int)])
          have S4 := S3.set av (natV (Tm.near (rs.take i) v) ++ [V.int (u : Int)])
          have ne : ¬ v = u := by omega
          refine ⟨pt, _, rfl, SqT.of h, rfl, _, _, rfl, _, _, rfl, rfl, ?_⟩
          refine ⟨_, rfl, _, rfl, ixAt (v := .ref as[u]) S2.top (atI_nat (by rw [List.getElem?_map, au]; rfl)) ⟨.inl ⟨rfl, _, SqL.of (S2.row u _ au)⟩, _, rfl, _, _, _, rfl, rfl, S2.row u _ au, lt_ln (by have := len u; omega), ?_⟩⟩
          refine ⟨_, rfl, _, rfl, ixAt (v := .ref as[v]) S3.top (atI_nat (by rw [List.getElem?_map, av]; rfl)) ⟨.inl ⟨rfl, _, SqL.of (S3.row v _ av)⟩, _, rfl, _, _, _, rfl, rfl, S3.row v _ av, ?_, ?_⟩⟩
          · rw [if_neg ne]
            exact lt_ln (by have := len v; omega)
          · rw [if_neg ne]
            refine ⟨keep (keep k3 mu) mv, S4.congr fun j hj => ?_, _, _, _, rfl⟩
            rw [List.take_succ_eq_append_getElem hdi, Tm.near_snoc, hr2]
            unfold natV Tm.nb
            rw [List.map_append]
            by_cases c1 : j = v
            · subst c1
              rw [if_pos rfl, if_neg (by simp only; omega), if_pos rfl]
              rfl
            · rw [if_neg c1]
              by_cases c2 : j = u
              · subst c2
                rw [if_pos rfl, if_pos rfl]
                rfl
              · rw [if_neg c2, if_neg (by simp only; omega), if_neg (by simp only; omega)]
                simp
      · rintro σ H2 ⟨k3, S2, a, b, c, rfl⟩
        rw [l, List.take_length] at S2
        refine ⟨_, rfl, _, rfl, ⟨_, SqL.of S2.top⟩, fun D2 hD2 => ?_⟩
        refine lc_gen walk_list (fun _ => true) (fun i y H' => Rdd H' y (.tuple (natD (Tm.near rs i)))) (fun i y _ _ k h => h.mono k) hD2 (by rw [List.length_map]; omega) (fun H' k => SqL.of (del_sub k _ _ S2.top)) ?_ ?_
        · rintro i x H0 H3 K1 N1 hi k4 ⟨o, ho⟩ ⟨rfl, hx⟩ hK _
          rw [List.length_map] at hi
          have ai : as[i]? = some as[i] := List.getElem?_eq_getElem hi
          rw [List.getElem?_map, ai] at hx
          obtain rfl : V.ref as[i] = x := Option.some.inj hx
          have k5 := del_sub k4
          refine ⟨rfl, _, rfl, _, _, rfl, .inl ⟨SqL.of (k5 _ _ (S2.row i _ ai)), fun t ht => hK rfl _ _ (upd_grow ht) (.tup (del_new ho ht) (nat_rdd _))⟩⟩
        · intro ys H3 k4 h3 l3 r3
          rw [filt_all] at l3 r3
          rw [List.length_map, List.length_range] at l3
          rw [List.length_map] at r3
          refine ⟨D2, ys, rfl, .inl ⟨SqL.of h3, fun t ht => q t _ (fun b o e => ?_) (.tup upd_same ?_)⟩⟩
          · have z := del_sub k4 _ _ (k3 b o e)
            rw [upd_ne (ne_of_none z ht)]
            exact z
          · refine rdds_of (by rw [List.length_map, List.length_range]; omega) fun i y d h1 h2 => ?_
            have lt := (List.getElem?_eq_some_iff.mp h1).1
            rw [List.getElem?_map, List.getElem?_eq_getElem (by rw [List.length_range]; omega)] at h2
            simp at h2
            subst h2
            have := r3 i i y (by rw [List.getElem?_eq_getElem (by rw [List.length_range]; omega)]; simp) h1
            exact (this.mono del_le).mono (upd_grow ht)
theorem ok_houses_from (F : Fd K "houses_from" sFrom f fd) (g : mg "houses_from" = some (.ref f)) (B : Bl mg) : Ok P w K mg base CX0 1 "houses_from" sFrom ["near", "start", "barred"] spFrom := by
  refine ⟨f, fd, g, F, F.bindsN fun _ _ _ _ _ _ us hl => match us, hl with | [_, _, _], _ => rfl, F.ok scFrom (fun vs H Q E h => ?_) (fun cdv A outer s H vs Q E hr h => ?_)⟩
  · obtain ⟨nt, n, s, rs, bar, rfl, _⟩ := h
    rfl
  · have hu : (cxOf CX0 P w K mg base ["near", "start", "barred", "before", "fresh", "house", "other"] "houses_from" (defScope sFrom) f cdv A outer s H E).A.units + 1 < cLine := by
      have z := hr.un
      show (A.deeper _).units + 1 < cLine
      omega
    refine ⟨_, (pss_cons (ps_set (i := 3) scFrom.nd rfl (Or.inl rfl) (pe_disp (pps_cons (pv 1) (pv 1) pps_nil) (by rfl) (by rfl) (fun z => by cases z) (by decide)))
      (pss_cons (ps_set (i := 4) scFrom.nd rfl (Or.inl rfl) (pe_lst (pa_cons (pv 1) pa_nil)))
      (pss_cons (ps_while (passes_of rfl) (pt_truth (pv 4) (by intro _; rfl))
        (pss_cons (ps_set (i := 5) scFrom.nd rfl (Or.inl rfl) (pe_bm0 PySem.F.plainAttrs_list PySem.F.slot_list_pop PySem.F.type_list_pop mt_pop (pv 4)))
        (pss_one (ps_for (passes_of rfl) rfl (pi_seq (pe_ix ix_seq (pv 0) (pv 5) fun _ _ => rfl)) (pg_name (i := 6) scFrom.nd rfl (Or.inl rfl))
          (pss_one (ps_if (pw_and (pt_cmpR op_ne (pv 6) (pv 2) (nomark _)) (pw_and1 (pt_cmp (pc_dnotin hu (pv 6) (pv 3))))).pt
            (pss_cons (ps_dput hu (pv 3) (pv 6) (pv 5) rfl)
            (pss_one (ps_expr (pe_bm PySem.F.plainAttrs_list PySem.F.slot_list_append PySem.F.type_list_append mt_append (pv 4) (pa_cons (pv 6) pa_nil)))))
            pss_nil))))))
      (pss_one (ps_ret (pv 3)))))), ?_⟩
    obtain ⟨nt, n, s, rs, bar, rfl, hn, bd, sn, n1, q⟩ := h
    have lt : ∀ h, ∀ x ∈ Tm.near rs h, x < n := fun h x hx => (Tm.near_lt bd hx).1
    refine fun pd hpd => ⟨_, rfl, _, rfl, upd_same, [(Sum.inl (s : Int), .int s)], rfl, (by show 1 ≤ 15; decide), ?_⟩
    have em : mergeK [] [((Sum.inl (s : Int) : Key), V.int (s : Int))] = dkv [(s, s)] := rfl
    rw [em, upd_upd]
    refine ⟨_, rfl, two_ln (by show 1 ≤ _; decide), fun pf hpf => ?_⟩
    have nf : pf ≠ pd := fun e => by rw [e, upd_same] at hpf; cases hpf
    have nf' : H pf = none := by rwa [upd_ne nf] at hpf
    dsimp only [gName, tSeq]
    refine while_by (fun σ H' => ∃ b st, Tm.Going (Tm.near rs) bar s b st ∧ st.length ≤ b.length ∧ (∀ r, Tm.Dfs (Tm.near rs) bar b st r → Tm.Dfs (Tm.near rs) bar [(s, s)] [s] r) ∧ Same H H' ∧ H' pd = some (.dK (dkv b)) ∧ H' pf = some (.lst (natV st.reverse)) ∧
        ∃ x y : Option V, σ = [some (.ref nt), some (.int s), some (barV bar), some (.ref pd), some (.ref pf), x, y])
      (fun σ H' => (match H' pf with | some (.lst xs) => xs.length | _ => 0) + (n - match H' pd with | some (.dK kvs) => kvs.length | _ => 0)) ?_ ?_ ?_
    · refine ⟨[(s, s)], [s], .start, Nat.le_refl _, fun r h => h, fun b o e => ?_, ?_, upd_same, none, none, rfl⟩
      · rw [upd_ne (ne_of_none e nf'), upd_ne (ne_of_none e hpd)]
        exact e
      · rw [upd_ne nf.symm, upd_same]
    · rintro σ H1 ⟨b, st, G, sl0, hd, k1, h1, h2, x, y, rfl⟩
      cases st with
      | nil => exact ⟨_, rfl, false, .inl ⟨_, SqL.of h2, rfl⟩, iteF ⟨_, rfl, q pd b H1 k1 hpd (hd b .done) G h1⟩⟩
      | cons a st =>
        obtain ⟨G2, lens⟩ := G.next
        have la : a < n := G.g.bound sn lt a (G.sub a List.mem_cons_self)
        have e1 : natV (a :: st).reverse = natV st.reverse ++ [V.int (a : Int)] := by simp [natV]
        have m0 : (match H1 pf with | some (HO.lst xs) => xs.length | _ => 0) = st.length + 1 := by rw [h2]; simp [natV]
        have m1 : (match H1 pd with | some (HO.dK kvs) => kvs.length | _ => 0) = b.length := by rw [h1]; simp [dkv]
        rw [e1] at h2
        refine ⟨_, rfl, true, .inl ⟨_, SqL.of h2, by simp⟩, iteT ⟨_, rfl, .inl ⟨rfl, _, SqL.of h2⟩, pf, _, .int a, rfl, rfl, h2, ?_, ?_⟩⟩
        · rw [List.length_append]
          simp
        · rw [List.dropLast_concat]
          obtain ⟨rows, t, ht1, ht2, ht3⟩ := near_row hn la
          have k2 : Same H (upd H1 pf (.lst (natV st.reverse))) := fun b o e => by
            rw [upd_ne (ne_of_none e nf')]
            exact k1 b o e
          refine ⟨_, rfl, _, rfl, ixTup (SqT.of (k2 _ _ ht1)) ht2 ⟨t, natV (Tm.near rs a), rfl, .inr (SqT.of (k2 _ _ ht3)), fun J w => ?_⟩⟩
          refine for_it w (fun i σ H' => ∃ b2 st2, (b2, st2) = ((Tm.near rs a).take i).foldl (Tm.visit bar a) (b, st) ∧ Same H H' ∧ H' pd = some (.dK (dkv b2)) ∧ H' pf = some (.lst (natV st2.reverse)) ∧
              ∃ y : Option V, σ = [some (.ref nt), some (.int s), some (barV bar), some (.ref pd), some (.ref pf), some (.int a), y]) ?_ (fun i σ H' _ h => ?_) ?_ ?_
          · exact ⟨b, st, rfl, k2, by rw [upd_ne nf.symm]; exact h1, upd_same, y, rfl⟩
          · obtain ⟨_, _, _, k3, _⟩ := h
            rw [k3 _ _ ht3, k2 _ _ ht3]
          · rintro i x2 σ H0 H2 hi ⟨b2, st2, e2, k3, h3, h4, y2, rfl⟩ ⟨rfl, hx⟩
            obtain ⟨li, rfl⟩ := nat_get hx
            have step : ((Tm.near rs a).take (i + 1)).foldl (Tm.visit bar a) (b, st) = Tm.visit bar a (b2, st2) (Tm.near rs a)[i] := by
              rw [List.take_succ_eq_append_getElem li, List.foldl_append, ← e2]
              rfl
            generalize ho : (Tm.near rs a)[i] = o at step
            have skip : (some o = bar ∨ o ∈ b2.map (·.1)) → ∃ b2 st2, (b2, st2) = ((Tm.near rs a).take (i + 1)).foldl (Tm.visit bar a) (b, st) ∧ Same H H2 ∧ H2 pd = some (.dK (dkv b2)) ∧ H2 pf = some (.lst (natV st2.reverse)) ∧
                ∃ y : Option V, [some (V.ref nt), some (.int s), some (barV bar), some (.ref pd), some (.ref pf), some (.int a), some (.int o)] = [some (.ref nt), some (.int s), some (barV bar), some (.ref pd), some (.ref pf), some (.int a), y] := fun c => by
              refine ⟨b2, st2, ?_, k3, h3, h4, _, rfl⟩
              rw [step]
              unfold Tm.visit
              exact (if_pos c).symm
            have nb : decide (V.int (o : Int) = barV bar) = decide (some o = bar) := by
              apply decide_eq_decide.mpr
              cases bar with
              | none => simp [barV]
              | some z =>
                simp only [barV, V.int.injEq, Option.some.injEq]
                omega
            refine ⟨_, rfl, _, rfl, ?_, _, rfl, iteB (fun c1 => ?_) fun c1 => ?_⟩
            · cases bar <;> rfl
            · rw [nb] at c1
              have c1 := of_decide_eq_false (not_t c1)
              refine ⟨_, rfl, _, rfl, pd, _, rfl, DGet.k (k := Sum.inl (o : Int)) h3, _, rfl, iteB (fun c2 => ?_) fun c2 => ?_⟩
              · rw [dkv_val] at c2
                have c2 := of_decide_eq_false (not_t c2)
                have c3 : ¬ (some o = bar ∨ o ∈ b2.map (·.1)) := fun z => z.elim c1 c2
                have room : b2.length ≤ n := by
                  obtain ⟨g1, _⟩ := Tm.visit_grown (bar := bar) (os := (Tm.near rs a).take i) (st := st) G.g (G.sub a List.mem_cons_self) fun o ho => List.mem_of_mem_take ho
                  rw [← e2] at g1
                  have := Tm.nodup_len g1.nodup (g1.bound sn lt)
                  simpa [Tm.keys] using this
                refine ⟨_, rfl, _, rfl, _, rfl, pd, _, rfl, DPut.k (k := Sum.inl (o : Int)) h3 (lt_ln (by unfold dkv; rw [List.length_map]; omega)), ?_⟩
                rw [dkv_put c2]
                have h5 : upd H2 pd (.dK (dkv (b2 ++ [(o, a)]))) pf = some (.lst (natV st2.reverse)) := by rw [upd_ne nf]; exact h4
                have sl : st2.length ≤ 200 := by
                  obtain ⟨_, _, _, _, _, _, g7⟩ := Tm.visit_grown (bar := bar) (os := (Tm.near rs a).take i) (st := st) G.g (G.sub a List.mem_cons_self) fun o ho => List.mem_of_mem_take ho
                  rw [← e2] at g7
                  simp only at g7
                  rw [List.length_cons] at sl0
                  omega
                refine ⟨_, rfl, .inl ⟨rfl, _, SqL.of h5⟩, _, rfl, pf, _, _, rfl, rfl, h5, lt_ln (by unfold natV; rw [List.length_map, List.length_reverse]; omega), b2 ++ [(o, a)], o :: st2, ?_, ?_, ?_, ?_, _, rfl⟩
                · rw [step]
                  unfold Tm.visit
                  exact (if_neg c3).symm
                · intro b o e
                  rw [upd_ne (ne_of_none e nf'), upd_ne (ne_of_none e hpd)]
                  exact k3 b o e
                · rw [upd_ne nf.symm, upd_same]
                · rw [upd_same]
                  simp [natV]
              · rw [dkv_val] at c2
                exact skip (.inr (of_decide_eq_true (not_f c2)))
            · rw [nb] at c1
              exact skip (.inl (of_decide_eq_true (not_f c1)))
          · rintro σ H2 ⟨b2, st2, e2, k3, h3, h4, y2, rfl⟩
            have ln : (natV (Tm.near rs a)).length = (Tm.near rs a).length := by simp [natV]
            rw [ln, List.take_length] at e2
            have e3 : (Tm.visits (Tm.near rs) bar a b st) = (b2, st2) := e2.symm
            rw [e3] at G2 lens
            have r1 := G2.room sn lt
            have r0 := G.room sn lt
            simp only at lens r1
            refine ⟨⟨b2, st2, G2, (by rw [List.length_cons] at sl0; omega), fun r hr => hd r (.step (by rw [e3]; exact hr)), k3, h3, h4, _, _, rfl⟩, ?_⟩
            show (match H2 pf with | some (HO.lst xs) => xs.length | _ => 0) + (n - match H2 pd with | some (HO.dK kvs) => kvs.length | _ => 0) < (match H1 pf with | some (HO.lst xs) => xs.length | _ => 0) + (n - match H1 pd with | some (HO.dK kvs) => kvs.length | _ => 0)
            rw [m0, m1, h4, h3]
            simp only [natV, dkv, List.length_map, List.length_reverse]
            omega
    · rintro σ H1 Q1 Q2 h ⟨v, hv, k, tr, q⟩
      exact ⟨v, hv, k, tr, h _ _ q⟩
end
end K02

namespace L2
open PySem PySem.Spec PyProof.Rows
mutual
theorem Rdd.dp {K : PySem.W.Frag} {H : Hp} : ∀ {v : V} {d : PyData}, Rdd H v d → d.canLay0 = true → Dp K H v d
  | _, _, .non, _ => .non
  | _, _, .bl b, _ => .bl b
  | _, _, .int i, _ => .int i
  | _, _, .str x, _ => .str x
  | _, _, .lst h r, c => .lst (SqL.of h) (RddAll.dp r (by simpa [PyData.canLay0] using c))
  | _, _, .tup h r, c => .tup (SqT.of h) (RddAll.dp r (by simpa [PyData.canLay0] using c))
  | _, _, .dK h r q, c => by simp [PyData.canLay0] at c
theorem RddAll.dp {K : PySem.W.Frag} {H : Hp} : ∀ {vs : List V} {ds : List PyData}, RddAll H vs ds → PyData.canLayAll0 ds = true → DpAll K H vs ds
  | _, _, .nil, _ => .nil
  | _, _, .cons r t, c => by
    simp only [PyData.canLayAll0, Bool.and_eq_true] at c
    exact .cons (Rdd.dp r c.1) (RddAll.dp t c.2)
end
end L2
namespace K02
open PySem PySem.Spec PyProof.Rows L2
theorem rds_shaped (rs : List Tm.Road) : SeqAt.shaped (.tuple (rs.map rd)) = true := by
  unfold SeqAt.shaped
  have a : PyData.canLayAll0 (rs.map rd) = true ∧ PyData.depthAll (rs.map rd) ≤ 1 := by
    induction rs with
    | nil => exact ⟨rfl, Nat.zero_le _⟩
    | cons r rs ih =>
      refine ⟨?_, ?_⟩
      · simpa [PyData.canLayAll0, PyData.canLay0, rd] using ih.1
      · have := ih.2
        simp only [List.map_cons, PyData.depthAll, PyData.depth, rd]
        omega
  have c : (PyData.tuple (rs.map rd)).canLay0 = true := by simpa [PyData.canLay0] using a.1
  rw [c, Bool.true_and]
  apply decide_eq_true
  simp only [PyData.depth]
  have := a.2
  omega
theorem rds_eqv : ∀ rs qs : List Tm.Road, PyData.eqv (.tuple (rs.map rd)) (.tuple (qs.map rd)) = decide (rs = qs) := by
  intro rs qs
  show PyData.eqvAll (rs.map rd) (qs.map rd) = _
  induction rs generalizing qs with
  | nil =>
    cases qs with
    | nil => rfl
    | cons q qs => simp [PyData.eqvAll]
  | cons r rs ih =>
    cases qs with
    | nil => simp [PyData.eqvAll]
    | cons q qs =>
      simp only [List.map_cons, PyData.eqvAll]
      rw [ih]
      have e : PyData.eqv (rd r) (rd q) = decide (r = q) := by
        obtain ⟨a, b⟩ := r
        obtain ⟨c, d⟩ := q
        simp only [rd, PyData.eqv, PyData.eqvAll, Bool.and_true]
        by_cases h1 : a = c
        · by_cases h2 : b = d
          · subst h1 h2; simp
          · have : ¬ (b : Int) = d := by omega
            simp [h2, this]
        · have : ¬ (a : Int) = c := by omega
          simp [h1, this]
      rw [e]
      by_cases h1 : r = q
      · simp [h1]
      · simp [h1]
/-! ### the class Tree -/
abbrev CT (K : PySem.W.Frag) : Addr := He.ga K "Tree"
abbrev MT (K : PySem.W.Frag) (m : Str) : Addr := He.ma K (CT K) m
abbrev Md (K : PySem.W.Frag) (m qual : Str) (st : Stmt) (f : Addr) (fd : FuncData) : Prop := FunD K m qual (defArgs st) (defBody st) (defScope st) [] [] f fd
structure TreeK (K : PySem.W.Frag) (mg : Str → Option Value) : Prop where
  g : mg "Tree" = some (.ref (CT K))
  cl : Cls K (CT K)
  nh : NoAttr K (CT K) "houses"
  nr : NoAttr K (CT K) "roads"
  nn : NoAttr K (CT K) "near"
  mkT : Mk K (CT K) (MT K "__init__")
  co : PySem.W.findIn K (.ref (CT K)) "__contains__" = some (some (.ref (MT K "__contains__")))
  cof : PySem.W.isFn K (.ref (MT K "__contains__")) = true
  le : PySem.W.findIn K (.ref (CT K)) "__len__" = some (some (.ref (MT K "__len__")))
  lef : PySem.W.isFn K (.ref (MT K "__len__")) = true
  eq : PySem.W.findIn K (.ref (CT K)) "__eq__" = some (some (.ref (MT K "__eq__")))
  eqf : PySem.W.isFn K (.ref (MT K "__eq__")) = true
  ne : PySem.W.findIn K (.ref (CT K)) "__ne__" = some (some (.builtin "object.__ne__"))
  ob : PySem.W.subIn K (.ref (CT K)) (.type "object") = some true
  self : PySem.W.kitOne K (.ref (CT K)) (.ref (CT K)) = some true
  no : ∀ T ∈ tys, PySem.W.kitOne K (.type T) (.ref (CT K)) = some false ∧ PySem.W.notFirst K (CT K) (.type T) = true
  ha : PySem.W.findIn K (.ref (CT K)) "__class__" = some (some (.builtin "object.__class__"))
  hn : PySem.W.specialIn K (.builtin "object.__class__") "__get__" = some (some (.builtin "getset_descriptor.__get__"))
  htk : PySem.W.takesIn K (.builtin "object.__class__") = some true
  hm : PySem.W.mroIn K (CT K) (.type "object") = some true
def fsT (n : Nat) (rt nt : Addr) : List (Str × V) := [("houses", .int n), ("roads", .ref rt), ("near", .ref nt)]
/-- at t a tree of n houses with the roads rs -/
structure TreeAt (K : PySem.W.Frag) (H : Hp) (t : Addr) (n : Nat) (rs : List Tm.Road) : Prop where
  ex : ∃ dx rt nt, H t = some (.ins (CT K) dx (fsT n rt nt)) ∧ Rdd H (.ref rt) (.tuple (rs.map rd)) ∧ Rdd H (.ref nt) (nearD n rs)
  ok : Tm.RoadsOk n rs
  jo : Tm.Joined n rs
  le : n ≤ 64
theorem TreeAt.mono {K : PySem.W.Frag} {H H' : Hp} {t : Addr} {n : Nat} {rs : List Tm.Road} (k : Same H H') (T : TreeAt K H t n rs) : TreeAt K H' t n rs :=
  let ⟨dx, rt, nt, h1, h2, h3⟩ := T.ex
  ⟨⟨dx, rt, nt, k _ _ h1, h2.mono k, h3.mono k⟩, T.ok, T.jo, T.le⟩
abbrev sTInit : Stmt := cdef 16 0
theorem scTInit : FnScope ["self", "houses", "roads", "near", "joined", "house"] ["self", "houses", "roads"] (defScope sTInit) := ⟨rfl, rfl, rfl, by decide +kernel, rfl, by decide +kernel, by decide +kernel⟩
abbrev sTLen : Stmt := cdef 16 1
theorem scTLen : FnScope ["self"] ["self"] (defScope sTLen) := ⟨rfl, rfl, rfl, by decide +kernel, rfl, by decide +kernel, by decide +kernel⟩
abbrev sTCont : Stmt := cdef 16 2
theorem scTCont : FnScope ["self", "value"] ["self", "value"] (defScope sTCont) := ⟨rfl, rfl, rfl, by decide +kernel, rfl, by decide +kernel, by decide +kernel⟩
abbrev sTEq : Stmt := cdef 16 3
theorem scTEq : FnScope ["self", "other"] ["self", "other"] (defScope sTEq) := ⟨rfl, rfl, rfl, by decide +kernel, rfl, by decide +kernel, by decide +kernel⟩
/-- a method of Tree keeps sp -/
structure OkM (P : Program) (w : World) (K : PySem.W.Frag) (mg : Str → Option Value) (base : Heap) (CX : CXT) (k : Nat) (m : Str) (ps : List Str) (sp : Sp) : Prop where
  ex : ∃ fd, Binds K fd ps [] ∧ FnOk P w K mg base CX k (MT K m) fd ps sp
def spCont (K : PySem.W.Frag) : Sp := fun vs H Q _ => ∃ t n rs v d, vs = [.ref t, v] ∧ TreeAt K H t n rs ∧ Rdd H v d ∧ Q (.bl (belowD n d)) H
def spLen (K : PySem.W.Frag) : Sp := fun vs H Q _ => ∃ t n rs, vs = [.ref t] ∧ TreeAt K H t n rs ∧ Q (.int n) H
/-- the other one of a comparison: data, or a tree -/
def Oth (K : PySem.W.Frag) (H : Hp) (v : V) (o : Option (Nat × List Tm.Road)) : Prop := match o with
  | none => ∃ d, Rdd H v d
  | some (n, rs) => ∃ t, v = .ref t ∧ TreeAt K H t n rs
def spEq (K : PySem.W.Frag) : Sp := fun vs H Q _ => ∃ t n rs v o, vs = [.ref t, v] ∧ TreeAt K H t n rs ∧ Oth K H v o ∧ Q (.bl (decide (o = some (n, rs)))) H
section
variable {P : Program} {w : World} {K : PySem.W.Frag} {mg : Str → Option Value} {base : Heap} {fd : FuncData}
theorem ok_cont (F : Md K "__contains__" "Tree.__contains__" sTCont (MT K "__contains__") fd) (C : TreeK K mg) (o_is_below : Ok P w K mg base CX0 1 "is_below" sIsBelow ["value", "bound"] spIsBelow) : OkM P w K mg base CX0 2 "__contains__" ["self", "value"] (spCont K) := by
  refine ⟨fd, F.bindsN fun _ _ _ _ _ _ us hl => match us, hl with | [_, _], _ => rfl, F.ok scTCont (fun vs H Q E h => ?_) (fun cdv A outer s H vs Q E hr h => ?_)⟩
  · obtain ⟨t, n, rs, v, d, rfl, _⟩ := h
    rfl
  · refine ⟨_, (pss_one (ps_ret (pe_o o_is_below (hr.mono (by decide)) (by rfl) (pa_cons (pv 1) (pa_cons (pe_fld (pv 0) rfl) pa_nil))))), ?_⟩
    obtain ⟨t, n, rs, v, d, rfl, T, r, q⟩ := h
    obtain ⟨dx, rt, nt, h1, _, _⟩ := T.ex
    exact ⟨_, rfl, _, rfl, _, _, _, _, _, rfl, h1, C.cl, C.nh, rfl, v, d, _, rfl, r, q⟩
theorem ok_len (F : Md K "__len__" "Tree.__len__" sTLen (MT K "__len__") fd) (C : TreeK K mg) (B : Bl mg) : OkM P w K mg base CX0 1 "__len__" ["self"] (spLen K) := by
  refine ⟨fd, F.bindsN fun _ _ _ _ _ _ us hl => match us, hl with | [_], _ => rfl, F.ok scTLen (fun vs H Q E h => ?_) (fun cdv A outer s H vs Q E hr h => ?_)⟩
  · obtain ⟨t, n, rs, rfl, _⟩ := h
    rfl
  · refine ⟨_, (pss_one (ps_ret (pe_callB call_len (by rfl) (B.u "len" (by decide +kernel)) boot_len (pa_cons (pe_fld (pv 0) rfl) pa_nil)))), ?_⟩
    obtain ⟨t, n, rs, rfl, T, q⟩ := h
    obtain ⟨dx, rt, nt, h1, _, rn⟩ := T.ex
    refine ⟨_, rfl, _, _, _, _, _, rfl, h1, C.cl, C.nn, rfl, ?_⟩
    cases rn with
    | tup h1 ra =>
      have l := rdds_len ra
      rw [List.length_map, List.length_range] at l
      exact ⟨_, _, rfl, .inr ⟨_, SqT.of h1, l.symm⟩, q⟩
theorem ok_eq (F : Md K "__eq__" "Tree.__eq__" sTEq (MT K "__eq__") fd) (C : TreeK K mg) (B : Bl mg) : OkM P w K mg base CX0 1 "__eq__" ["self", "other"] (spEq K) := by
  refine ⟨fd, F.bindsN fun _ _ _ _ _ _ us hl => match us, hl with | [_, _], _ => rfl, F.ok scTEq (fun vs H Q E h => ?_) (fun cdv A outer s H vs Q E hr h => ?_)⟩
  · obtain ⟨t, n, rs, v, o, rfl, _⟩ := h
    rfl
  · have hu : (cxOf CX0 P w K mg base ["self", "other"] "Tree.__eq__" (defScope sTEq) (MT K "__eq__") cdv A outer s H E).A.units + 64 < cLine := by
      have z := hr.un
      show (A.deeper _).units + 64 < cLine
      omega
    refine ⟨_, (pss_one (ps_ret (pe_and (pe_callB call_isi (by rfl) (B.u "isinstance" (by decide +kernel)) boot_isinstance (pa_cons (pv 1) (pa_cons (pe_glob (by rfl) C.g (v := .ref (CT K)) rfl) pa_nil))) (pe_and (pe_cmpR op_eq (pe_fld (pv 0) rfl) (pe_fld (pv 1) rfl) (nomark _)) (pe_one (pe_cmpR (op_eqD hu) (pe_fld (pv 0) rfl) (pe_fld (pv 1) rfl) (nomark _))))))), ?_⟩
    obtain ⟨t, n, rs, v, o, rfl, T, ho, q⟩ := h
    obtain ⟨dx, rt, nt, h1, r1, _⟩ := T.ex
    cases o with
    | none =>
      obtain ⟨d, r⟩ := ho
      exact ⟨_, rfl, v, _, _, _, false, rfl, .own _, r.tx, (C.no _ (tyd_mem d)).1, false, rfl, iteF q⟩
    | some p =>
      obtain ⟨m, qs⟩ := p
      obtain ⟨t2, rfl, T2⟩ := ho
      obtain ⟨dx2, rt2, nt2, h2, r2, _⟩ := T2.ex
      refine ⟨_, rfl, _, _, _, _, true, rfl, .own _, .base (.ins h2 C.cl C.ha C.hn C.htk C.hm), C.self, true, rfl, iteT ?_⟩
      refine ⟨_, rfl, _, _, _, _, _, rfl, h1, C.cl, C.nh, rfl, _, rfl, _, _, _, _, _, rfl, h2, C.cl, C.nh, rfl, rfl, _, rfl, iteB (fun e => ?_) fun e => ?_⟩
      · have e : n = m := by
          have := V.int.inj (of_decide_eq_true e)
          omega
        subst e
        refine ⟨_, rfl, _, _, _, _, _, rfl, h1, C.cl, C.nr, rfl, _, rfl, _, _, _, _, _, rfl, h2, C.cl, C.nr, rfl, _, _, r1.dp (SeqAt.canLay_of_shaped (rds_shaped rs)), r2.dp (SeqAt.canLay_of_shaped (rds_shaped qs)), rds_shaped rs, rds_shaped qs, ?_⟩
        rw [rds_eqv]
        have : decide (some (n, qs) = some (n, rs)) = decide (rs = qs) := by
          apply decide_eq_decide.mpr
          simp [eq_comm]
        rw [← this]
        exact q
      · have e : ¬ n = m := fun z => by
          rw [z] at e
          exact of_decide_eq_false e rfl
        have : decide (some (m, qs) = some (n, rs)) = false := by
          apply decide_eq_false
          intro z
          simp at z
          exact e z.1.symm
        rw [this] at q
        exact q
end
end K02

namespace L2
open PySem PySem.Spec PyProof.Rows
/-- all but instances is kept -/
def KeepI (H H' : Hp) : Prop := ∀ b o, H b = some o → (∀ C d f, o ≠ .ins C d f) → H' b = some o
mutual
theorem Rdd.keepI {H H' : Hp} (k : KeepI H H') : ∀ {v : V} {d : PyData}, Rdd H v d → Rdd H' v d
  | _, _, .non => .non
  | _, _, .bl b => .bl b
  | _, _, .int i => .int i
  | _, _, .str x => .str x
  | _, _, .lst h r => .lst (k _ _ h fun _ _ _ z => nomatch z) (RddAll.keepI k r)
  | _, _, .tup h r => .tup (k _ _ h fun _ _ _ z => nomatch z) (RddAll.keepI k r)
  | _, _, .dK h r q => .dK (k _ _ h fun _ _ _ z => nomatch z) (RddAll.keepI k r) (RddAll.keepI k q)
theorem RddAll.keepI {H H' : Hp} (k : KeepI H H') : ∀ {vs : List V} {ds : List PyData}, RddAll H vs ds → RddAll H' vs ds
  | _, _, .nil => .nil
  | _, _, .cons r t => .cons (Rdd.keepI k r) (RddAll.keepI k t)
end
theorem KeepI.upd {H : Hp} {x C d : Addr} {f : List (Str × V)} {o : HO} (h : H x = some (.ins C d f)) : KeepI H (upd H x o) := fun b u e n => by
  rw [upd_ne (fun z => by rw [z, h] at e; cases e; exact n _ _ _ rfl)]
  exact e
end L2
namespace K02
open PySem PySem.Spec PyProof.Rows L2
/-- refused by the class x, with v as f -/
def Refuses (K : PySem.W.Frag) (x f : Str) (v : V) (H : Hp) (E : XK) : Prop := ∀ d H', Same H H' → H' d = some (.xd [(f, v)]) → E (.ref (He.ga K x)) (some d) H'
theorem Refuses.mono {K : PySem.W.Frag} {x f : Str} {v : V} {H H1 : Hp} {E : XK} (k : Same H H1) (h : Refuses K x f v H E) : Refuses K x f v H1 E := fun d H' k' e => h d H' (k.trans k') e
/-- what becomes of Tree(vh, vr): W the tree's way out -/
structure Made (K : PySem.W.Frag) (H : Hp) (vh vr : V) (dh dr : PyData) (E : XK) (W : Nat → List Tm.Road → Prop) : Prop where
  hs : (¬ ∃ n : Nat, dh = .int n ∧ 1 ≤ n ∧ n ≤ 64) → Refuses K "InvalidHouses" "given" vh H E
  rs : ∀ n : Nat, dh = .int n → 1 ≤ n → n ≤ 64 → (¬ ∃ rs, isRoads dr rs ∧ Tm.RoadsOk n rs) → Refuses K "InvalidRoads" "given" vr H E
  nj : ∀ (n : Nat) (rs : List Tm.Road) (b : Tm.B) (h : Nat), dh = .int n → 1 ≤ n → n ≤ 64 → isRoads dr rs → Tm.RoadsOk n rs → Tm.Dfs (Tm.near rs) none [(0, 0)] [0] b → h < n → h ∉ Tm.keys b → (∀ k, k < h → k ∈ Tm.keys b) → Refuses K "NotJoined" "house" (.int h) H E
  ok : ∀ (n : Nat) (rs : List Tm.Road), dh = .int n → 1 ≤ n → n ≤ 64 → isRoads dr rs → Tm.RoadsOk n rs → Tm.Joined n rs → W n rs
def spInit (K : PySem.W.Frag) : Sp := fun vs H Q E => ∃ (x dx : Addr) (vh vr : V) (dh dr : PyData), vs = [.ref x, vh, vr] ∧ H x = some (.ins (CT K) dx []) ∧ Rdd H vh dh ∧ Rdd H vr dr ∧ Tame dr ∧
  Made K H vh vr dh dr E fun n rs => ∀ H', But x H H' → TreeAt K H' x n rs → Q .non H'
section
variable {P : Program} {w : World} {K : PySem.W.Frag} {mg : Str → Option Value} {base : Heap} {fd : FuncData}
theorem ok_init (F : Md K "__init__" "Tree.__init__" sTInit (MT K "__init__") fd) (C : TreeK K mg) (B : Bl mg) (h_MOST : ∃ t, mg "MOST_HOUSES" = some (.int 64 t)) (O_InvalidHouses : One P w K mg base "InvalidHouses" "given") (O_InvalidRoads : One P w K mg base "InvalidRoads" "given")
    (O_NotJoined : One P w K mg base "NotJoined" "house") (o_is_int : Ok P w K mg base CX0 1 "is_int" sIsInt ["value"] spIsInt) (o_are_roads : Ok P w K mg base CX0 2 "are_roads" sAreRoads ["houses", "value"] spAreRoads)
    (o_houses_near : Ok P w K mg base CX0 1 "houses_near" sNear ["houses", "roads"] spNear) (o_houses_from : Ok P w K mg base CX0 1 "houses_from" sFrom ["near", "start", "barred"] spFrom) : FnOk P w K mg base (L2N.CX P w) 3 (MT K "__init__") fd ["self", "houses", "roads"] (spInit K) := by
  obtain ⟨t64, h_MOST_HOUSES⟩ := h_MOST
  refine F.ok scTInit (fun vs H Q E h => ?_) (fun cdv A outer s H vs Q E hr h => ?_)
  · obtain ⟨x, dx, vh, vr, dh, dr, rfl, _⟩ := h
    rfl
  · have tk : L2N.Takes (cxOf (L2N.CX P w) P w K mg base ["self", "houses", "roads", "near", "joined", "house"] "Tree.__init__" (defScope sTInit) (MT K "__init__") cdv A outer s H E) (fun cls d _ H => E cls d H) := L2N.takes_of rfl rfl rfl rfl
    have hu : (cxOf (L2N.CX P w) P w K mg base ["self", "houses", "roads", "near", "joined", "house"] "Tree.__init__" (defScope sTInit) (MT K "__init__") cdv A outer s H E).A.units + 1 < cLine := by
      have z := hr.un
      show (A.deeper _).units + 1 < cLine
      omega
    refine ⟨_, (pss_cons (ps_if (pw_or (pt_not (pt_val (pe_o o_is_int (hr.mono (by decide)) (by rfl) (pa_cons (pv 1) pa_nil)))) (pw_or1 (pt_not (pt_chain op_le op_le pe_int (pv 1) (pe_glob (by rfl) h_MOST_HOUSES (v := .int 64) ⟨_, rfl⟩))))).pt
        (pss_one (L2N.ps_raise rfl tk (by exact (pmk_e1 O_InvalidHouses (hr.mono (by decide)) (pv 1) (by rfl)))))
        pss_nil)
      (pss_cons (ps_if (pt_not (pt_val (pe_o o_are_roads (hr.mono (by decide)) (by rfl) (pa_cons (pv 1) (pa_cons (pv 2) pa_nil)))))
        (pss_one (L2N.ps_raise rfl tk (by exact (pmk_e1 O_InvalidRoads (hr.mono (by decide)) (pv 2) (by rfl)))))
        pss_nil)
      (pss_cons (ps_set (i := 3) scTInit.nd rfl (Or.inl rfl) (pe_o o_houses_near (hr.mono (by decide)) (by rfl) (pa_cons (pv 1) (pa_cons (pv 2) pa_nil))))
      (pss_cons (ps_set (i := 4) scTInit.nd rfl (Or.inl rfl) (pe_o o_houses_from (hr.mono (by decide)) (by rfl) (pa_cons (pv 3) (pa_cons pe_int (pa_cons pe_non pa_nil)))))
      (pss_cons (ps_for (passes_of rfl) rfl (pi_range1 (by rfl) (B.u "range" (by decide +kernel)) (pa_cons (pv 1) pa_nil)) (pg_name (i := 5) scTInit.nd rfl (Or.inl rfl))
        (pss_one (ps_if (pt_cmp (pc_dnotin hu (pv 5) (pv 4)))
          (pss_one (L2N.ps_raise rfl tk (by exact (pmk_e1 O_NotJoined (hr.mono (by decide)) (pv 5) (by rfl)))))
          pss_nil)))
      (pss_cons (ps_fld (pv 0) (pv 1) rfl)
      (pss_cons (ps_fld (pv 0) (pe_callTy call_tuple_of (by rfl) (B.u "tuple" (by decide +kernel)) (by decide +kernel) (pa_cons (pv 2) pa_nil)) rfl)
      (pss_one (ps_fld (pv 0) (pv 3) rfl))))))))), ?_⟩
    obtain ⟨x, dx, vh, vr, dh, dr, rfl, hx, rh, rr, tr, M⟩ := h
    refine ⟨_, rfl, _, _, rfl, rh, _, rfl, iteB (fun e => iteT ⟨_, rfl, M.hs fun ⟨n, z, _⟩ => ?_⟩) fun e => ?_⟩
    · subst z
      simp [tyd] at e
    obtain ⟨i, rfl, rfl⟩ := rh.int_of (of_decide_eq_true (not_f e))
    refine ⟨_, rfl, _, _, rfl, rfl, _, rfl, iteB (fun e1 => ?_) fun e1 => ?_⟩
    · refine ⟨_, _, rfl, rfl, _, rfl, iteB (fun e2 => ?_) fun e2 => ?_⟩
      · refine ⟨_, rfl, M.hs fun ⟨n, z, h1, h2⟩ => ?_⟩
        have := of_decide_eq_false (not_t e2)
        simp at z
        omega
      have l1 := of_decide_eq_true e1
      have l2 := of_decide_eq_true (not_f e2)
      obtain ⟨n, rfl⟩ : ∃ n : Nat, i = n := ⟨i.toNat, by omega⟩
      have n1 : 1 ≤ n := by omega
      have n2 : n ≤ 64 := by omega
      refine ⟨_, rfl, _, rfl, n, vr, dr, rfl, rr, tr, n1, by omega, fun b H1 k1 hb => ⟨_, rfl, iteB (fun e => ?_) fun e => ?_⟩⟩
      · refine ⟨_, rfl, (M.rs n rfl n1 n2 fun z => ?_).mono k1⟩
        rw [hb.mpr z] at e
        cases e
      obtain ⟨rs, hrs, ok⟩ := hb.mp (not_f e)
      have lD : listD dr = true := by rcases hrs with rfl | rfl <;> rfl
      obtain ⟨p, xs, ds, rfl, hp, ra, hd⟩ := row_of rr lD
      have eds := (isRoads_row hd).mp hrs
      subst eds
      have ll := ok.len
      refine ⟨_, rfl, _, rfl, n, p, xs, rs, rfl, hp.mono k1, ra.mono k1, ok.bnd, by omega, by omega, fun nt H2 k2 rn => ?_⟩
      refine ⟨_, rfl, nt, n, 0, rs, none, rfl, rn, ok.bnd, by omega, by omega, fun d b H3 k3 nd3 hdf G hd3 => ?_⟩
      have k03 : Same H H3 := k1.trans (k2.trans k3)
      have lt : ∀ h, ∀ x ∈ Tm.near rs h, x < n := fun h x hx => (Tm.near_lt ok.bnd hx).1
      refine ⟨_, rfl, _, rfl, by omega, by omega, for_range (n := n) (fun i σ H' => H' = H3 ∧ (∀ k, k < i → k ∈ Tm.keys b) ∧ ∃ a : Option V, σ = [some (.ref x), some (.int n), some (.ref p), some (.ref nt), some (.ref d), a]) ⟨rfl, (fun k z => absurd z (Nat.not_lt_zero _)), none, rfl⟩ ?_ ?_⟩
      · rintro i σ H4 hi ⟨rfl, hk, a, rfl⟩
        have e0 : (0 : Int) + i = (i : Nat) := by omega
        rw [e0]
        refine ⟨_, rfl, _, rfl, d, _, rfl, DGet.k (k := Sum.inl (i : Int)) hd3, _, rfl, iteB (fun c => ?_) fun c => ?_⟩
        · rw [dkv_val] at c
          have c := of_decide_eq_false (not_t c)
          exact ⟨_, rfl, (M.nj n rs b i rfl n1 n2 hrs ok hdf hi c hk).mono k03⟩
        · rw [dkv_val] at c
          have c := of_decide_eq_true (not_f c)
          refine ⟨rfl, fun k lk => ?_, _, rfl⟩
          by_cases z : k = i
          · rw [z]; exact c
          · exact hk k (by omega)
      · rintro σ H4 ⟨rfl, hk, a, rfl⟩
        have bl : b.length = n := by
          have up := G.room (by omega) lt
          have dn : (List.range n).length ≤ (Tm.keys b).length := by
            have c2 : ∀ (l m : List Nat), l.Nodup → (∀ x ∈ l, x ∈ m) → l.length ≤ m.length := by
              intro l
              induction l with
              | nil => intro m _ _; exact Nat.zero_le _
              | cons a l ih =>
                intro m d s
                have d' := List.nodup_cons.mp d
                have ha := s a List.mem_cons_self
                have l1 := List.length_erase_of_mem ha
                have l2 := List.length_pos_of_mem ha
                have i := ih (m.erase a) d'.2 fun y hy => (List.mem_erase_of_ne fun q => d'.1 (by rw [← q]; exact hy)).mpr (s y (List.mem_cons_of_mem _ hy))
                rw [List.length_cons]
                omega
            exact c2 _ _ List.nodup_range fun k hk2 => hk k (List.mem_range.mp hk2)
          rw [List.length_range] at dn
          simp only [Tm.keys, List.length_map] at dn
          omega
        have W := M.ok n rs rfl n1 n2 hrs ok ⟨b, hdf, bl⟩
        have hx3 := k03 _ _ hx
        have fin : ∀ (rt : Addr) (Hb : Hp), Hb x = some (.ins (CT K) dx [("houses", .int n)]) → (∀ b o, b ≠ x → H4 b = some o → Hb b = some o) → Rdd Hb (.ref rt) (.tuple (rs.map rd)) →
            sFld K (tVar 0) (tVar 3) "near" { nx := fun _ H' => Q .non H', rt := Q } [some (.ref x), some (.int n), some (.ref p), some (.ref nt), some (.ref d), a] (upd Hb x (.ins (CT K) dx [("houses", .int n), ("roads", .ref rt)])) := by
          intro rt Hb h5 k5 r5
          refine ⟨_, rfl, _, rfl, x, _, dx, _, rfl, upd_same, C.cl, C.nn, (by show 2 < 1000; decide), ?_⟩
          have kI : KeepI Hb (upd (upd Hb x (.ins (CT K) dx [("houses", .int n), ("roads", .ref rt)])) x (.ins (CT K) dx (putF "near" (.ref nt) [("houses", .int n), ("roads", .ref rt)]))) := fun b o e z => by
            have nb : b ≠ x := fun y => by rw [y, h5] at e; cases e; exact z _ _ _ rfl
            rw [upd_ne nb, upd_ne nb]
            exact e
          refine W _ (fun b o nb e => ?_) ⟨⟨dx, rt, nt, upd_same, r5.keepI kI, ?_⟩, ok, ⟨b, hdf, bl⟩, n2⟩
          · rw [upd_ne nb, upd_ne nb]
            exact k5 _ _ nb (k03 _ _ e)
          · refine Rdd.keepI ?_ (rn.mono k3)
            intro b o e z
            have nb : b ≠ x := fun y => by rw [y, hx3] at e; cases e; exact z _ _ _ rfl
            rw [upd_ne nb, upd_ne nb]
            exact k5 _ _ nb e
        refine ⟨_, rfl, _, rfl, x, _, dx, _, rfl, hx3, C.cl, C.nh, (by show 0 < 1000; decide), ?_⟩
        have kI := KeepI.upd (o := .ins (CT K) dx (putF "houses" (.int n) [])) hx3
        have ra3 : RddAll H4 xs (rs.map rd) := ra.mono k03
        have hp3 := hp.mono k03
        rcases hp3 with h1 | h1
        · have h1' := kI _ _ h1 fun _ _ _ z => nomatch z
          refine ⟨_, rfl, p, xs, rfl, .inl ⟨SqL.of h1', fun t ht => ?_⟩⟩
          have nx : x ≠ t := fun y => by rw [← y, upd_same] at ht; cases ht
          refine ⟨_, rfl, x, _, dx, [("houses", .int n)], rfl, (by rw [upd_ne nx]; exact upd_same), C.cl, C.nr, (by show 1 < 1000; decide), fin t _ (by rw [upd_ne nx]; exact upd_same) (fun b o nb e => ?_) (.tup upd_same ((ra3.keepI kI).mono (upd_grow ht)))⟩
          have e2 : upd H4 x (.ins (CT K) dx (putF "houses" (.int n) [])) b = some o := by rw [upd_ne nb]; exact e
          rw [upd_ne (ne_of_none e2 ht)]
          exact e2
        · have h1' := kI _ _ h1 fun _ _ _ z => nomatch z
          refine ⟨_, rfl, p, xs, rfl, .inr ⟨SqT.of h1', ?_⟩⟩
          refine ⟨_, rfl, x, _, dx, [("houses", .int n)], rfl, upd_same, C.cl, C.nr, (by show 1 < 1000; decide), fin p _ upd_same (fun b o nb e => ?_) (.tup h1' (ra3.keepI kI))⟩
          rw [upd_ne nb]
          exact e
    · refine ⟨false, rfl, iteT ⟨_, rfl, M.hs fun ⟨n, z, h1, h2⟩ => ?_⟩⟩
      have := of_decide_eq_false e1
      simp at z
      omega
end
end K02

namespace Tm
/-! ways in a tree, from any house -/
theorem Up.head {b : B} {s x : Nat} {l : List Nat} (u : Up b s x l) : l.head? = some x := by cases u <;> rfl
/-- step by step -/
theorem Up.get {b : B} {s x : Nat} {l : List Nat} (u : Up b s x l) : ∀ i (h : i < l.length), (i + 1 < l.length → ∃ h2 : i + 1 < l.length, (l[i], l[i + 1]) ∈ b ∧ l[i] ≠ s) ∧ (i + 1 = l.length → l[i] = s) := by
  induction u with
  | here =>
    intro i h
    simp only [List.length_cons, List.length_nil] at h
    have : i = 0 := by omega
    subst this
    exact ⟨fun z => by simp at z, fun _ => rfl⟩
  | @step x p l ne m u ih =>
    intro i h
    cases i with
    | zero =>
      cases u with
      | here => exact ⟨fun z => ⟨z, m, ne⟩, fun z => by simp at z⟩
      | step a c d => exact ⟨fun z => ⟨z, m, ne⟩, fun z => by simp at z⟩
    | succ i =>
      have h' : i < l.length := by simpa using h
      obtain ⟨h1, h2⟩ := ih i h'
      refine ⟨fun z => ?_, fun z => ?_⟩
      · have z' : i + 1 < l.length := by simpa using z
        obtain ⟨z2, e1, e2⟩ := h1 z'
        exact ⟨z, e1, e2⟩
      · have z' : i + 1 = l.length := by simpa using z
        exact h2 z'
/-- from any house all others are reached -/
theorem joined_from {n : Nat} {rs : List Road} (ok : RoadsOk n rs) (j : Joined n rs) {s : Nat} (hs : s < n) {r : B} (d : Dfs (near rs) none [(s, s)] [s] r) : ∀ x, x < n → x ∈ keys r := by
  obtain ⟨b, d0, e⟩ := j
  have G0 := d0.going .start
  have G := d.going .start
  have ne : ∀ r ∈ rs, r.1 < r.2 := fun r hr => (ok.bnd r hr).1
  have lt : ∀ h, ∀ x ∈ near rs h, x < n := fun h x hx => (near_lt ok.bnd hx).1
  have n0 : 0 < n := by omega
  have cl : ∀ x y, x ∈ keys r → y ∈ near rs x → y ∈ keys r := fun x y hx hy => G.c x hx (fun z => nomatch z) y hy (fun z => nomatch z)
  have key : ∀ b : B, Grown (near rs) none 0 b → ∀ x ∈ keys b, (x ∈ keys r ↔ 0 ∈ keys r) := by
    intro b g
    induction g with
    | base =>
      intro x hx
      simp [keys] at hx
      rw [hx]
    | @grow b x p g hp hx nb nk ih =>
      intro y hy
      rw [keys_snoc] at hy
      rcases List.mem_append.mp hy with hy | hy
      · exact ih y hy
      · simp at hy
        subst hy
        rw [← ih p hp]
        exact ⟨fun z => cl _ _ z (near_sym ne hx), fun z => cl _ _ z hx⟩
  have all := all_keys G0.g.nodup (G0.g.bound n0 lt) (by simpa [keys] using e)
  intro x hx
  rw [key b G0.g x (all x hx), ← key b G0.g s (all s hs)]
  exact G.g.start
/-- l is the way from a to b -/
def Way (rs : List Road) (a b : Nat) (l : List Nat) : Prop := ∃ r, Dfs (near rs) none [(b, b)] [b] r ∧ Up r b a l
theorem Way.det {rs : List Road} {a b : Nat} {l l' : List Nat} (h : Way rs a b l) (k : Way rs a b l') : l = l' := by
  obtain ⟨r, d, u⟩ := h
  obtain ⟨r', d', u'⟩ := k
  have := d.det d'
  subst this
  exact u.det (d.going .start).g.nodup u'
theorem way_path {n : Nat} {rs : List Road} {a b : Nat} {l : List Nat} (ok : RoadsOk n rs) (j : Joined n rs) (ha : a < n) (hb : b < n) (h : Way rs a b l) : Path (near rs) a b l ∧ ∀ x ∈ l, x < n := by
  obtain ⟨r, d, u⟩ := h
  have G := d.going .start
  have lt : ∀ h, ∀ x ∈ near rs h, x < n := fun h x hx => (near_lt ok.bnd hx).1
  obtain ⟨l', u', p, sub⟩ := G.g.up a (joined_from ok j hb d a ha)
  have := u.det G.g.nodup u'
  subst this
  exact ⟨p, fun x hx => G.g.bound hb lt x (sub x hx)⟩
theorem way_ex {n : Nat} {rs : List Road} {a b : Nat} (ok : RoadsOk n rs) (j : Joined n rs) (ha : a < n) (hb : b < n) : ∃ l, Way rs a b l := by
  have lt : ∀ h, ∀ x ∈ near rs h, x < n := fun h x hx => (near_lt ok.bnd hx).1
  obtain ⟨r, d, G⟩ := dfs_all (nr := near rs) (bar := none) hb lt
  obtain ⟨l, u, _⟩ := G.g.up a (joined_from ok j hb d a ha)
  exact ⟨l, r, d, u⟩
/-- the foot of c on the way from a to b -/
theorem way_foot {n : Nat} {rs : List Road} {a b c : Nat} {L M1 M2 : List Nat} (ok : RoadsOk n rs) (j : Joined n rs) (ha : a < n) (hb : b < n) (hc : c < n) (h : Way rs a b L) (h1 : Way rs c a M1) (h2 : Way rs c b M2) :
    ∃ m, (M1.filter fun h => decide (h ∈ L)).head? = some m ∧ (L.filter fun h => decide (h ∈ M1) && decide (h ∈ M2)).head? = some m ∧ m ∈ L := by
  obtain ⟨b0, R⟩ := rooted ok j
  exact foot_eq R hb hc (way_path ok j ha hb h).1 (way_path ok j hc ha h1).1 (way_path ok j hc hb h2).1
/-- sorted lists with the same items are equal -/
theorem sort_one : ∀ {l l' : List Int}, l.Perm l' → l.Pairwise (· ≤ ·) → l'.Pairwise (· ≤ ·) → l = l'
  | [], l', p, _, _ => by rw [List.nil_perm.mp p]
  | a :: l, [], p, _, _ => by have := p.length_eq; simp at this
  | a :: l, b :: l', p, h, h' => by
    have h1 := List.pairwise_cons.mp h
    have h2 := List.pairwise_cons.mp h'
    have e : a = b := by
      have m1 : a ∈ b :: l' := p.mem_iff.mp List.mem_cons_self
      have m2 : b ∈ a :: l := p.mem_iff.mpr List.mem_cons_self
      have l1 : b ≤ a := by
        rcases List.mem_cons.mp m1 with z | z
        · omega
        · exact h2.1 a z
      have l2 : a ≤ b := by
        rcases List.mem_cons.mp m2 with z | z
        · omega
        · exact h1.1 b z
      omega
    subst e
    rw [sort_one (List.perm_cons a |>.mp p) h1.2 h2.2]
end Tm

namespace K02
open PySem PySem.Spec PyProof.Rows L2
abbrev sChkH : Stmt := top 20
theorem scChkH : FnScope ["tree", "house"] ["tree", "house"] (defScope sChkH) := ⟨rfl, rfl, rfl, by decide +kernel, rfl, by decide +kernel, by decide +kernel⟩
abbrev sChkR : Stmt := top 21
theorem scChkR : FnScope ["tree", "u", "v"] ["tree", "u", "v"] (defScope sChkR) := ⟨rfl, rfl, rfl, by decide +kernel, rfl, by decide +kernel, by decide +kernel⟩
abbrev sNeigh : Stmt := top 22
theorem scNeigh : FnScope ["tree", "house"] ["tree", "house"] (defScope sNeigh) := ⟨rfl, rfl, rfl, by decide +kernel, rfl, by decide +kernel, by decide +kernel⟩
abbrev sWayS : Stmt := top 23
theorem scWayS : FnScope ["tree", "a", "b", "toward", "houses"] ["tree", "a", "b"] (defScope sWayS) := ⟨rfl, rfl, rfl, by decide +kernel, rfl, by decide +kernel, by decide +kernel⟩
abbrev sOnWay : Stmt := top 24
theorem scOnWay : FnScope ["tree", "a", "b", "house", "houses"] ["tree", "a", "b", "house"] (defScope sOnWay) := ⟨rfl, rfl, rfl, by decide +kernel, rfl, by decide +kernel, by decide +kernel⟩
abbrev sSideS : Stmt := top 25
theorem scSideS : FnScope ["tree", "u", "v"] ["tree", "u", "v"] (defScope sSideS) := ⟨rfl, rfl, rfl, by decide +kernel, rfl, by decide +kernel, by decide +kernel⟩
abbrev sFootS : Stmt := top 26
theorem scFootS : FnScope ["tree", "a", "b", "house", "houses", "near"] ["tree", "a", "b", "house"] (defScope sFootS) := ⟨rfl, rfl, rfl, by decide +kernel, rfl, by decide +kernel, by decide +kernel⟩
def Refuses2 (K : PySem.W.Frag) (x f g : Str) (v w : V) (H : Hp) (E : XK) : Prop := ∀ d H', Same H H' → H' d = some (.xd [(g, w), (f, v)]) → E (.ref (He.ga K x)) (some d) H'
/-- one house is asked: W a is the way on -/
structure One1 (K : PySem.W.Frag) (H : Hp) (n : Nat) (v : V) (d : PyData) (E : XK) (W : Nat → Prop) : Prop where
  r : Rdd H v d
  no : belowD n d = false → Refuses K "InvalidHouse" "given" v H E
  ok : ∀ a : Nat, a < n → v = .int a → d = .int a → W a
theorem One1.mono {K : PySem.W.Frag} {H H' : Hp} {n : Nat} {v : V} {d : PyData} {E : XK} {W : Nat → Prop} (k : Same H H') (h : One1 K H n v d E W) : One1 K H' n v d E W :=
  ⟨h.r.mono k, fun z d H2 k2 e => h.no z d H2 (k.trans k2) e, h.ok⟩
theorem int_of {H : Hp} {v : V} {d : PyData} {n : Nat} (r : Rdd H v d) (h : belowD n d = true) : ∃ a : Nat, a < n ∧ v = .int a ∧ d = .int a := by
  obtain ⟨u, rfl, hu⟩ := belowD_nat h
  cases r
  exact ⟨u, hu, rfl, rfl⟩
def spChkH (K : PySem.W.Frag) : Sp := fun vs H Q E => ∃ t n rs v d, vs = [.ref t, v] ∧ TreeAt K H t n rs ∧ One1 K H n v d E fun _ => Q .non H
def spChkR (K : PySem.W.Frag) : Sp := fun vs H Q E => ∃ t n rs u v du dv, vs = [.ref t, u, v] ∧ TreeAt K H t n rs ∧ One1 K H n u du E fun a => One1 K H n v dv E fun b =>
  (b ∉ Tm.near rs a → Refuses2 K "NotARoad" "u" "v" u v H E) ∧ (b ∈ Tm.near rs a → Q .non H)
def spNeigh (K : PySem.W.Frag) : Sp := fun vs H Q E => ∃ t n rs v d, vs = [.ref t, v] ∧ TreeAt K H t n rs ∧ One1 K H n v d E fun a => ∀ p, H p = none → Q (.ref p) (upd H p (.lst (natV (Tm.near rs a))))
def spWay (K : PySem.W.Frag) : Sp := fun vs H Q E => ∃ t n rs u v du dv, vs = [.ref t, u, v] ∧ TreeAt K H t n rs ∧ One1 K H n u du E fun a => One1 K H n v dv E fun b =>
  ∀ l p H', Tm.Way rs a b l → Same H H' → H' p = some (.tup (natV l)) → Q (.ref p) H'
def spOnWay (K : PySem.W.Frag) : Sp := fun vs H Q E => ∃ t n rs u v w du dv dw, vs = [.ref t, u, v, w] ∧ TreeAt K H t n rs ∧ One1 K H n u du E fun a => One1 K H n v dv E fun b => One1 K H n w dw E fun c =>
  ∀ l H', Tm.Way rs a b l → Same H H' → Q (.bl (decide (c ∈ l))) H'
def spSide (K : PySem.W.Frag) : Sp := fun vs H Q E => ∃ t n rs u v du dv, vs = [.ref t, u, v] ∧ TreeAt K H t n rs ∧ One1 K H n u du E fun a => One1 K H n v dv E fun b =>
  (b ∉ Tm.near rs a → Refuses2 K "NotARoad" "u" "v" u v H E) ∧ (b ∈ Tm.near rs a → ∀ r (ks : List Int) p H', Tm.Dfs (Tm.near rs) (some b) [(a, a)] [a] r → ks.Perm ((Tm.keys r).map fun x : Nat => (x : Int)) → ks.Pairwise (· ≤ ·) → Same H H' → H p = none → H' p = some (.lst (ks.map V.int)) → Q (.ref p) H')
def spFoot (K : PySem.W.Frag) : Sp := fun vs H Q E => ∃ t n rs u v w du dv dw, vs = [.ref t, u, v, w] ∧ TreeAt K H t n rs ∧ One1 K H n u du E fun a => One1 K H n v dv E fun b => One1 K H n w dw E fun c =>
  ∀ L M m H', Tm.Way rs a b L → Tm.Way rs c a M → (M.filter fun h => decide (h ∈ L)).head? = some m → Same H H' → Q (.int (m : Nat)) H'
section
variable {P : Program} {w : World} {K : PySem.W.Frag} {mg : Str → Option Value} {base : Heap} {f : Addr} {fd : FuncData}
theorem ok_check_house (F : Fd K "check_house" sChkH f fd) (g : mg "check_house" = some (.ref f)) (C : TreeK K mg) (O_InvalidHouse : One P w K mg base "InvalidHouse" "given") (M : OkM P w K mg base CX0 2 "__contains__" ["self", "value"] (spCont K)) :
    Ok P w K mg base (L2N.CX P w) 3 "check_house" sChkH ["tree", "house"] (spChkH K) := by
  obtain ⟨fC, bC, oC⟩ := M.ex
  refine ⟨f, fd, g, F, F.bindsN fun _ _ _ _ _ _ us hl => match us, hl with | [_, _], _ => rfl, F.ok scChkH (fun vs H Q E h => ?_) (fun cdv A outer s H vs Q E hr h => ?_)⟩
  · obtain ⟨t, n, rs, v, d, rfl, _⟩ := h
    rfl
  · have tk : L2N.Takes (cxOf (L2N.CX P w) P w K mg base ["tree", "house"] "check_house" (defScope sChkH) f cdv A outer s H E) (fun cls d _ H => E cls d H) := L2N.takes_of rfl rfl rfl rfl
    refine ⟨_, (pss_one (ps_if (pt_cmpR (op_notInO oC bC pass0 hr C.co C.cof) (pv 1) (pv 0) (by rfl))
        (pss_one (L2N.ps_raise rfl tk (by exact (pmk_e1 O_InvalidHouse (hr.mono (by decide)) (pv 1) (by rfl)))))
        pss_nil)), ?_⟩
    obtain ⟨t, n, rs, v, d, rfl, T, O⟩ := h
    obtain ⟨dx, rt, nt, h1, _, _⟩ := T.ex
    refine ⟨_, rfl, _, rfl, t, dx, _, rfl, h1, t, n, rs, v, d, rfl, T, O.r, _, rfl, _, rfl, iteB (fun e => ?_) fun e => ?_⟩
    · exact ⟨_, rfl, O.no (not_t e)⟩
    · obtain ⟨a, ha, rfl, rfl⟩ := int_of O.r (not_f e)
      exact O.ok a ha rfl rfl
theorem natV_flat (l : List Nat) : (natV l).all flatV = true := by
  unfold natV
  rw [List.all_map, List.all_eq_true]
  exact fun _ _ => rfl
theorem natV_in (x : Nat) (l : List Nat) : inV (.int (x : Int)) (natV l) = decide (x ∈ l) := by
  unfold inV natV
  rw [List.any_map]
  induction l with
  | nil => rfl
  | cons y l ih =>
    rw [List.any_cons, ih]
    show (((y : Int) == (x : Int)) || decide (x ∈ l)) = _
    by_cases e : y = x
    · subst e; simp
    · have e1 : ¬ (y : Int) = x := by omega
      have e2 : ¬ x = y := fun z => e z.symm
      simp [e1, e2]
theorem ok_check_road (F : Fd K "check_road" sChkR f fd) (g : mg "check_road" = some (.ref f)) (C : TreeK K mg) (O_NotARoad : Two P w K mg base "NotARoad" "u" "v") (o_check_house : Ok P w K mg base (L2N.CX P w) 3 "check_house" sChkH ["tree", "house"] (spChkH K)) :
    Ok P w K mg base (L2N.CX P w) 4 "check_road" sChkR ["tree", "u", "v"] (spChkR K) := by
  refine ⟨f, fd, g, F, F.bindsN fun _ _ _ _ _ _ us hl => match us, hl with | [_, _, _], _ => rfl, F.ok scChkR (fun vs H Q E h => ?_) (fun cdv A outer s H vs Q E hr h => ?_)⟩
  · obtain ⟨t, n, rs, u, v, du, dv, rfl, _⟩ := h
    rfl
  · have tk : L2N.Takes (cxOf (L2N.CX P w) P w K mg base ["tree", "u", "v"] "check_road" (defScope sChkR) f cdv A outer s H E) (fun cls d _ H => E cls d H) := L2N.takes_of rfl rfl rfl rfl
    refine ⟨_, (pss_cons (ps_expr (pe_oS o_check_house (hr.mono (by decide)) (by rfl) (fun σ => L2N.passAt tk σ) (pa_cons (pv 0) (pa_cons (pv 1) pa_nil))))
      (pss_cons (ps_expr (pe_oS o_check_house (hr.mono (by decide)) (by rfl) (fun σ => L2N.passAt tk σ) (pa_cons (pv 0) (pa_cons (pv 2) pa_nil))))
      (pss_one (ps_if (pt_cmpR op_notIn_seq (pv 2) (pe_ix ix_seq (pe_fld (pv 0) rfl) (pv 1) fun _ _ => rfl) (by rfl))
        (pss_one (L2N.ps_raise rfl tk (by exact (pmk_e2 O_NotARoad (hr.mono (by decide)) (pv 1) (pv 2) (by rfl)))))
        pss_nil)))), ?_⟩
    obtain ⟨t, n, rs, u, v, du, dv, rfl, T, O⟩ := h
    obtain ⟨dx, rt, nt, h1, _, rn⟩ := T.ex
    refine ⟨_, rfl, _, rfl, t, n, rs, u, du, rfl, T, O.r, O.no, fun a ha eu ed => ?_⟩
    have O2 := O.ok a ha eu ed
    refine ⟨_, rfl, _, rfl, t, n, rs, v, dv, rfl, T, O2.r, O2.no, fun b hb ev ed2 => ?_⟩
    obtain ⟨no, ok⟩ := O2.ok b hb ev ed2
    obtain ⟨rows, tt, g1, g2, g3⟩ := near_row rn ha
    subst eu ev
    refine ⟨_, rfl, _, rfl, _, _, _, _, _, rfl, h1, C.cl, C.nn, rfl, _, rfl, ixTup (SqT.of g1) g2 ⟨tt, natV (Tm.near rs a), rfl, .inr (SqT.of g3), rfl, natV_flat _, _, rfl, iteB (fun e => ?_) fun e => ?_⟩⟩
    · rw [if_pos rfl, natV_in] at e
      exact ⟨_, _, rfl, rfl, no (of_decide_eq_false (not_t e))⟩
    · rw [if_pos rfl, natV_in] at e
      exact ok (of_decide_eq_true (not_f e))
theorem ok_neighbours (F : Fd K "neighbours" sNeigh f fd) (g : mg "neighbours" = some (.ref f)) (C : TreeK K mg) (B : Bl mg) (o_check_house : Ok P w K mg base (L2N.CX P w) 3 "check_house" sChkH ["tree", "house"] (spChkH K)) :
    Ok P w K mg base (L2N.CX P w) 4 "neighbours" sNeigh ["tree", "house"] (spNeigh K) := by
  refine ⟨f, fd, g, F, F.bindsN fun _ _ _ _ _ _ us hl => match us, hl with | [_, _], _ => rfl, F.ok scNeigh (fun vs H Q E h => ?_) (fun cdv A outer s H vs Q E hr h => ?_)⟩
  · obtain ⟨t, n, rs, v, d, rfl, _⟩ := h
    rfl
  · have tk : L2N.Takes (cxOf (L2N.CX P w) P w K mg base ["tree", "house"] "neighbours" (defScope sNeigh) f cdv A outer s H E) (fun cls d _ H => E cls d H) := L2N.takes_of rfl rfl rfl rfl
    refine ⟨_, (pss_cons (ps_expr (pe_oS o_check_house (hr.mono (by decide)) (by rfl) (fun σ => L2N.passAt tk σ) (pa_cons (pv 0) (pa_cons (pv 1) pa_nil))))
      (pss_one (ps_ret (pe_callTy call_list_of (by rfl) (B.u "list" (by decide +kernel)) (by decide +kernel) (pa_cons (pe_ix ix_seq (pe_fld (pv 0) rfl) (pv 1) fun _ _ => rfl) pa_nil))))), ?_⟩
    obtain ⟨t, n, rs, v, d, rfl, T, O⟩ := h
    obtain ⟨dx, rt, nt, h1, _, rn⟩ := T.ex
    refine ⟨_, rfl, _, rfl, t, n, rs, v, d, rfl, T, O.r, O.no, fun a ha eu ed => ?_⟩
    have q := O.ok a ha eu ed
    obtain ⟨rows, tt, g1, g2, g3⟩ := near_row rn ha
    subst eu
    exact ⟨_, rfl, _, _, _, _, _, rfl, h1, C.cl, C.nn, rfl, _, rfl, ixTup (SqT.of g1) g2 ⟨tt, _, rfl, .inr (SqT.of g3), q⟩⟩
end
end K02

namespace K02
open PySem PySem.Spec PyProof.Rows L2
theorem natV_last {l : List Nat} {i : Nat} (h : i < l.length) : atI (natV (l.take (i + 1))) (-1) = some (.int (l[i] : Nat)) := by
  rw [List.take_succ_eq_append_getElem h]
  unfold natV
  rw [List.map_append]
  exact atI_last _ _
theorem rIx_mono {K : PySem.W.Frag} {x y : V} {H : Hp} {Q Q' : VK} (h : rIx K x y H Q) (k : ∀ v, Q v H → Q' v H) : rIx K x y H Q' := by
  rcases h with ⟨a, b, c, d, e1, e2, e3, e4, q⟩ | ⟨a, b, c, d, e1, e2, e3, e4, q⟩ | ⟨a, b, c, e1, e2, e3, e4, q⟩
  · exact .inl ⟨a, b, c, d, e1, e2, e3, e4, k _ q⟩
  · exact .inr (.inl ⟨a, b, c, d, e1, e2, e3, e4, k _ q⟩)
  · exact .inr (.inr ⟨a, b, c, e1, e2, e3, e4, k _ q⟩)
section
variable {P : Program} {w : World} {K : PySem.W.Frag} {mg : Str → Option Value} {base : Heap} {f : Addr} {fd : FuncData}
theorem ok_way (F : Fd K "way" sWayS f fd) (g : mg "way" = some (.ref f)) (C : TreeK K mg) (B : Bl mg) (o_check_house : Ok P w K mg base (L2N.CX P w) 3 "check_house" sChkH ["tree", "house"] (spChkH K))
    (o_houses_from : Ok P w K mg base CX0 1 "houses_from" sFrom ["near", "start", "barred"] spFrom) : Ok P w K mg base (L2N.CX P w) 4 "way" sWayS ["tree", "a", "b"] (spWay K) := by
  refine ⟨f, fd, g, F, F.bindsN fun _ _ _ _ _ _ us hl => match us, hl with | [_, _, _], _ => rfl, F.ok scWayS (fun vs H Q E h => ?_) (fun cdv A outer s H vs Q E hr h => ?_)⟩
  · obtain ⟨t, n, rs, u, v, du, dv, rfl, _⟩ := h
    rfl
  · have tk : L2N.Takes (cxOf (L2N.CX P w) P w K mg base ["tree", "a", "b", "toward", "houses"] "way" (defScope sWayS) f cdv A outer s H E) (fun cls d _ H => E cls d H) := L2N.takes_of rfl rfl rfl rfl
    have hu : (cxOf (L2N.CX P w) P w K mg base ["tree", "a", "b", "toward", "houses"] "way" (defScope sWayS) f cdv A outer s H E).A.units + 1 < cLine := by
      have z := hr.un
      show (A.deeper _).units + 1 < cLine
      omega
    refine ⟨_, (pss_cons (ps_expr (pe_oS o_check_house (hr.mono (by decide)) (by rfl) (fun σ => L2N.passAt tk σ) (pa_cons (pv 0) (pa_cons (pv 1) pa_nil))))
      (pss_cons (ps_expr (pe_oS o_check_house (hr.mono (by decide)) (by rfl) (fun σ => L2N.passAt tk σ) (pa_cons (pv 0) (pa_cons (pv 2) pa_nil))))
      (pss_cons (ps_set (i := 3) scWayS.nd rfl (Or.inl rfl) (pe_o o_houses_from (hr.mono (by decide)) (by rfl) (pa_cons (pe_fld (pv 0) rfl) (pa_cons (pv 2) (pa_cons pe_non pa_nil)))))
      (pss_cons (ps_set (i := 4) scWayS.nd rfl (Or.inl rfl) (pe_lst (pa_cons (pv 1) pa_nil)))
      (pss_cons (ps_while (passes_of rfl) (pt_cmpR op_ne (pe_ix ix_seq (pv 4) (pe_un un_neg pe_int) fun _ _ => rfl) (pv 2) (nomark _))
        (pss_one (ps_expr (pe_bm PySem.F.plainAttrs_list PySem.F.slot_list_append PySem.F.type_list_append mt_append (pv 4) (pa_cons (pe_dget hu (pv 3) (pe_ix ix_seq (pv 4) (pe_un un_neg pe_int) fun _ _ => rfl) (fun _ _ => rfl)) pa_nil)))))
      (pss_one (ps_ret (pe_callTy call_tuple_of (by rfl) (B.u "tuple" (by decide +kernel)) (by decide +kernel) (pa_cons (pv 4) pa_nil))))))))), ?_⟩
    obtain ⟨t, n, rs, u, v, du, dv, rfl, T, O⟩ := h
    obtain ⟨dx, rt, nt, h1, _, rn⟩ := T.ex
    refine ⟨_, rfl, _, rfl, t, n, rs, u, du, rfl, T, O.r, O.no, fun a ha eu ed => ?_⟩
    have O2 := O.ok a ha eu ed
    refine ⟨_, rfl, _, rfl, t, n, rs, v, dv, rfl, T, O2.r, O2.no, fun b hb ev ed2 => ?_⟩
    have q := O2.ok b hb ev ed2
    subst eu ev
    have tl := T.le
    refine ⟨_, rfl, _, _, _, _, _, rfl, h1, C.cl, C.nn, rfl, _, rfl, nt, n, b, rs, none, rfl, rn, T.ok.bnd, hb, by omega, fun d r H2 k2 nd2 hdf G hd => ?_⟩
    obtain ⟨l, up, pl⟩ := G.g.up a (Tm.joined_from T.ok T.jo hb hdf a ha)
    have lt : ∀ h, ∀ x ∈ Tm.near rs h, x < n := fun h x hx => (Tm.near_lt T.ok.bnd hx).1
    have nl : l.length ≤ 64 := by
      have := Tm.nodup_len pl.1.nd fun x hx => G.g.bound hb lt x (pl.2 x hx)
      omega
    have l0 : 0 < l.length := by
      have := up.head
      cases l with
      | nil => cases this
      | cons _ _ => simp
    have e0 : natV (l.take (0 + 1)) = [V.int (a : Int)] := by
      have := up.head
      cases l with
      | nil => cases this
      | cons x l => simp at this; subst this; rfl
    refine ⟨_, rfl, two_ln (by show 1 ≤ _; decide), fun ph hph => ?_⟩
    dsimp only [gName, tSeq]
    refine while_by (fun σ H' => ∃ i, i < l.length ∧ Same H2 H' ∧ H' ph = some (.lst (natV (l.take (i + 1)))) ∧ σ = [some (.ref t), some (.int a), some (.int b), some (.ref d), some (.ref ph)])
      (fun σ H' => 100 - match H' ph with | some (.lst xs) => xs.length | _ => 0) ?_ ?_ ?_
    · exact ⟨0, l0, upd_grow hph, by rw [upd_same, e0], rfl⟩
    · rintro σ H3 ⟨i, hi, k3, h3, rfl⟩
      obtain ⟨g1, g2⟩ := up.get i hi
      have nph : ∀ {b o}, H2 b = some o → b ≠ ph := fun e => ne_of_none e hph
      refine ⟨_, rfl, _, rfl, ixAt h3 (natV_last hi) ⟨_, rfl, rfl, _, rfl, iteB (fun e => ?_) fun e => ?_⟩⟩
      · have e : ¬ l[i] = b := fun z => by
          rw [z] at e
          simp at e
        have hi2 : i + 1 < l.length := by
          by_cases c : i + 1 < l.length
          · exact c
          · exact absurd (g2 (by omega)) e
        obtain ⟨_, g3, _⟩ := g1 hi2
        refine ⟨_, rfl, .inl ⟨rfl, _, SqL.of h3⟩, _, rfl, _, rfl, _, rfl, ixAt h3 (natV_last hi) ⟨d, .int (l[i + 1] : Nat), rfl, ?_, ph, _, _, rfl, rfl, h3, ?_, ⟨i + 1, hi2, ?_, ?_, rfl⟩, ?_⟩⟩
        · have := dkv_get G.g.nodup g3
          rw [← this]
          exact DGet.k (k := Sum.inl ((l[i] : Nat) : Int)) (k3 _ _ hd)
        · exact lt_ln (by unfold natV; rw [List.length_map, List.length_take]; omega)
        · intro b' o' e'
          rw [upd_ne (nph e')]
          exact k3 _ _ e'
        · have : natV (l.take (i + 1 + 1)) = natV (l.take (i + 1)) ++ [V.int (l[i + 1] : Nat)] := by
            rw [List.take_succ_eq_append_getElem hi2]
            unfold natV
            rw [List.map_append]
            rfl
          rw [upd_same, this]
        · show 100 - (match (upd H3 ph _) ph with | some (HO.lst xs) => xs.length | _ => 0) < 100 - (match H3 ph with | some (HO.lst xs) => xs.length | _ => 0)
          rw [upd_same, h3]
          simp only [natV, List.length_append, List.length_map, List.length_take, List.length_cons, List.length_nil]
          omega
      · have e : l[i] = b := by
          have := of_decide_eq_true (not_f e)
          have := V.int.inj this
          omega
        have hi2 : i + 1 = l.length := by
          by_cases c : i + 1 < l.length
          · obtain ⟨_, _, g4⟩ := g1 c
            exact absurd e g4
          · omega
        rw [hi2, List.take_length] at h3
        refine ⟨_, rfl, ph, _, rfl, .inl ⟨SqL.of h3, fun p hp => q l p _ ⟨r, hdf, up⟩ (fun b' o' e' => ?_) upd_same⟩⟩
        have z := k3 _ _ (k2 _ _ e')
        rw [upd_ne (ne_of_none z hp)]
        exact z
    · rintro σ H1 Q1 Q2 h ⟨v, hv, i, hi, z⟩
      refine ⟨v, hv, i, hi, rIx_mono z fun y ⟨y2, hy2, s2, k2, e2, q2⟩ => ⟨y2, hy2, s2, k2, e2, h _ _ q2⟩⟩
theorem ok_on_way (F : Fd K "on_way" sOnWay f fd) (g : mg "on_way" = some (.ref f)) (C : TreeK K mg) (B : Bl mg) (o_check_house : Ok P w K mg base (L2N.CX P w) 3 "check_house" sChkH ["tree", "house"] (spChkH K))
    (o_way : Ok P w K mg base (L2N.CX P w) 4 "way" sWayS ["tree", "a", "b"] (spWay K)) : Ok P w K mg base (L2N.CX P w) 5 "on_way" sOnWay ["tree", "a", "b", "house"] (spOnWay K) := by
  refine ⟨f, fd, g, F, F.bindsN fun _ _ _ _ _ _ us hl => match us, hl with | [_, _, _, _], _ => rfl, F.ok scOnWay (fun vs H Q E h => ?_) (fun cdv A outer s H vs Q E hr h => ?_)⟩
  · obtain ⟨t, n, rs, u, v, x, du, dv, dw, rfl, _⟩ := h
    rfl
  · have tk : L2N.Takes (cxOf (L2N.CX P w) P w K mg base ["tree", "a", "b", "house", "houses"] "on_way" (defScope sOnWay) f cdv A outer s H E) (fun cls d _ H => E cls d H) := L2N.takes_of rfl rfl rfl rfl
    refine ⟨_, (pss_cons (ps_set (i := 4) scOnWay.nd rfl (Or.inl rfl) (pe_oS o_way (hr.mono (by decide)) (by rfl) (fun σ => L2N.passAt tk σ) (pa_cons (pv 0) (pa_cons (pv 1) (pa_cons (pv 2) pa_nil)))))
      (pss_cons (ps_expr (pe_oS o_check_house (hr.mono (by decide)) (by rfl) (fun σ => L2N.passAt tk σ) (pa_cons (pv 0) (pa_cons (pv 3) pa_nil))))
      (pss_one (ps_ret (pe_cmpR op_in_seq (pv 3) (pv 4) (by rfl)))))), ?_⟩
    obtain ⟨t, n, rs, u, v, x, du, dv, dw, rfl, T, O⟩ := h
    refine ⟨_, rfl, _, rfl, _, rfl, t, n, rs, u, v, du, dv, rfl, T, O.r, O.no, fun a ha eu ed => ?_⟩
    have O2 := O.ok a ha eu ed
    refine ⟨O2.r, O2.no, fun b hb ev ed2 => ?_⟩
    have O3 := O2.ok b hb ev ed2
    intro l p H2 hw k2 hp
    have O4 := O3.mono k2
    refine ⟨_, rfl, _, rfl, t, n, rs, x, dw, rfl, T.mono k2, O4.r, O4.no, fun c hc ew ed3 => ?_⟩
    have q := O4.ok c hc ew ed3 l H2 hw k2
    subst ew
    refine ⟨_, rfl, _, rfl, p, _, rfl, .inr (SqT.of hp), rfl, natV_flat _, ?_⟩
    rw [if_neg (by decide), natV_in]
    exact q

theorem ok_side (F : Fd K "side" sSideS f fd) (g : mg "side" = some (.ref f)) (C : TreeK K mg) (B : Bl mg) (o_check_road : Ok P w K mg base (L2N.CX P w) 4 "check_road" sChkR ["tree", "u", "v"] (spChkR K))
    (o_houses_from : Ok P w K mg base CX0 1 "houses_from" sFrom ["near", "start", "barred"] spFrom) : Ok P w K mg base (L2N.CX P w) 5 "side" sSideS ["tree", "u", "v"] (spSide K) := by
  refine ⟨f, fd, g, F, F.bindsN fun _ _ _ _ _ _ us hl => match us, hl with | [_, _, _], _ => rfl, F.ok scSideS (fun vs H Q E h => ?_) (fun cdv A outer s H vs Q E hr h => ?_)⟩
  · obtain ⟨t, n, rs, u, v, du, dv, rfl, _⟩ := h
    rfl
  · have tk : L2N.Takes (cxOf (L2N.CX P w) P w K mg base ["tree", "u", "v"] "side" (defScope sSideS) f cdv A outer s H E) (fun cls d _ H => E cls d H) := L2N.takes_of rfl rfl rfl rfl
    refine ⟨_, (pss_cons (ps_expr (pe_oS o_check_road (hr.mono (by decide)) (by rfl) (fun σ => L2N.passAt tk σ) (pa_cons (pv 0) (pa_cons (pv 1) (pa_cons (pv 2) pa_nil)))))
      (pss_one (ps_ret (pe_callB (call_sortedDI rfl) (by rfl) (B.u "sorted" (by decide +kernel)) (by decide +kernel) (pa_cons (pe_o o_houses_from (hr.mono (by decide)) (by rfl) (pa_cons (pe_fld (pv 0) rfl) (pa_cons (pv 1) (pa_cons (pv 2) pa_nil)))) pa_nil))))), ?_⟩
    obtain ⟨t, n, rs, u, v, du, dv, rfl, T, O⟩ := h
    obtain ⟨dx, rt, nt, h1, _, rn⟩ := T.ex
    refine ⟨_, rfl, _, rfl, _, rfl, t, n, rs, u, v, du, dv, rfl, T, O.r, O.no, fun a ha eu ed => ?_⟩
    have O2 := O.ok a ha eu ed
    refine ⟨O2.r, O2.no, fun b hb ev ed2 => ?_⟩
    obtain ⟨no, ok⟩ := O2.ok b hb ev ed2
    refine ⟨no, fun mem => ?_⟩
    have q := ok mem
    subst eu ev
    have tl := T.le
    have lt : ∀ h, ∀ x ∈ Tm.near rs h, x < n := fun h x hx => (Tm.near_lt T.ok.bnd hx).1
    have nab : a ≠ b := fun e => (Tm.near_lt T.ok.bnd mem).2.2 e.symm
    refine ⟨_, rfl, _, _, _, _, _, rfl, h1, C.cl, C.nn, rfl, _, rfl, _, rfl, nt, n, a, rs, some b, rfl, rn, T.ok.bnd, ha, by omega, fun d r H2 k2 nd2 hdf G hd => ?_⟩
    have sz : r.length < 64 := by
      have nb := G.g.nobar (fun e => nab (by simpa using e))
      have up := G.room ha lt
      have all : ¬ r.length = n := fun e => by
        have := Tm.all_keys G.g.nodup (G.g.bound ha lt) (by simpa [Tm.keys] using e) b hb
        exact nb b this rfl
      omega
    refine ⟨d, dkv r, (Tm.keys r).map fun x : Nat => (x : Int), rfl, .inl hd, ?_, ?_, fun ys p pm ps hp => ?_⟩
    · simp [dkv, Tm.keys]
    · simpa [Tm.keys] using sz
    · refine q r ys p _ hdf pm ps (fun b' o' e' => ?_) ?_ upd_same
      · rw [upd_ne (ne_of_none (k2 _ _ e') hp)]
        exact k2 _ _ e'
      · cases e : H p with
        | none => rfl
        | some o => rw [k2 _ _ e] at hp; cases hp
theorem ok_foot (F : Fd K "foot" sFootS f fd) (g : mg "foot" = some (.ref f)) (C : TreeK K mg) (B : Bl mg) (o_way : Ok P w K mg base (L2N.CX P w) 4 "way" sWayS ["tree", "a", "b"] (spWay K)) :
    Ok P w K mg base (L2N.CX P w) 5 "foot" sFootS ["tree", "a", "b", "house"] (spFoot K) := by
  refine ⟨f, fd, g, F, F.bindsN fun _ _ _ _ _ _ us hl => match us, hl with | [_, _, _, _], _ => rfl, F.ok scFootS (fun vs H Q E h => ?_) (fun cdv A outer s H vs Q E hr h => ?_)⟩
  · obtain ⟨t, n, rs, u, v, x, du, dv, dw, rfl, _⟩ := h
    rfl
  · have tk : L2N.Takes (cxOf (L2N.CX P w) P w K mg base ["tree", "a", "b", "house", "houses", "near"] "foot" (defScope sFootS) f cdv A outer s H E) (fun cls d _ H => E cls d H) := L2N.takes_of rfl rfl rfl rfl
    refine ⟨_, (pss_cons (ps_set (i := 4) scFootS.nd rfl (Or.inr rfl) (pe_oS o_way (hr.mono (by decide)) (by rfl) (fun σ => L2N.passAt tk σ) (pa_cons (pv 0) (pa_cons (pv 1) (pa_cons (pv 2) pa_nil)))))
      (pss_one (ps_ret (pe_ix ix_seq (pe_lc (own := [("near", 5)]) (g := gName 5) rfl scFootS.nd (pi_seq (pe_oS o_way (hr.mono (by decide)) (by rfl) (fun σ => L2N.passAt tk σ) (pa_cons (pv 0) (pa_cons (pv 3) (pa_cons (pv 1) pa_nil))))) (blkOk_by (N := ["tree", "a", "b", "house", "houses", "near"]) (sc := defScope sFootS) (by decide +kernel)) (fun _ _ _ _ _ => (pg_name (i := 5) scFootS.nd rfl (Or.inl rfl))) (fun _ _ _ _ _ => (pts_one (pt_cmpR (r := rIn K false) (by exact op_in_seq) (pv 5) (pv 4) (by rfl)))) (fun _ _ _ _ _ => (pv 5))) pe_int fun _ _ => rfl)))), ?_⟩
    obtain ⟨t, n, rs, u, v, x, du, dv, dw, rfl, T, O⟩ := h
    refine ⟨_, rfl, _, rfl, _, rfl, t, n, rs, u, v, du, dv, rfl, T, O.r, O.no, fun a ha eu ed => ?_⟩
    have O2 := O.ok a ha eu ed
    refine ⟨O2.r, O2.no, fun b hb ev ed2 => ?_⟩
    have O3 := O2.ok b hb ev ed2
    intro l p H2 hw k2 hp
    have O4 := O3.mono k2
    subst eu
    refine ⟨_, rfl, _, rfl, _, rfl, t, n, rs, x, .int a, dw, du, rfl, T.mono k2, O4.r, O4.no, fun c hc ew ed3 => ⟨O.r.mono k2, fun z => ?_, fun a2 ha2 ea2 ed4 => ?_⟩⟩
    · rw [ed, belowD_of ha] at z
      cases z
    · obtain rfl : a = a2 := by
        have := V.int.inj ea2
        omega
      have q := O4.ok c hc ew ed3
      intro M pM H3 hM k3 hpM
      have nl : ∀ {a b : Nat} {l : List Nat}, a < n → b < n → Tm.Way rs a b l → l.length ≤ 64 := fun ha hb h => by
        have := Tm.nodup_len (Tm.way_path T.ok T.jo ha hb h).1.nd (Tm.way_path T.ok T.jo ha hb h).2
        have := T.le
        omega
      refine ⟨pM, natV M, rfl, .inr (SqT.of hpM), fun J w D hD => ?_⟩
      have hp3 := k3 _ _ hp
      have lM : (natV M).length = M.length := by simp [natV]
      obtain ⟨bb, R⟩ := Tm.rooted T.ok T.jo
      refine lc_gen w (fun i => decide (M.getD i 0 ∈ l)) (fun i y _ => y = .int (M.getD i 0 : Nat)) (fun _ _ _ _ _ h => h) hD (by rw [lM]; have := nl hc ha hM; omega) (fun H' k => by rw [del_sub k _ _ hpM, hpM]) ?_ ?_
      · rintro i y H0 H4 K1 N1 hi k4 ⟨o, ho⟩ ⟨rfl, hy⟩ hK hN
        obtain ⟨li, rfl⟩ := nat_get hy
        have e : M.getD i 0 = M[i] := by rw [List.getD_eq_getElem?_getD, List.getElem?_eq_getElem li]; rfl
        rw [← e]
        refine ⟨rfl, _, rfl, _, rfl, p, natV l, rfl, .inr (SqT.of (del_sub k4 _ _ hp3)), rfl, natV_flat _, _, rfl, ?_⟩
        rw [if_neg (by decide), natV_in]
        refine iteB (fun c => ⟨_, rfl, hK c _ _ (Same.refl _) rfl⟩) fun c => hN c _ (Same.refl _)
      · intro ys H5 k5 h5 l5 r5
        have e := map_of (F := fun i => V.int (M.getD i 0 : Nat)) l5 r5
        rw [lM] at e
        subst e
        have flt : ((List.range M.length).filter fun i => decide (M.getD i 0 ∈ l)).map (fun i => M.getD i 0) = M.filter fun h => decide (h ∈ l) := by
          have : M = (List.range M.length).map fun i => M.getD i 0 := by
            apply List.ext_getElem
            · simp
            · intro i h1 h2
              simp [List.getD_eq_getElem?_getD, List.getElem?_eq_getElem h1]
          conv => rhs; rw [this]
          rw [List.filter_map]
          rfl
        obtain ⟨L2, hL2⟩ := Tm.way_ex T.ok T.jo hc hb
        obtain ⟨m, f1, f2, f3⟩ := Tm.way_foot T.ok T.jo ha hb hc hw hM hL2
        refine ixAt (v := .int (m : Nat)) h5 ?_ (q l M m _ hw hM f1 (k2.trans (k3.trans (del_sub k5))))
        refine atI_nat (j := 0) ?_
        have e2 : ((List.range M.length).filter fun i => decide (M.getD i 0 ∈ l)).map (fun i => V.int (M.getD i 0 : Nat)) = (M.filter fun h => decide (h ∈ l)).map fun x : Nat => V.int (x : Int) := by
          rw [← flt, List.map_map]
          rfl
        rw [e2, List.getElem?_map]
        cases z : M.filter fun h => decide (h ∈ l) with
        | nil => rw [z] at f1; cases f1
        | cons x xs =>
          rw [z] at f1
          simp at f1
          rw [f1]
          rfl
end
end K02

namespace K02
open PySem PySem.Spec PyProof.Rows L2
abbrev sCell : Stmt := top 28
theorem scCell : FnScope ["script", "k"] ["script", "k"] (defScope sCell) := ⟨rfl, rfl, rfl, by decide +kernel, rfl, by decide +kernel, by decide +kernel⟩
abbrev sBox : Stmt := top 29
theorem scBox : FnScope ["great"] ["great"] (defScope sBox) := ⟨rfl, rfl, rfl, by decide +kernel, rfl, by decide +kernel, by decide +kernel⟩
abbrev sTake : Stmt := top 30
theorem scTake : FnScope ["box", "many", "digit", "mixed"] ["box", "many"] (defScope sTake) := ⟨rfl, rfl, rfl, by decide +kernel, rfl, by decide +kernel, by decide +kernel⟩
/-- the state of the draws -/
def Box (c : Nat) (xs : List V) : Prop := ∃ (g : Int) (b : Bool) (m k : Int), xs = [.int g, .bl b, .int m, .int k] ∧ 0 ≤ g ∧ 0 ≤ m ∧ m < 2147483629 ∧ 0 ≤ k ∧ k ≤ c
def spCell (K : PySem.W.Frag) : Sp := fun vs H Q _ => ∃ (l : Addr) (ns : List Int) (k : Int), vs = [.ref l, .int k] ∧ SqL K H l (ns.map V.int) ∧ 0 ≤ k ∧ k < 100 ∧
  ∀ (n : Int) H', Same H H' → Q (.int n) H'
def spBox : Sp := fun vs H Q _ => ∃ g : Int, vs = [.int g] ∧ ∀ p xs, H p = none → Box 0 xs → Q (.ref p) (upd H p (.lst xs))
def spTake : Sp := fun vs H Q _ => ∃ (p : Addr) (many : Int) (xs : List V) (c : Nat), vs = [.ref p, .int many] ∧ H p = some (.lst xs) ∧ Box c xs ∧ c < 1000 ∧ 1 ≤ many ∧ many ≤ 128 ∧
  ∀ (d : Int) ys, 0 ≤ d → d < many → Box (c + 1) ys → Q (.int d) (upd H p (.lst ys))
section
variable {P : Program} {w : World} {K : PySem.W.Frag} {mg : Str → Option Value} {base : Heap} {f : Addr} {fd : FuncData}
theorem ok_cell (F : Fd K "_law_cell" sCell f fd) (g : mg "_law_cell" = some (.ref f)) (B : Bl mg) : Ok P w K mg base CX0 1 "_law_cell" sCell ["script", "k"] (spCell K) := by
  refine ⟨f, fd, g, F, F.bindsN fun _ _ _ _ _ _ us hl => match us, hl with | [_, _], _ => rfl, F.ok scCell (fun vs H Q E h => ?_) (fun cdv A outer s H vs Q E hr h => ?_)⟩
  · obtain ⟨l, ns, k, rfl, _⟩ := h
    rfl
  · refine ⟨_, (pss_one (ps_ret (pe_ifExp (pt_cmpR op_lt (pv 1) (pe_callB call_len (by rfl) (B.u "len" (by decide +kernel)) boot_len (pa_cons (pv 0) pa_nil)) (nomark _)) (pe_ix ix_seq (pv 0) (pv 1) fun _ _ => rfl) (pe_op op_add (pe_op op_mul pe_int (pv 1)) (pe_op op_mod (pe_callB (cr_sum rfl) (by rfl) (B.u "sum" (by decide +kernel)) boot_sum (pa_cons (pe_slice sl_list (pv 0) po_none (po_some pe_int)) pa_nil)) pe_int))))), ?_⟩
    obtain ⟨l, ns, k, rfl, hs, h0, h1, q⟩ := h
    refine ⟨_, rfl, _, rfl, _, _, rfl, .inl ⟨_, hs, rfl⟩, _, _, rfl, rfl, _, rfl, ?_⟩
    have el : ((List.map V.int ns).length : Int) = (ns.length : Int) := by
      rw [List.length_map]
    refine ite2 (fun c => ?_) (fun c => ?_)
    · have c := of_decide_eq_true c
      rw [el] at c
      have hk : k.toNat < ns.length := by omega
      have ha : atI (ns.map V.int) k = some (V.int ns[k.toNat]) := by
        unfold atI ixN
        rw [if_pos h0, if_pos (by rw [List.length_map]; omega)]
        show (ns.map V.int)[k.toNat]? = _
        rw [List.getElem?_map, List.getElem?_eq_getElem hk] <;> rfl
      exact ⟨_, rfl, _, rfl, .inl ⟨l, _, k, _, rfl, rfl, hs, ha, q _ H (Same.refl H)⟩⟩
    · refine ⟨_, rfl, _, _, rfl, rfl, .inl ⟨by decide, by decide⟩, _, rfl, 1, rfl, l, _, rfl, hs, fun p hp => ?_⟩
      have ec : cutV (ns.map V.int) none (some 1) = (ns.take 1).map V.int := by
        cases ns with
        | nil => rfl
        | cons a r =>
          simp [cutV, HT.sIx]
      refine ⟨p, ns.take 1, rfl, ?_, _, _, rfl, rfl, (by show (0 : Int) < 1000033; decide), _, _, rfl, rfl, q _ _ fun b o e => ?_⟩
      · rw [ec]
        exact SqL.of upd_same
      · rw [upd_ne (ne_of_none e hp)]
        exact e
/-- the bounds of the draws -/
theorem ok_box (F : Fd K "_law_box" sBox f fd) (g : mg "_law_box" = some (.ref f)) (B : Bl mg) : Ok P w K mg base CX0 1 "_law_box" sBox ["great"] spBox := by
  refine ⟨f, fd, g, F, F.bindsN fun _ _ _ _ _ _ us hl => match us, hl with | [_], _ => rfl, F.ok scBox (fun vs H Q E h => ?_) (fun cdv A outer s H vs Q E hr h => ?_)⟩
  · obtain ⟨g, rfl, _⟩ := h
    rfl
  · refine ⟨_, (pss_one (ps_ret (pe_lst (pa_cons (pe_callB call_abs (by rfl) (B.u "abs" (by decide +kernel)) (by decide +kernel) (pa_cons (pv 0) pa_nil)) (pa_cons (pe_cmpR op_ge (pe_callB call_abs (by rfl) (B.u "abs" (by decide +kernel)) (by decide +kernel) (pa_cons (pv 0) pa_nil)) (pe_op op_pow pe_int pe_int) (nomark _)) (pa_cons (pe_op op_mod (pe_callTy call_int1 (by rfl) (B.u "int" (by decide +kernel)) (by decide +kernel) (pa_cons (pe_callB call_abs (by rfl) (B.u "abs" (by decide +kernel)) (by decide +kernel) (pa_cons (pv 0) pa_nil)) pa_nil)) pe_int) (pa_cons pe_int pa_nil))))))), ?_⟩
    obtain ⟨g, rfl, q⟩ := h
    refine ⟨_, rfl, _, rfl, _, rfl, _, rfl, _, _, rfl, rfl, ⟨by decide, by decide, by decide⟩, _, _, rfl, rfl, ?_⟩
    refine ⟨_, rfl, _, rfl, .inl ⟨_, rfl, _, _, rfl, rfl, (by show (0 : Int) < 2147483629; decide), ?_⟩⟩
    refine ⟨by show 4 ≤ sizeLine; rw [sizeLine_eq]; decide, fun p hp => q p _ hp ⟨_, _, _, _, rfl, ?_, ?_, ?_, Int.le_refl _, Int.le_refl _⟩⟩
    · split <;> omega
    · exact Int.emod_nonneg _ (by decide)
    · exact Int.emod_lt_of_pos _ (by decide)
theorem ok_take (F : Fd K "_law_take" sTake f fd) (g : mg "_law_take" = some (.ref f)) (B : Bl mg) : Ok P w K mg base CX0 1 "_law_take" sTake ["box", "many"] spTake := by
  refine ⟨f, fd, g, F, F.bindsN fun _ _ _ _ _ _ us hl => match us, hl with | [_, _], _ => rfl, F.ok scTake (fun vs H Q E h => ?_) (fun cdv A outer s H vs Q E hr h => ?_)⟩
  · obtain ⟨p, many, xs, c, rfl, _⟩ := h
    rfl
  · refine ⟨_, (pss_cons (ps_if (pw_and (pt_val (pe_ix ix_seq (pv 0) pe_int fun _ _ => rfl)) (pw_and1 (pt_cmpR op_gt (pe_ix ix_seq (pv 0) pe_int fun _ _ => rfl) pe_int (nomark _)))).pt
        (pss_cons (ps_set (i := 2) scTake.nd rfl (Or.inl rfl) (pe_op op_mod (pe_callTy call_int1 (by rfl) (B.u "int" (by decide +kernel)) (by decide +kernel) (pa_cons (pe_ix ix_seq (pv 0) pe_int fun _ _ => rfl) pa_nil)) (pv 1)))
        (pss_cons (ps_asg (pe_op op_fdiv (pe_ix ix_seq (pv 0) pe_int fun _ _ => rfl) (pv 1)) (pg_sub (pv 0) pe_int set_list fun _ => rfl))
        (pss_one (ps_ret (pv 2)))))
        pss_nil)
      (pss_cons (ps_asg (pe_op op_add (pe_ix ix_seq (pv 0) pe_int fun _ _ => rfl) pe_int) (pg_sub (pv 0) pe_int set_list fun _ => rfl))
      (pss_cons (ps_set (i := 3) scTake.nd rfl (Or.inl rfl) (pe_op op_mod (pe_callTy call_int1 (by rfl) (B.u "int" (by decide +kernel)) (by decide +kernel) (pa_cons (pe_op op_pow (pe_op op_add (pe_op op_add (pe_ix ix_seq (pv 0) pe_int fun _ _ => rfl) (pe_op op_mul pe_int (pe_ix ix_seq (pv 0) pe_int fun _ _ => rfl))) pe_int) pe_int) pa_nil)) pe_int))
      (pss_one (ps_ret (pe_op op_mod (pe_op op_fdiv (pe_op op_mod (pe_callTy call_int1 (by rfl) (B.u "int" (by decide +kernel)) (by decide +kernel) (pa_cons (pe_op op_pow (pe_op op_add (pe_op op_mul (pv 3) pe_int) (pe_op op_mul pe_int (pe_ix ix_seq (pv 0) pe_int fun _ _ => rfl))) pe_int) pa_nil)) pe_int) pe_int) (pv 1))))))), ?_⟩
    obtain ⟨p, many, xs, c, rfl, hp, ⟨g, b, m, k, rfl, b1, b2, b3, b4, b5⟩, hc, m1, m2, q⟩ := h
    have big : sizeLine = 16777216 := sizeLine_eq
    -- the second way
    have last : tSeq (tAsg (tOp (rI0 fun i j => V.int (i + j)) (tOp (rIx K) (tVar 0) (tC (V.int 3))) (tC (V.int 1))) (gSub (tVar 0) (tC (V.int 3)) rSetL))
        (tSeq (tAsg (tOp (rI (fun x j => 0 < j) fun i j => V.int (i % j)) (tCB (fun xs H Q => (∃ i, xs = [V.int i] ∧ Q (V.int i) H) ∨ ∃ k, xs = [V.bl k] ∧ Q (V.int (if k = true then 1 else 0)) H)
          (tCons (tOp (rI CPow fun i j => V.int (i ^ j.toNat)) (tOp (rI0 fun i j => V.int (i + j)) (tOp (rI0 fun i j => V.int (i + j)) (tOp (rIx K) (tVar 0) (tC (V.int 2)))
            (tOp (rI CMul fun i j => V.int (i * j)) (tC (V.int 15485863)) (tOp (rIx K) (tVar 0) (tC (V.int 3))))) (tC (V.int 179424673))) (tC (V.int 5))) tNil)) (tC (V.int 2147483647))) (gName 3))
        (tRet (tOp (rI (fun x j => 0 < j) fun i j => V.int (i % j)) (tOp (rI CDiv fun i j => V.int (i / j)) (tOp (rI (fun x j => 0 < j) fun i j => V.int (i % j))
          (tCB (fun xs H Q => (∃ i, xs = [V.int i] ∧ Q (V.int i) H) ∨ ∃ k, xs = [V.bl k] ∧ Q (V.int (if k = true then 1 else 0)) H)
            (tCons (tOp (rI CPow fun i j => V.int (i ^ j.toNat)) (tOp (rI0 fun i j => V.int (i + j)) (tOp (rI CMul fun i j => V.int (i * j)) (tVar 3) (tC (V.int 48271)))
              (tOp (rI CMul fun i j => V.int (i * j)) (tC (V.int 104729)) (tOp (rIx K) (tVar 0) (tC (V.int 3))))) (tC (V.int 3))) tNil)) (tC (V.int 2147483587))) (tC (V.int 64))) (tVar 1))))
        { nx := fun _ H' => Q V.non H', rt := Q } [some (V.ref p), some (V.int many), none, none] H := by
      refine ⟨_, rfl, ixAt hp rfl ⟨_, _, rfl, rfl, _, rfl, p, _, _, 3, rfl, rfl, hp, rfl, ?_⟩⟩
      refine ⟨_, rfl, ixAt upd_same rfl ⟨_, rfl, ixAt upd_same rfl ⟨_, _, rfl, rfl, .inl ⟨by decide, by decide⟩, _, _, rfl, rfl, _, _, rfl, rfl, ?_⟩⟩⟩
      have hA : (m + 15485863 * (k + 1) + 179424673).natAbs < 2 ^ 64 := by omega
      have n1 : 0 ≤ (m + 15485863 * (k + 1) + 179424673) ^ (5 : Int).toNat % 2147483647 := Int.emod_nonneg _ (by decide)
      have n2 : (m + 15485863 * (k + 1) + 179424673) ^ (5 : Int).toNat % 2147483647 < 2147483647 := Int.emod_lt_of_pos _ (by decide)
      have hB : ((m + 15485863 * (k + 1) + 179424673) ^ (5 : Int).toNat % 2147483647 * 48271 + 104729 * (k + 1)).natAbs < 2 ^ 64 := by
        generalize (m + 15485863 * (k + 1) + 179424673) ^ (5 : Int).toNat % 2147483647 = B1 at n1 n2
        omega
      refine ⟨_, _, rfl, rfl, ⟨by decide, by decide, hA⟩, ?_⟩
      refine .inl ⟨_, rfl, _, _, rfl, rfl, (by show (0 : Int) < 2147483647; decide), ?_⟩
      refine ⟨_, rfl, _, _, rfl, rfl, .inr ⟨by decide, by decide⟩, ?_⟩
      refine ⟨_, rfl, ixAt upd_same rfl ⟨_, _, rfl, rfl, .inl ⟨by decide, by decide⟩, _, _, rfl, rfl, ?_⟩⟩
      refine ⟨_, _, rfl, rfl, ⟨by decide, by decide, hB⟩, ?_⟩
      refine .inl ⟨_, rfl, _, _, rfl, rfl, (by show (0 : Int) < 2147483587; decide), _, _, rfl, rfl, ⟨by decide, by decide⟩, _, rfl, _, _, rfl, rfl, (by show (0 : Int) < many; omega), ?_⟩
      refine q _ _ (Int.emod_nonneg _ (by omega)) (Int.emod_lt_of_pos _ (by omega)) ⟨g, b, m, k + 1, rfl, b1, b2, b3, by omega, by omega⟩
    refine ⟨_, rfl, ixAt hp rfl ⟨b, rfl, ?_⟩⟩
    cases b with
    | false => exact last
    | true =>
      refine ⟨_, rfl, ixAt hp rfl ⟨_, _, rfl, rfl, _, rfl, ?_⟩⟩
      refine ite2 (fun c => ?_) (fun _ => last)
      have c := of_decide_eq_true c
      refine ⟨_, rfl, ixAt hp rfl (.inl ⟨_, rfl, _, rfl, _, _, rfl, rfl, (by show (0 : Int) < many; omega), ?_⟩)⟩
      refine ⟨_, rfl, ixAt hp rfl ⟨_, rfl, _, _, rfl, rfl, ⟨(by show (0 : Int) < many; omega), (by show many < 1073741824; omega)⟩, _, rfl, p, _, _, 0, rfl, rfl, hp, rfl, ?_⟩⟩
      refine ⟨_, rfl, q _ _ (Int.emod_nonneg _ (by omega)) (Int.emod_lt_of_pos _ (by omega)) ⟨g / many, true, m, k, rfl, ?_, b2, b3, b4, by omega⟩⟩
      exact Int.ediv_nonneg b1 (by omega)
end
end K02

/-! comprehensions whose items change what stands at p -/
namespace L2
open PySem PySem.Spec PyProof.Rows
theorem but_refl {p : Addr} {H : Hp} : But p H H := fun _ _ _ e => e
theorem lc_genB {J : It} {n : Nat} {G : Hp → Prop} {Y : Nat → Hp → V → Hp → Prop} (w : Walk J n G Y) {g : TG} {tt : TT} {te : TE} {vs : List Nat} {σ : St} {H : Hp} {p D : Addr} {o : HO} {Qd : Hp → Prop} (S : Nat → Hp → Prop) (R : Nat → V → Hp → Prop)
    (Rm : ∀ i y H1 H2, Same H1 H2 → R i y H1 → R i y H2) (Sm : ∀ i H1 H2, H1 p = H2 p → S i H1 → S i H2) (hp : H p = some o) (s0 : S 0 H) (hD : H D = none) (hn : n ≤ 16777215) (hG : ∀ H', Same (del H p) (del (del H' D) p) → G H')
    (he : ∀ i x H1 H2 (K : V → Hp → Prop) (N : Hp → Prop), i < n → Same (del H p) (del (del H1 D) p) → (∃ o, H1 D = some o) → S i H1 → Y i H1 x H2 → (∀ y H4, But p H1 H4 → S (i + 1) H4 → R i y (del (del H4 D) p) → K y H4) →
      g x (wipe σ vs) H2 fun σ2 H2' => wipe σ2 vs = wipe σ vs ∧ tt σ2 H2' fun b H3 => if b = true then te σ2 H3 K else N H3)
    (q : ∀ (ys : List V) (H' : Hp), Same (del H p) (del (del H' D) p) → S n H' → H' D = some (.lst ys) → ys.length = n → (∀ (i : Nat) (y : V), ys[i]? = some y → R i y (del (del H' D) p)) → Qd H') :
    ∃ W : Nat → Nat → Hp → Prop, (∃ m, W 0 m (upd H D (.lst []))) ∧ ∀ i m H, W i m H →
      (J.stop i H ∧ Qd H) ∨ (J.go i H ∧ ∃ Nx : Hp → Prop, (∀ H', Nx H' → ∃ m', m' < m ∧ W (i + 1) m' H') ∧ ∀ x H', J.yld i H x H' → g x (wipe σ vs) H' fun σ2 H2 => wipe σ2 vs = wipe σ vs ∧ tt σ2 H2 fun b H3 =>
        if b = true then te σ2 H3 fun y H4 => ∃ acc, H4 D = some (.lst acc) ∧ acc.length < sizeLine ∧ Nx (upd H4 D (.lst (acc ++ [y]))) else Nx H3) := by
  have nD : p ≠ D := ne_of_none hp hD
  have dd : ∀ {H4 : Hp} {ys : List V}, del (upd H4 D (.lst ys)) D = del H4 D := fun {H4 ys} => by
    funext b
    by_cases nb : b = D
    · rw [nb, del_same, del_same]
    · rw [del_ne nb, del_ne nb, upd_ne nb]
  have bb : ∀ {H1 H4 : Hp}, But p H1 H4 → Same (del (del H1 D) p) (del (del H4 D) p) := fun k b o e => by
    by_cases nb : b = p
    · rw [nb, del_same] at e; cases e
    · rw [del_ne nb] at e ⊢
      by_cases nd : b = D
      · rw [nd, del_same] at e; cases e
      · rw [del_ne nd] at e ⊢
        exact k b o nb e
  refine lc_it w (fun i H' => Same (del H p) (del (del H' D) p) ∧ S i H' ∧ ∃ ys, H' D = some (.lst ys) ∧ ys.length = i ∧ ∀ (j : Nat) (y : V), ys[j]? = some y → R j y (del (del H' D) p)) ?_ (fun i H' _ h => hG H' h.1) ?_ ?_
  · refine ⟨fun b o e => ?_, Sm 0 H _ (by rw [upd_ne nD]) s0, [], upd_same, rfl, fun j y h => by simp at h⟩
    by_cases nb : b = p
    · rw [nb, del_same] at e; cases e
    · rw [del_ne nb] at e ⊢
      rw [del_ne (ne_of_none e hD), upd_ne (ne_of_none e hD)]
      exact e
  · rintro i x H1 H2 hi ⟨k1, s1, ys, h1, l1, r1⟩ hy
    refine he i x H1 H2 _ _ hi k1 ⟨_, h1⟩ s1 hy (fun y H4 k4 s4 r4 => ?_)
    have h4 := k4 D _ nD.symm h1
    refine ⟨ys, h4, by rw [l1]; exact lt_ln (by omega), ?_, Sm _ H4 _ (by rw [upd_ne nD]) s4, _, upd_same, by rw [List.length_append, l1]; rfl, ?_⟩
    · rw [dd]
      exact k1.trans (bb k4)
    · intro j y2 hy2
      rw [dd]
      by_cases c : j < ys.length
      · rw [List.getElem?_append_left c] at hy2
        exact Rm _ _ _ _ (bb k4) (r1 j y2 hy2)
      · have lt := (List.getElem?_eq_some_iff.mp hy2).1
        rw [List.length_append] at lt
        have ek : j = ys.length := by
          have : ([y] : List V).length = 1 := rfl
          omega
        subst ek
        rw [List.getElem?_append_right (Nat.le_refl _), Nat.sub_self] at hy2
        obtain rfl : y = y2 := by simpa using hy2
        rw [l1]
        exact r4
  · rintro H1 ⟨k1, s1, ys, h1, l1, r1⟩
    exact q ys H1 k1 s1 h1 l1 r1
end L2

namespace K02
open PySem PySem.Spec PyProof.Rows L2
abbrev sRoads : Stmt := top 31
theorem scRoads : FnScope ["box", "houses", "kind", "order", "mixed", "pairs", "k", "a", "b"] ["box", "houses"] (defScope sRoads) := ⟨rfl, rfl, rfl, by decide +kernel, rfl, by decide +kernel, by decide +kernel⟩
/-- the state of the draws stands at p -/
def BoxAt (H : Hp) (p : Addr) (c : Nat) : Prop := ∃ xs, H p = some (.lst xs) ∧ Box c xs
theorem Box.up {c c' : Nat} {xs : List V} (h : Box c xs) (l : c ≤ c') : Box c' xs := by
  obtain ⟨g, b, m, k, e, h1, h2, h3, h4, h5⟩ := h
  exact ⟨g, b, m, k, e, h1, h2, h3, h4, by omega⟩
theorem BoxAt.up {H : Hp} {p : Addr} {c c' : Nat} (h : BoxAt H p c) (l : c ≤ c') : BoxAt H p c' := h.imp fun _ z => ⟨z.1, z.2.up l⟩
theorem BoxAt.eq {H H' : Hp} {p : Addr} {c : Nat} (h : BoxAt H p c) (e : H' p = H p) : BoxAt H' p c := h.imp fun _ z => ⟨e.trans z.1, z.2⟩
theorem BoxAt.same {H H' : Hp} {p : Addr} {c : Nat} (h : BoxAt H p c) (k : Same H H') : BoxAt H' p c := h.imp fun _ z => ⟨k _ _ z.1, z.2⟩
theorem BoxAt.some {H : Hp} {p : Addr} {c : Nat} (h : BoxAt H p c) : ∃ o, H p = Option.some o := let ⟨_, z, _⟩ := h; ⟨_, z⟩
/-- one number is drawn -/
def spDraw1 : Sp := fun vs H Q _ => ∃ (p : Addr) (many : Int) (c : Nat), vs = [.ref p, .int many] ∧ BoxAt H p c ∧ c < 1000 ∧ 1 ≤ many ∧ many ≤ 128 ∧
  ∀ (d : Int) H', 0 ≤ d → d < many → But p H H' → BoxAt H' p (c + 1) → (∀ b, b ≠ p → H' b = H b) → Q (.int d) H'
theorem take_draw {vs : List V} {H : Hp} {Q : VK} {E : XK} (h : spDraw1 vs H Q E) : spTake vs H Q E := by
  obtain ⟨p, many, c, rfl, ⟨xs, hp, hb⟩, hc, m1, m2, q⟩ := h
  exact ⟨p, many, xs, c, rfl, hp, hb, hc, m1, m2, fun d ys d0 d1 b => q d _ d0 d1 But.upd ⟨ys, upd_same, b⟩ fun b nb => upd_ne nb⟩
def spRoads : Sp := fun vs H Q _ => ∃ (p : Addr) (n c : Nat), vs = [.ref p, .int n] ∧ BoxAt H p c ∧ 1 ≤ n ∧ n ≤ 64 ∧ c + 2 * n < 1000 ∧
  ∀ rs q H', Tm.RoadsOk n rs → Tm.Joined n rs → But p H H' → BoxAt H' p (c + 2 * n) → H q = none → q ≠ p → Rdd (del H' p) (.ref q) (.list (rs.map rd)) → Q (.ref q) H'
theorem seqIx {j len : Nat} (h : j < len) : seqIndex? (j : Int) len = some j := by
  unfold seqIndex?
  have c1 : ¬ (j : Int) < 0 := by omega
  simp only [if_neg c1]
  have c2 : decide (0 ≤ (j : Int)) = true := decide_eq_true (by omega)
  have c3 : decide ((j : Int) < (len : Int)) = true := decide_eq_true (by omega)
  rw [c2, c3]
  simp
theorem natV_erase : ∀ (l : List Nat) (k : Nat), natV (l.eraseIdx k) = (natV l).eraseIdx k
  | [], _ => rfl
  | x :: l, 0 => rfl
  | x :: l, k + 1 => by
    show V.int (x : Int) :: natV (l.eraseIdx k) = V.int (x : Int) :: (natV l).eraseIdx k
    rw [natV_erase l k]
theorem erase_perm : ∀ {l : List Nat} {i : Nat} (h : i < l.length), (l[i] :: l.eraseIdx i).Perm l
  | a :: l, 0, _ => .refl _
  | a :: l, i + 1, h => by
    have := erase_perm (l := l) (i := i) (by simpa using h)
    simp only [List.getElem_cons_succ, List.eraseIdx_cons_succ]
    exact (List.Perm.swap _ _ _).trans (this.cons a)
theorem natD_lay (l : List Nat) : (PyData.list (natD l)).canLay0 = true := by
  show PyData.canLayAll0 (natD l) = true
  induction l with
  | nil => rfl
  | cons x l ih => simpa [natD, PyData.canLayAll0, PyData.canLay0] using ih
theorem natD_shaped (l : List Nat) : SeqAt.shaped (.list (natD l)) = true := by
  unfold SeqAt.shaped
  rw [natD_lay, Bool.true_and]
  apply decide_eq_true
  simp only [PyData.depth]
  have e : PyData.depthAll (natD l) = 0 := by
    induction l with
    | nil => rfl
    | cons x l ih => simpa [natD, PyData.depthAll, PyData.depth] using ih
  omega
theorem natD_nil (l : List Nat) : PyData.eqv (.list (natD l)) (.list []) = l.isEmpty := by cases l <;> rfl
section
variable {P : Program} {w : World} {K : PySem.W.Frag} {mg : Str → Option Value} {base : Heap} {f : Addr} {fd : FuncData}
theorem ok_roads (F : Fd K "_law_roads" sRoads f fd) (g : mg "_law_roads" = some (.ref f)) (B : Bl mg) (o_law_take : Ok P w K mg base CX0 1 "_law_take" sTake ["box", "many"] spDraw1) : Ok P w K mg base CX0 2 "_law_roads" sRoads ["box", "houses"] spRoads := by
  refine ⟨f, fd, g, F, F.bindsN fun _ _ _ _ _ _ us hl => match us, hl with | [_, _], _ => rfl, F.ok scRoads (fun vs H Q E h => ?_) (fun cdv A outer s H vs Q E hr h => ?_)⟩
  · obtain ⟨p, n, c, rfl, _⟩ := h
    rfl
  · have hu : (cxOf CX0 P w K mg base ["box", "houses", "kind", "order", "mixed", "pairs", "k", "a", "b"] "_law_roads" (defScope sRoads) f cdv A outer s H E).A.units + 64 < cLine := by
      have z := hr.un
      show (A.deeper _).units + 64 < cLine
      omega
    refine ⟨_, (pss_cons (ps_asg (pe_tup (pa_cons (pe_o o_law_take (hr.mono (by decide)) (by rfl) (pa_cons (pv 0) (pa_cons pe_int pa_nil))) (pa_cons (pe_listRg rfl (by rfl) (B.u "list" (by decide +kernel)) (prg_1 (by rfl) (B.u "range" (by decide +kernel)) (pv 1))) (pa_cons (pe_lst pa_nil) pa_nil)))) (pg_tup rfl (pgs_cons (pg_name (i := 2) scRoads.nd rfl (Or.inr rfl)) (pgs_cons (pg_name (i := 3) scRoads.nd rfl (Or.inl rfl)) (pgs_cons (pg_name (i := 4) scRoads.nd rfl (Or.inr rfl)) pgs_nil)))))
      (pss_cons (ps_while (passes_of rfl) (pt_cmpR (op_neD hu) (pv 3) (pe_lst pa_nil) (nomark _))
        (pss_one (ps_expr (pe_bm PySem.F.plainAttrs_list PySem.F.slot_list_append PySem.F.type_list_append mt_append (pv 4) (pa_cons (pe_bm PySem.F.plainAttrs_list PySem.F.slot_list_pop PySem.F.type_list_pop mt_popAt (pv 3) (pa_cons (pe_o o_law_take (hr.mono (by decide)) (by rfl) (pa_cons (pv 0) (pa_cons (pe_callB call_len (by rfl) (B.u "len" (by decide +kernel)) boot_len (pa_cons (pv 3) pa_nil)) pa_nil))) pa_nil)) pa_nil)))))
      (pss_cons (ps_setLc (i := 5) (own := [("k", 6)]) (g := gName 6) rfl scRoads.nd rfl rfl (sw_true rfl rfl rfl (by decide +kernel)) (pi_range2 (by rfl) (B.u "range" (by decide +kernel)) (pa_cons pe_int (pa_cons (pv 1) pa_nil))) (blkOk_by (N := ["box", "houses", "kind", "order", "mixed", "pairs", "k", "a", "b"]) (sc := defScope sRoads) (by decide +kernel)) (fun _ _ _ _ _ => (pg_name (i := 6) scRoads.nd rfl (Or.inl rfl))) (fun _ _ _ _ _ => pts_nil) (fun _ _ _ _ _ => (pe_tup (pa_cons (pe_ix (r := rIx K) ix_seq (pv 4) (pv 6) fun _ _ => rfl) (pa_cons (pe_ix (r := rIx K) ix_seq (pv 4) (pe_ix (r := rIx K) ix_seq (pe_lst (pa_cons (pe_op op_sub (pv 6) pe_int) (pa_cons pe_int (pa_cons (pe_o o_law_take (hr.mono (by decide)) (by rfl) (pa_cons (pv 0) (pa_cons (pv 6) pa_nil))) pa_nil)))) (pv 2) fun _ _ => rfl) fun _ _ => rfl) pa_nil)))))
      (pss_one (ps_ret (pe_callB cr_sortedPO (by rfl) (B.u "sorted" (by decide +kernel)) (by decide +kernel) (pa_cons (pe_lc (own := [("a", 7), ("b", 8)]) (g := gTup K 2 (gCons (gName 7) (gCons (gName 8) gNil))) rfl scRoads.nd (pi_list (pv 5)) (blkOk_by (N := ["box", "houses", "kind", "order", "mixed", "pairs", "k", "a", "b"]) (sc := defScope sRoads) (by decide +kernel)) (fun _ _ _ _ _ => (pg_tup rfl (pgs_cons (pg_name (i := 7) scRoads.nd rfl (Or.inl rfl)) (pgs_cons (pg_name (i := 8) scRoads.nd rfl (Or.inl rfl)) pgs_nil)))) (fun _ _ _ _ _ => pts_nil) (fun _ _ _ _ _ => (pe_tup (pa_cons (pe_callB (call_min2 rfl) (by rfl) (B.u "min" (by decide +kernel)) (by decide +kernel) (pa_cons (pv 7) (pa_cons (pv 8) pa_nil))) (pa_cons (pe_callB (call_max2 rfl) (by rfl) (B.u "max" (by decide +kernel)) (by decide +kernel) (pa_cons (pv 7) (pa_cons (pv 8) pa_nil))) pa_nil))))) pa_nil))))))), ?_⟩
    obtain ⟨p, n, c, rfl, hp, n1, n2, hc, q⟩ := h
    refine ⟨_, rfl, p, 3, c, rfl, hp, by omega, by decide, by decide, fun kind H1 kd0 kd1 k1 hp1 e1 => ?_⟩
    refine ⟨_, rfl, _, rfl, RgOk.of_le (by decide) (by omega) (by decide) (by omega), fun po hpo => ?_⟩
    refine ⟨two_ln (by decide), fun pm hpm => ⟨two_ln (by show 3 ≤ _; decide), fun pt hpt => ?_⟩⟩
    refine ⟨pt, _, rfl, SqT.of upd_same, rfl, _, _, rfl, _, _, rfl, _, _, rfl, rfl, ?_⟩
    dsimp only [gName, tSeq, gNil, L2.start]
    have bx0 : ∃ o, H p = some o := BoxAt.some hp
    have bx1 : ∃ o, H1 p = some o := BoxAt.some hp1
    have n_po : p ≠ po := fun e => by obtain ⟨o, z⟩ := bx1; rw [e, hpo] at z; cases z
    have n_pm : p ≠ pm := fun e => by obtain ⟨o, z⟩ := bx1; rw [← e, upd_ne n_po] at hpm; rw [hpm] at z; cases z
    have n_pt : p ≠ pt := fun e => by obtain ⟨o, z⟩ := bx1; rw [← e, upd_ne n_pm, upd_ne n_po] at hpt; rw [hpt] at z; cases z
    have n_om : po ≠ pm := fun e => by rw [← e, upd_same] at hpm; cases hpm
    have n_ot : po ≠ pt := fun e => by rw [← e, upd_ne n_om, upd_same] at hpt; cases hpt
    have n_mt : pm ≠ pt := fun e => by rw [← e, upd_same] at hpt; cases hpt
    have f_po : H po = none := by rw [← e1 po n_po.symm]; exact hpo
    have f_pm : H pm = none := by rw [← e1 pm n_pm.symm, ← upd_ne (o := HO.lst (rgV 0 n)) (H := H1) n_om.symm]; exact hpm
    have f_pt : H pt = none := by
      rw [← e1 pt n_pt.symm, ← upd_ne (o := HO.lst (rgV 0 n)) (H := H1) n_ot.symm]
      rwa [upd_ne n_mt.symm] at hpt
    have rg : rgV 0 n = natV (List.range n) := by
      unfold rgV natV
      have : ((n : Int) - 0).toNat = n := by omega
      rw [this]
      refine List.map_congr_left fun x _ => ?_
      rw [Int.zero_add]
    refine while_by (fun σ H' => ∃ os ms : List Nat, (ms ++ os).Perm (List.range n) ∧ H' po = some (.lst (natV os)) ∧ H' pm = some (.lst (natV ms)) ∧ BoxAt H' p (c + 1 + ms.length) ∧ But p H H' ∧
        σ = [some (.ref p), some (.int n), some (.int kind), some (.ref po), some (.ref pm), none, none, none, none])
      (fun σ H' => match H' po with | some (.lst xs) => xs.length | _ => 0) ?_ ?_ ?_
    · refine ⟨List.range n, [], .refl _, ?_, ?_, ?_, fun b o nb e => ?_, rfl⟩
      · rw [upd_ne n_ot, upd_ne n_om, upd_same, rg]
      · rw [upd_ne n_mt, upd_same]; rfl
      · exact hp1.eq (by rw [upd_ne n_pt, upd_ne n_pm, upd_ne n_po])
      · rw [upd_ne (ne_of_none e f_pt), upd_ne (ne_of_none e f_pm), upd_ne (ne_of_none e f_po)]
        exact k1 _ _ nb e
    · rintro σ H2 ⟨os, ms, pr, h2, h3, hb2, k2, rfl⟩
      have lens : ms.length + os.length = n := by
        have := pr.length_eq
        rwa [List.length_append, List.length_range] at this
      refine ⟨_, rfl, two_ln (by decide), fun pe hpe => ?_⟩
      have g2 : Same H2 (upd H2 pe (.lst [])) := upd_grow hpe
      have h2' := g2 _ _ h2
      have h3' := g2 _ _ h3
      refine ⟨.list (natD os), .list [], (Rdd.lst h2' (nat_rdd os)).dp (natD_lay os), .lst (SqL.of upd_same) .nil, natD_shaped os, by decide, ?_⟩
      rw [natD_nil]
      refine ⟨_, rfl, iteB (fun e => ?_) fun e => ?_⟩
      · have e := not_t e
        have l0 : 0 < os.length := by
          cases os with
          | nil => cases e
          | cons _ _ => simp
        refine ⟨_, rfl, .inl ⟨rfl, _, SqL.of h3'⟩, _, rfl, .inl ⟨rfl, _, SqL.of h2'⟩, _, rfl, _, rfl, _, _, rfl, .inl ⟨_, SqL.of h2', rfl⟩, p, _, c + 1 + ms.length, rfl, hb2.same g2, by omega, ?_, ?_, fun d H4 d0 d1 k4 hb4 e4 => ?_⟩
        · simp [natV]; omega
        · simp [natV]; omega
        · obtain ⟨dn, rfl⟩ : ∃ dn : Nat, d = dn := ⟨d.toNat, by omega⟩
          have dl : dn < os.length := by simp [natV] at d1; omega
          have h2'' := k4 _ _ n_po.symm h2'
          have h3'' := k4 _ _ n_pm.symm h3'
          refine ⟨po, natV os, (dn : Int), dn, .int (os[dn] : Nat), rfl, rfl, h2'', Int.le_trans (by decide : (-(2 ^ 63) : Int) ≤ 0) (Int.natCast_nonneg _), Int.lt_trans (show (dn : Int) < 64 by omega) (by decide), ?_, ?_, pm, natV ms, _, rfl, rfl, ?_, ?_, ?_, ?_⟩
          · have : (natV os).length = os.length := by simp [natV]
            rw [this]
            exact seqIx dl
          · unfold natV
            rw [List.getElem?_map, List.getElem?_eq_getElem dl]
            rfl
          · rw [upd_ne n_om.symm]; exact h3''
          · exact lt_ln (by simp [natV]; omega)
          · refine ⟨os.eraseIdx dn, ms ++ [os[dn]], ?_, ?_, ?_, ?_, fun b o nb e => ?_, rfl⟩
            · have z : (os[dn] :: os.eraseIdx dn).Perm os := erase_perm dl
              rw [List.append_assoc]
              exact (List.Perm.append_left ms z).trans pr
            · rw [upd_ne n_om, upd_same]
              rw [natV_erase]
            · rw [upd_same]
              simp [natV]
            · refine BoxAt.up (BoxAt.eq hb4 ?_) (by simp; omega)
              rw [upd_ne n_pm, upd_ne n_po]
            · rw [upd_ne (ne_of_none e f_pm), upd_ne (ne_of_none e f_po)]
              exact k4 _ _ nb (g2 _ _ (k2 _ _ nb e))
          · show (match (upd (upd H4 po _) pm _) po with | some (HO.lst xs) => xs.length | _ => 0) < (match H2 po with | some (HO.lst xs) => xs.length | _ => 0)
            rw [upd_ne n_om, upd_same, h2]
            simp only [natV, List.length_map, List.length_eraseIdx]
            split <;> omega
      · have e := not_f e
        have os0 : os = [] := by
          cases os with
          | nil => rfl
          | cons _ _ => cases e
        subst os0
        rw [List.append_nil] at pr
        rw [List.length_nil, Nat.add_zero] at lens
        have hb3 := hb2.same g2
        have k3 : But p H (upd H2 pe (.lst [])) := fun b o nb e => g2 _ _ (k2 _ _ nb e)
        generalize hH3 : upd H2 pe (.lst []) = H3 at h3' hb3 k3
        obtain ⟨ob, hob⟩ := hb3.some
        have nd : ms.Nodup := pr.nodup_iff.mpr List.nodup_range
        have bdm : ∀ x ∈ ms, x < n := fun x hx => List.mem_range.mp (pr.mem_iff.mp hx)
        have mget : ∀ i, i < n → (natV ms)[i]? = some (.int (ms.getD i 0 : Nat)) := fun i hi => by
          unfold natV
          rw [List.getElem?_map, List.getD_eq_getElem?_getD, List.getElem?_eq_getElem (by omega)]
          rfl
        refine ⟨_, rfl, _, _, rfl, ⟨by decide, by decide, by omega, by omega⟩, fun D hD => ?_⟩
        have nDp : p ≠ D := ne_of_none hob hD
        have en : ((n : Int) - 1).toNat = n - 1 := by omega
        show ∃ W : Nat → Nat → Hp → Prop, _
        rw [en]
        refine lc_genB (p := p) (walk_range (lo := 1) (n := n - 1)) (fun i H' => BoxAt H' p (c + 1 + n + i)) (fun i y H' => ∃ t j, y = .ref t ∧ j ≤ i ∧ H' t = some (.tup [.int (ms.getD (i + 1) 0 : Nat), .int (ms.getD j 0 : Nat)]))
          (fun i y _ _ k ⟨t, j, a, b, h⟩ => ⟨t, j, a, b, k _ _ h⟩) (fun i H1 H2 e h => h.eq e.symm) hob (by rw [lens] at hb3; exact hb3) hD (by omega) (fun _ _ => True.intro) ?_ ?_
        · rintro i x H0 H4 K1 N1 hi k4 ⟨o, ho⟩ s4 ⟨rfl, hx⟩ hK
          have e2 : (1 : Int) + i = ((i + 1 : Nat) : Int) := by omega
          have hx : x = V.int ((i + 1 : Nat) : Int) := hx.trans (congrArg V.int e2)
          subst hx
          have keep : ∀ {b o}, b ≠ p → H3 b = some o → H4 b = some o := fun {b o} nb e => by
            have z := k4 b o (by rw [del_ne nb]; exact e)
            rw [del_ne nb] at z
            exact del_le _ _ z
          have hm4 := keep n_pm.symm h3'
          refine ⟨rfl, _, rfl, _, rfl, ixAt hm4 (atI_nat (mget (i + 1) (by omega))) ⟨_, rfl, _, rfl, _, _, rfl, rfl, _, rfl, _, rfl, p, _, _, rfl, s4, by omega, by omega, by omega, fun d H5 d0 d1 k5 hb5 e5 => ⟨two_ln (by show 3 ≤ _; decide), fun pl hpl => ⟨_, rfl, ?_⟩⟩⟩⟩
          have hm5 : upd H5 pl (.lst [.int (((i + 1 : Nat) : Int) - 1), .int 0, .int d]) pm = some (.lst (natV ms)) := by
            rw [upd_ne (ne_of_none (k5 _ _ n_pm.symm hm4) hpl)]
            exact k5 _ _ n_pm.symm hm4
          have fin : ∀ j : Nat, j ≤ i → rIx K (.ref pm) (.int (j : Int)) (upd H5 pl (.lst [.int (((i + 1 : Nat) : Int) - 1), .int 0, .int d])) fun v H' => tNil [] H' fun xs H'' => (v :: xs).length + 1 ≤ sizeLine ∧ ∀ t, H'' t = none → K1 (.ref t) (upd H'' t (.tup (.int (ms.getD (i + 1) 0 : Nat) :: v :: xs))) := by
            intro j hj
            refine ixAt hm5 (atI_nat (mget j (by omega))) ⟨two_ln (by show 2 ≤ _; decide), fun t ht => ?_⟩
            obtain ⟨ob5, hob5⟩ := hb5.some
            have npl : p ≠ pl := ne_of_none hob5 hpl
            have npt : p ≠ t := fun e => by rw [← e, upd_ne npl, hob5] at ht; cases ht
            have ho5 := k5 D o nDp.symm ho
            have nDl : D ≠ pl := ne_of_none ho5 hpl
            have nDt : D ≠ t := fun e => by rw [← e, upd_ne nDl, ho5] at ht; cases ht
            refine hK _ _ (fun b o nb e => ?_) (hb5.eq (by rw [upd_ne npt, upd_ne npl])) ⟨t, j, rfl, hj, by rw [del_ne npt.symm, del_ne nDt.symm, upd_same]⟩
            have z := k5 _ _ nb e
            have z2 : upd H5 pl (.lst [.int (((i + 1 : Nat) : Int) - 1), .int 0, .int d]) b = some o := by rw [upd_ne (ne_of_none z hpl)]; exact z
            rw [upd_ne (ne_of_none z2 ht)]
            exact z2
          have three : kind = 0 ∨ kind = 1 ∨ kind = 2 := by omega
          rcases three with rfl | rfl | rfl
          · have e0 : (((i + 1 : Nat) : Int) - 1) = (i : Nat) := by omega
            exact ixAt (v := .int (i : Nat)) upd_same (by show some (V.int (((i + 1 : Nat) : Int) - 1)) = some (V.int ((i : Nat) : Int)); rw [e0]) (fin i (Nat.le_refl _))
          · exact ixAt (v := .int (0 : Nat)) upd_same rfl (fin 0 (Nat.zero_le _))
          · obtain ⟨dn, rfl⟩ : ∃ dn : Nat, d = dn := ⟨d.toNat, by omega⟩
            exact ixAt (v := .int (dn : Nat)) upd_same rfl (fin dn (by omega))
        · intro ys H4 k4 s4 h4 l4 r4
          have keep : ∀ {b o}, b ≠ p → H3 b = some o → H4 b = some o := fun {b o} nb e => by
            have z := k4 b o (by rw [del_ne nb]; exact e)
            rw [del_ne nb] at z
            exact del_le _ _ z
          refine ⟨_, rfl, D, rfl, ⟨_, SqL.of h4⟩, fun D2 hD2 => ?_⟩
          have pair : ∀ i (y : V), ys[i]? = some y → ∃ t j, y = .ref t ∧ j ≤ i ∧ t ≠ p ∧ H4 t = some (.tup [.int (ms.getD (i + 1) 0 : Nat), .int (ms.getD j 0 : Nat)]) := fun i y hy => by
            obtain ⟨t, j, e, hj, ht⟩ := r4 i y hy
            have nt : t ≠ p := fun z => by rw [z, del_same] at ht; cases ht
            rw [del_ne nt] at ht
            exact ⟨t, j, e, hj, nt, del_le _ _ ht⟩
          refine lc_gen walk_list (fun _ => true) (fun i y H' => ∃ t j, y = .ref t ∧ j ≤ i ∧ H' t = some (.tup [.int ((Tm.mkR (ms.getD (i + 1) 0) (ms.getD j 0)).1 : Nat), .int ((Tm.mkR (ms.getD (i + 1) 0) (ms.getD j 0)).2 : Nat)]))
            (fun i y _ _ k ⟨t, j, a, b, h⟩ => ⟨t, j, a, b, k _ _ h⟩) hD2 (by omega) (fun H' k => SqL.of (del_sub k _ _ h4)) ?_ ?_
          · rintro i x H0 H5 K1 N1 hi k5 ⟨o, ho⟩ ⟨rfl, hx⟩ hK _
            obtain ⟨t, j, rfl, hj, nt, ht⟩ := pair i x hx
            have ht5 := del_sub k5 _ _ ht
            refine ⟨t, _, rfl, SqT.of ht5, rfl, _, _, rfl, _, _, rfl, rfl, ?_⟩
            refine ⟨rfl, _, rfl, _, rfl, _, _, rfl, _, rfl, _, rfl, _, _, rfl, two_ln (by show 2 ≤ _; decide), fun t2 ht2 => ?_⟩
            refine hK rfl _ _ (upd_grow ht2) ⟨t2, j, rfl, hj, ?_⟩
            rw [del_new ho ht2]
            have m1 : (if ((ms.getD j 0 : Nat) : Int) < ((ms.getD (i + 1) 0 : Nat) : Int) then ((ms.getD j 0 : Nat) : Int) else ((ms.getD (i + 1) 0 : Nat) : Int)) = ((min (ms.getD (i + 1) 0) (ms.getD j 0) : Nat) : Int) := by split <;> omega
            have m2 : (if ((ms.getD j 0 : Nat) : Int) > ((ms.getD (i + 1) 0 : Nat) : Int) then ((ms.getD j 0 : Nat) : Int) else ((ms.getD (i + 1) 0 : Nat) : Int)) = ((max (ms.getD (i + 1) 0) (ms.getD j 0) : Nat) : Int) := by split <;> omega
            rw [m1, m2]
            rfl
          · intro zs H5 k5 h5 l5 r5
            rw [filt_all, List.length_range] at l5
            rw [filt_all] at r5
            have hb5 : BoxAt H5 p (c + 2 * n) := by
              have z : BoxAt H5 p (c + 1 + n + (n - 1)) := s4.same (del_sub k5)
              exact z.up (by omega)
            obtain ⟨bxs, hbx, _⟩ := id hb5
            have each : ∀ i, i < n - 1 → ∃ j, j ≤ i ∧ ∃ t, zs[i]? = some (.ref t) ∧ t ≠ p ∧ H5 t = some (.tup [.int ((Tm.mkR (ms.getD (i + 1) 0) (ms.getD j 0)).1 : Nat), .int ((Tm.mkR (ms.getD (i + 1) 0) (ms.getD j 0)).2 : Nat)]) := fun i hi => by
              have lz : i < zs.length := by omega
              obtain ⟨t, j, e, hj, ht⟩ := r5 i i zs[i] (by rw [List.getElem?_eq_getElem (by rw [List.length_range]; omega)]; simp) (List.getElem?_eq_getElem lz)
              have ht2 := del_le _ _ ht
              exact ⟨j, hj, t, by rw [List.getElem?_eq_getElem lz, e], (fun z => by rw [z, hbx] at ht2; cases ht2), ht2⟩
            obtain ⟨js, hjs⟩ : ∃ js : Nat → Nat, ∀ i, i < n - 1 → js (i + 1) ≤ i ∧ ∃ t, zs[i]? = some (.ref t) ∧ t ≠ p ∧ H5 t = some (.tup [.int ((Tm.mkR (ms.getD (i + 1) 0) (ms.getD (js (i + 1)) 0)).1 : Nat), .int ((Tm.mkR (ms.getD (i + 1) 0) (ms.getD (js (i + 1)) 0)).2 : Nat)]) := by
              refine ⟨fun k => if h : k - 1 < n - 1 then Classical.choose (each (k - 1) h) else 0, fun i hi => ?_⟩
              have z := Classical.choose_spec (each i hi)
              have e : (if h : i + 1 - 1 < n - 1 then Classical.choose (each (i + 1 - 1) h) else 0) = Classical.choose (each i hi) := dif_pos (by simpa using hi)
              simp only [e]
              exact z
            let kf : V → Int × Int := fun x => match x with
              | .ref t => match H5 t with
                | some (.tup [.int a, .int b]) => (a, b)
                | _ => (0, 0)
              | _ => (0, 0)
            have kat : ∀ i, i < n - 1 → ∃ t, zs[i]? = some (.ref t) ∧ t ≠ p ∧ H5 t = some (.tup [.int (kf (.ref t)).1, .int (kf (.ref t)).2]) ∧ kf (.ref t) = ((((Tm.mkR (ms.getD (i + 1) 0) (ms.getD (js (i + 1)) 0)).1 : Nat) : Int), (((Tm.mkR (ms.getD (i + 1) 0) (ms.getD (js (i + 1)) 0)).2 : Nat) : Int)) := fun i hi => by
              obtain ⟨_, t, h1, h2, h3⟩ := hjs i hi
              have e : kf (.ref t) = ((((Tm.mkR (ms.getD (i + 1) 0) (ms.getD (js (i + 1)) 0)).1 : Nat) : Int), (((Tm.mkR (ms.getD (i + 1) 0) (ms.getD (js (i + 1)) 0)).2 : Nat) : Int)) := by simp only [kf, h3]
              exact ⟨t, h1, h2, by rw [e]; exact h3, e⟩
            have kmem : ∀ x ∈ zs, ∃ t, x = .ref t ∧ t ≠ p ∧ H5 t = some (.tup [.int (kf x).1, .int (kf x).2]) ∧ ∃ a b : Nat, kf x = ((a : Int), (b : Int)) := fun x hx => by
              obtain ⟨i, hi, e⟩ := List.mem_iff_getElem.mp hx
              obtain ⟨t, h1, h2, h3, h4⟩ := kat i (by omega)
              rw [List.getElem?_eq_getElem hi, e] at h1
              obtain rfl : x = .ref t := Option.some.inj h1
              exact ⟨t, rfl, h2, h3, _, _, h4⟩
            refine ⟨D2, zs, kf, rfl, SqL.of h5, (fun x hx => let ⟨t, a, _, b, _⟩ := kmem x hx; ⟨t, a, b⟩), fun ys' p' srt stb hp' => ?_⟩
            have pm' := stb.perm
            have ymem : ∀ x ∈ ys', ∃ t, x = .ref t ∧ t ≠ p ∧ H5 t = some (.tup [.int (kf x).1, .int (kf x).2]) ∧ ∃ a b : Nat, kf x = ((a : Int), (b : Int)) := fun x hx => kmem x (pm'.mem_iff.mp hx)
            let road : V → Tm.Road := fun y => ((kf y).1.toNat, (kf y).2.toNat)
            have zr : zs.map road = (List.range (n - 1)).map fun i => Tm.mkR (ms.getD (i + 1) 0) (ms.getD (js (i + 1)) 0) := by
              apply List.ext_getElem
              · simp; omega
              · intro i h1 h2
                have hi : i < n - 1 := by simpa using h2
                obtain ⟨t, e1, _, _, e4⟩ := kat i hi
                have lz : i < zs.length := by omega
                rw [List.getElem?_eq_getElem lz] at e1
                have e1 := Option.some.inj e1
                rw [List.getElem_map, List.getElem_map, List.getElem_range, e1]
                simp only [road, e4, Int.toNat_natCast]
            obtain ⟨ok, jo⟩ := Tm.tree_of (ms := ms) (js := js) (rs := ys'.map road) n1 lens nd bdm (fun i hi => (hjs i (by omega)).1) (by rw [← zr]; exact pm'.map road) (by
              refine List.pairwise_map.mpr (srt.imp_of_mem fun {x y} hx hy e => ?_)
              obtain ⟨_, _, _, _, a, b, ex⟩ := ymem x hx
              obtain ⟨_, _, _, _, a2, b2, ey⟩ := ymem y hy
              simp only [ltP, ex, ey] at e
              have e : ¬ SrtO.lexB ((a2 : Int), (b2 : Int)) ((a : Int), (b : Int)) = true := by rw [e]; exact Bool.false_ne_true
              rw [SrtO.lexB_iff] at e
              simp only [road, ex, ey, Int.toNat_natCast, Tm.ltR]
              simp only at e
              have c1 : ¬ (a2 < a ∨ a2 = a ∧ b2 < b) := fun z => e (by omega)
              simpa using c1)
            have hp5 : p ≠ p' := fun z => by rw [← z, hbx] at hp'; cases hp'
            refine q (ys'.map road) p' _ ok jo (fun b o nb e => ?_) (hb5.eq (upd_ne hp5)) ?_ hp5.symm (.lst (by rw [del_ne hp5.symm, upd_same]) ?_)
            · have z := del_sub k5 _ _ (keep nb (k3 _ _ nb e))
              rw [upd_ne (ne_of_none z hp')]
              exact z
            · cases e : H p' with
              | none => rfl
              | some o => rw [del_sub k5 _ _ (keep hp5.symm (k3 _ _ hp5.symm e))] at hp'; cases hp'
            · refine rdds_of (by simp) fun i y d hy hd => ?_
              rw [List.map_map, List.getElem?_map, hy] at hd
              obtain rfl := Option.some.inj hd
              obtain ⟨t, rfl, nt, ht, a, b, ek⟩ := ymem y (List.mem_of_getElem? hy)
              have e : rd (road (.ref t)) = .tuple [.int (kf (.ref t)).1, .int (kf (.ref t)).2] := by simp only [rd, road, ek, Int.toNat_natCast]
              show Rdd _ _ (rd (road (.ref t)))
              rw [e]
              exact .tup (by rw [del_ne nt, upd_ne (ne_of_none ht hp')]; exact ht) (.cons (.int _) (.cons (.int _) .nil))
    · rintro σ H1 Q1 Q2 h ⟨v, hv, hz⟩
      refine ⟨v, hv, hz.1, fun pe hpe => ?_⟩
      obtain ⟨d1, d2, a1, a2, a3, a4, k, hk, q⟩ := hz.2 pe hpe
      exact ⟨d1, d2, a1, a2, a3, a4, k, hk, h _ _ q⟩
end
end K02

namespace K02
open PySem PySem.Spec PyProof.Rows L2
abbrev sLNear : Stmt := top 32
theorem scLNear : FnScope ["houses", "roads", "near", "k", "u", "v", "row"] ["houses", "roads"] (defScope sLNear) := ⟨rfl, rfl, rfl, by decide +kernel, rfl, by decide +kernel, by decide +kernel⟩
/-- the rows of the houses, as lists -/
def nearL (n : Nat) (rs : List Tm.Road) : PyData := .list ((List.range n).map fun h => .list (natD (Tm.near rs h)))
/-- what is new -/
def newH (H H' : Hp) : Hp := fun b => match H b with | none => H' b | some _ => none
theorem new_at {H H' : Hp} {b : Addr} {o : HO} (h : H b = none) (e : H' b = some o) : newH H H' b = some o := by
  unfold newH
  rw [h]
  exact e
theorem new_same {H H' H2 : Hp} (k : ∀ b o, H b = none → H' b = some o → H2 b = some o) : Same (newH H H') H2 := fun b o e => by
  unfold newH at e
  cases z : H b with
  | none => rw [z] at e; exact k b o z e
  | some u => rw [z] at e; cases e
def spLNear : Sp := fun vs H Q _ => ∃ (n : Nat) (p : Addr) (xs : List V) (rs : List Tm.Road), vs = [.int n, .ref p] ∧ RowAt H p xs ∧ RddAll H xs (rs.map rd) ∧ Tm.RoadsOk n rs ∧ n ≤ 64 ∧
  ∀ nt H', Same H H' → H nt = none → Rdd H' (.ref nt) (nearL n rs) → Rdd (newH H H') (.ref nt) (nearL n rs) → Q (.ref nt) H'
theorem natV_int (l : List Nat) : natV l = (l.map fun x : Nat => (x : Int)).map V.int := by
  unfold natV
  rw [List.map_map]
  rfl
theorem sorted_nat {l : List Nat} {ns : List Int} (h : ns.Perm (l.map fun x : Nat => (x : Int))) (s : ns.Pairwise (· ≤ ·)) (a : l.Pairwise (· < ·)) : ns.map V.int = natV l := by
  rw [natV_int]
  rw [Tm.sort_one h s (List.pairwise_map.mpr (a.imp fun {x y} z => by omega))]
/-- the row of a house, of lists -/
theorem nearL_row {H : Hp} {nt : Addr} {n h : Nat} {rs : List Tm.Road} (r : Rdd H (.ref nt) (nearL n rs)) (hh : h < n) : ∃ xs t, H nt = some (.lst xs) ∧ atI xs (h : Int) = some (.ref t) ∧ H t = some (.lst (natV (Tm.near rs h))) := by
  cases r with
  | lst h1 ra =>
    have e : ((List.range n).map fun h => PyData.list (natD (Tm.near rs h)))[h]? = some (.list (natD (Tm.near rs h))) := by
      rw [List.getElem?_map, List.getElem?_eq_getElem (by rw [List.length_range]; exact hh)]
      simp
    obtain ⟨x, hx, rx⟩ := rdds_get ra e
    cases rx with
    | lst h2 r2 =>
      rw [rdd_nat r2] at h2
      exact ⟨_, _, h1, atI_nat hx, h2⟩
section
variable {P : Program} {w : World} {K : PySem.W.Frag} {mg : Str → Option Value} {base : Heap} {f : Addr} {fd : FuncData}
theorem ok_lnear (F : Fd K "_law_near" sLNear f fd) (g : mg "_law_near" = some (.ref f)) (B : Bl mg) : Ok P w K mg base CX0 1 "_law_near" sLNear ["houses", "roads"] spLNear := by
  refine ⟨f, fd, g, F, F.bindsN fun _ _ _ _ _ _ us hl => match us, hl with | [_, _], _ => rfl, F.ok scLNear (fun vs H Q E h => ?_) (fun cdv A outer s H vs Q E hr h => ?_)⟩
  · obtain ⟨n, p, xs, rs, rfl, _⟩ := h
    rfl
  · refine ⟨_, (pss_cons (ps_setLc (i := 2) (own := [("k", 3)]) (g := gName 3) rfl scLNear.nd rfl rfl (sw_true rfl rfl rfl (by decide +kernel)) (pi_range1 (by rfl) (B.u "range" (by decide +kernel)) (pa_cons (pv 0) pa_nil)) (blkOk_by (N := ["houses", "roads", "near", "k", "u", "v", "row"]) (sc := defScope sLNear) (by decide +kernel)) (fun _ _ _ _ _ => (pg_name (i := 3) scLNear.nd rfl (Or.inl rfl))) (fun _ _ _ _ _ => pts_nil) (fun _ _ _ _ _ => (pe_lst pa_nil)))
      (pss_cons (ps_for (passes_of rfl) rfl (pi_seq (pv 1)) (pg_tup rfl (pgs_cons (pg_name (i := 4) scLNear.nd rfl (Or.inl rfl)) (pgs_cons (pg_name (i := 5) scLNear.nd rfl (Or.inl rfl)) pgs_nil)))
        (pss_cons (ps_expr (pe_bm PySem.F.plainAttrs_list PySem.F.slot_list_append PySem.F.type_list_append mt_append (pe_ix ix_seq (pv 2) (pv 4) fun _ _ => rfl) (pa_cons (pv 5) pa_nil)))
        (pss_one (ps_expr (pe_bm PySem.F.plainAttrs_list PySem.F.slot_list_append PySem.F.type_list_append mt_append (pe_ix ix_seq (pv 2) (pv 5) fun _ _ => rfl) (pa_cons (pv 4) pa_nil))))))
      (pss_one (ps_ret (pe_lc (own := [("row", 6)]) (g := gName 6) rfl scLNear.nd (pi_list (pv 2)) (blkOk_by (N := ["houses", "roads", "near", "k", "u", "v", "row"]) (sc := defScope sLNear) (by decide +kernel)) (fun _ _ _ _ _ => (pg_name (i := 6) scLNear.nd rfl (Or.inl rfl))) (fun _ _ _ _ _ => pts_nil) (fun _ _ _ _ _ => (pe_callB (r := rSortedI K) (by exact cr_sortedI) (by rfl) (B.u "sorted" (by decide +kernel)) (by decide +kernel) (pa_cons (pv 6) pa_nil)))))))), ?_⟩
    obtain ⟨n, p, xs, rs, rfl, hp, ra, rok, n1, q⟩ := h
    have bd := rok.bnd
    have n2 : rs.length ≤ 100 := by have := rok.len; omega
    have l := rdds_len ra
    rw [List.length_map] at l
    refine ⟨_, rfl, _, rfl, by omega, by omega, fun D hD => ?_⟩
    refine lc_empties walk_range hD (by omega) (fun _ _ => True.intro) ?_ ?_
    · rintro i x H0 H1 K1 N1 hi k1 ⟨rfl, rfl⟩ hK
      exact ⟨rfl, two_ln (by decide), fun a ha => hK a ha⟩
    · intro as H1 l1 f1 k1 k2 S
      refine ⟨_, rfl, p, xs, rfl, (hp.mono k2).sq, fun J w => ?_⟩
      have keep : ∀ {H' : Hp} {a : Addr} {ys : List V}, Same H H' → a ∈ as → Same H (upd H' a (.lst ys)) := fun k m b o e => by
        rw [upd_ne (ne_of_none e (f1 _ m))]
        exact k b o e
      refine for_it w (fun i σ H' => Same H H' ∧ LL H' D as (fun h => natV (Tm.near (rs.take i) h)) ∧ ∃ a b c : Option V, σ = [some (.int n), some (.ref p), some (.ref D), a, b, c, none]) ⟨k2, S.congr fun i _ => rfl, none, none, none, rfl⟩ (fun i σ H' _ h => ?_) ?_ ?_
      · rcases hp with h1 | h1
        · rw [h.1 _ _ h1, k2 _ _ h1]
        · rw [h.1 _ _ h1, k2 _ _ h1]
      · rintro i x σ H0 H2 hi ⟨k3, S2, a, b, c, rfl⟩ ⟨rfl, hx⟩
        have hdi : i < rs.length := by omega
        obtain ⟨x', hx', rx⟩ := rdds_get (ra.mono k3) (show (rs.map rd)[i]? = some (rd rs[i]) by rw [List.getElem?_map, List.getElem?_eq_getElem hdi]; rfl)
        rw [hx] at hx'
        obtain rfl : x = x' := Option.some.inj hx'
        have bi := bd _ (List.getElem_mem hdi)
        generalize hr2 : rs[i] = r at rx bi
        obtain ⟨u, v⟩ := r
        unfold rd at rx
        cases rx with
        | @tup pt ys es h r2 =>
          obtain ⟨y1, y2, rfl, r3, r4⟩ := rdds_two r2
          cases r3
          cases r4
          simp only at bi
          have lu : u < as.length := by omega
          have lv : v < as.length := by omega
          have au : as[u]? = some as[u] := List.getElem?_eq_getElem lu
          have av : as[v]? = some as[v] := List.getElem?_eq_getElem lv
          have mu := List.getElem_mem lu
          have mv := List.getElem_mem lv
          have len : ∀ h, (natV (Tm.near (rs.take i) h)).length ≤ 100 := fun h => by
            unfold natV
            rw [List.length_map]
            have := near_len (n := n) (rs := rs.take i) h
            rw [List.length_take] at this
            omega
          have S3 := S2.set au (natV (Tm.near (rs.take i) u) ++ [V.int (v : Int)])
          have S4 := S3.set av (natV (Tm.near (rs.take i) v) ++ [V.int (u : Int)])
          have ne : ¬ v = u := by omega
          refine ⟨pt, _, rfl, SqT.of h, rfl, _, _, rfl, _, _, rfl, rfl, ?_⟩
          refine ⟨_, rfl, _, rfl, ixAt (v := .ref as[u]) S2.top (atI_nat (by rw [List.getElem?_map, au]; rfl)) ⟨.inl ⟨rfl, _, SqL.of (S2.row u _ au)⟩, _, rfl, _, _, _, rfl, rfl, S2.row u _ au, lt_ln (by have := len u; omega), ?_⟩⟩
          refine ⟨_, rfl, _, rfl, ixAt (v := .ref as[v]) S3.top (atI_nat (by rw [List.getElem?_map, av]; rfl)) ⟨.inl ⟨rfl, _, SqL.of (S3.row v _ av)⟩, _, rfl, _, _, _, rfl, rfl, S3.row v _ av, ?_, ?_⟩⟩
          · rw [if_neg ne]
            exact lt_ln (by have := len v; omega)
          · rw [if_neg ne]
            refine ⟨keep (keep k3 mu) mv, S4.congr fun j hj => ?_, _, _, _, rfl⟩
            rw [List.take_succ_eq_append_getElem hdi, Tm.near_snoc, hr2]
            unfold natV Tm.nb
            rw [List.map_append]
            by_cases c1 : j = v
            · subst c1
              rw [if_pos rfl, if_neg (by simp only; omega), if_pos rfl]
              rfl
            · rw [if_neg c1]
              by_cases c2 : j = u
              · subst c2
                rw [if_pos rfl, if_pos rfl]
                rfl
              · rw [if_neg c2, if_neg (by simp only; omega), if_neg (by simp only; omega)]
                simp
      · rintro σ H2 ⟨k3, S2, a, b, c, rfl⟩
        rw [l, List.take_length] at S2
        refine ⟨_, rfl, D, rfl, ⟨_, SqL.of S2.top⟩, fun D2 hD2 => ?_⟩
        refine lc_gen walk_list (fun _ => true) (fun i y H' => ∃ t, y = .ref t ∧ H t = none ∧ H' t = some (.lst (natV (Tm.near rs i)))) (fun i y _ _ k ⟨t, e, f, h⟩ => ⟨t, e, f, k _ _ h⟩) hD2 (by rw [List.length_map]; omega) (fun H' k => SqL.of (del_sub k _ _ S2.top)) ?_ ?_
        · rintro i x H0 H3 K1 N1 hi k4 ⟨o, ho⟩ ⟨rfl, hx⟩ hK _
          rw [List.length_map] at hi
          have ai : as[i]? = some as[i] := List.getElem?_eq_getElem hi
          rw [List.getElem?_map, ai] at hx
          obtain rfl : V.ref as[i] = x := Option.some.inj hx
          have k5 := del_sub k4
          refine ⟨rfl, _, rfl, _, _, rfl, SqL.of (by rw [← natV_int]; exact k5 _ _ (S2.row i _ ai)), fun ns t pm srt ht => hK rfl _ _ (upd_grow ht) ?_⟩
          rw [sorted_nat pm srt (Tm.near_asc (fun r hr => (bd r hr).1) rok.asc i)]
          have ft : H t = none := by
            cases e : H t with
            | none => rfl
            | some u => rw [k5 _ _ (k3 _ _ e)] at ht; cases ht
          exact ⟨t, rfl, ft, del_new ho ht⟩
        · intro ys H3 k4 h3 l3 r3
          rw [filt_all] at l3 r3
          rw [List.length_map, List.length_range] at l3
          rw [List.length_map] at r3
          have z : H D2 = none := by
            cases e : H D2 with
            | none => rfl
            | some o => rw [k3 _ _ e] at hD2; cases hD2
          have each : ∀ i y d, ys[i]? = some y → ((List.range n).map fun h => PyData.list (natD (Tm.near rs h)))[i]? = some d → ∃ t, y = .ref t ∧ H t = none ∧ H3 t = some (.lst (natV (Tm.near rs i))) ∧ d = .list (natD (Tm.near rs i)) := fun i y d h1 h2 => by
            have lt := (List.getElem?_eq_some_iff.mp h1).1
            rw [List.getElem?_map, List.getElem?_eq_getElem (by rw [List.length_range]; omega)] at h2
            simp at h2
            subst h2
            obtain ⟨t, e, f, h⟩ := r3 i i y (by rw [List.getElem?_eq_getElem (by rw [List.length_range]; omega)]; simp) h1
            exact ⟨t, e, f, del_le _ _ h, rfl⟩
          have ll : ys.length = ((List.range n).map fun h => PyData.list (natD (Tm.near rs h))).length := by rw [List.length_map, List.length_range]; omega
          refine q D2 _ (fun b o e => del_sub k4 _ _ (k3 b o e)) z (.lst h3 (rdds_of ll fun i y d h1 h2 => ?_)) (.lst (new_at z h3) (rdds_of ll fun i y d h1 h2 => ?_))
          · obtain ⟨t, rfl, f, h, rfl⟩ := each i y d h1 h2
            exact .lst h (nat_rdd _)
          · obtain ⟨t, rfl, f, h, rfl⟩ := each i y d h1 h2
            exact .lst (new_at f h) (nat_rdd _)
end
end K02

namespace K02
open PySem PySem.Spec PyProof.Rows L2
abbrev sTowd : Stmt := top 33
theorem scTowd : FnScope ["near", "goal", "found", "front", "row", "at", "other"] ["near", "goal"] (defScope sTowd) := ⟨rfl, rfl, rfl, by decide +kernel, rfl, by decide +kernel, by decide +kernel⟩
/-- the parent of a house among those found -/
def par (b : Tm.B) (x : Nat) : Option Nat := (b.find? fun y => y.1 == x).map (·.2)
def optV : Option Nat → V
  | none => .non
  | some p => .int (p : Int)
def foundV (n : Nat) (b : Tm.B) : List V := (List.range n).map fun x => optV (par b x)
theorem par_none {b : Tm.B} {x : Nat} : par b x = none ↔ x ∉ Tm.keys b := by
  unfold par Tm.keys
  rw [Option.map_eq_none_iff, List.find?_eq_none, List.mem_map]
  constructor
  · rintro h ⟨y, hy, e⟩
    exact h y hy (by simpa using e)
  · intro h y hy e
    exact h ⟨y, hy, by simpa using e⟩
theorem par_snoc {b : Tm.B} {x o p : Nat} (h : o ∉ Tm.keys b) : par (b ++ [(o, p)]) x = if x = o then some p else par b x := by
  unfold par
  rw [List.find?_append]
  by_cases c : x = o
  · subst c
    have z : (b.find? fun y => y.1 == x) = none := by
      have := par_none.mpr h
      unfold par at this
      rwa [Option.map_eq_none_iff] at this
    rw [if_pos rfl, z]
    simp
  · rw [if_neg c]
    have : (List.find? (fun y : Nat × Nat => y.1 == x) [(o, p)]) = none := by simp; exact fun e => c e.symm
    rw [this]
    cases b.find? fun y => y.1 == x <;> rfl
theorem par_mem {b : Tm.B} {x p : Nat} (d : (Tm.keys b).Nodup) (h : (x, p) ∈ b) : par b x = some p := by
  cases e : par b x with
  | none => exact absurd (Tm.key_mem h) (par_none.mp e)
  | some q =>
    unfold par at e
    obtain ⟨y, hy, e2⟩ := Option.map_eq_some_iff.mp e
    have m := List.mem_of_find?_eq_some hy
    have k := List.find?_some hy
    obtain ⟨y1, y2⟩ := y
    simp only at e2
    have k : y1 = x := by simpa using k
    subst k e2
    rw [Tm.key_one d m h]
theorem found_set {n : Nat} {b : Tm.B} {o p : Nat} (h : o ∉ Tm.keys b) : (foundV n b).set o (.int (p : Int)) = foundV n (b ++ [(o, p)]) := by
  unfold foundV
  apply List.ext_getElem
  · simp
  · intro i h1 h2
    rw [List.getElem_set, List.getElem_map, List.getElem_map, List.getElem_range, par_snoc h]
    by_cases c : o = i
    · rw [if_pos c, if_pos c.symm]
      rfl
    · rw [if_neg c, if_neg (fun e => c e.symm)]
theorem found_at {n : Nat} {b : Tm.B} {x : Nat} (h : x < n) : atI (foundV n b) (x : Int) = some (optV (par b x)) := atI_nat (by
  unfold foundV
  rw [List.getElem?_map, List.getElem?_eq_getElem (by rw [List.length_range]; exact h)]
  simp)
theorem found_len {n : Nat} {b : Tm.B} : (foundV n b).length = n := by simp [foundV]
theorem ixN_nat {n k : Nat} (h : k < n) : ixN n (k : Int) = some k := by
  unfold ixN
  rw [if_pos (Int.natCast_nonneg k), if_pos (by omega)]
  rfl
theorem found_num {n : Nat} {b : Tm.B} (d : (Tm.keys b).Nodup) (lt : ∀ x ∈ Tm.keys b, x < n) : ((foundV n b).filter fun v => decide (v ≠ V.non)).length = b.length := by
  unfold foundV
  rw [List.filter_map, List.length_map]
  have e : (List.range n).filter ((fun v => decide (v ≠ V.non)) ∘ fun x => optV (par b x)) = (List.range n).filter fun x => decide (x ∈ Tm.keys b) := by
    apply List.filter_congr
    intro x _
    show decide (optV (par b x) ≠ V.non) = decide (x ∈ Tm.keys b)
    apply decide_eq_decide.mpr
    cases e : par b x with
    | none => simp [optV, par_none.mp e]
    | some p =>
      have : x ∈ Tm.keys b := by
        by_cases c : x ∈ Tm.keys b
        · exact c
        · rw [par_none.mpr c] at e; cases e
      simp [optV, this]
  rw [e]
  have p : ((List.range n).filter fun x => decide (x ∈ Tm.keys b)).Perm (Tm.keys b) := by
    refine (List.perm_ext_iff_of_nodup (List.nodup_range.filter _) d).mpr fun x => ?_
    rw [List.mem_filter, List.mem_range]
    simp
    exact lt x
  rw [p.length_eq]
  simp [Tm.keys]
def spTowd : Sp := fun vs H Q _ => ∃ (nt : Addr) (n s : Nat) (rs : List Tm.Road), vs = [.ref nt, .int s] ∧ Rdd H (.ref nt) (nearL n rs) ∧ Bnd n rs ∧ s < n ∧ n ≤ 64 ∧
  ∀ d b H', Same H H' → H d = none → Tm.Dfs (Tm.near rs) none [(s, s)] [s] b → Tm.Going (Tm.near rs) none s b [] → H' d = some (.lst (foundV n b)) → Q (.ref d) H'
section
variable {P : Program} {w : World} {K : PySem.W.Frag} {mg : Str → Option Value} {base : Heap} {f : Addr} {fd : FuncData}
theorem ok_toward (F : Fd K "_law_toward" sTowd f fd) (g : mg "_law_toward" = some (.ref f)) (B : Bl mg) : Ok P w K mg base CX0 1 "_law_toward" sTowd ["near", "goal"] spTowd := by
  refine ⟨f, fd, g, F, F.bindsN fun _ _ _ _ _ _ us hl => match us, hl with | [_, _], _ => rfl, F.ok scTowd (fun vs H Q E h => ?_) (fun cdv A outer s H vs Q E hr h => ?_)⟩
  · obtain ⟨nt, n, s, rs, rfl, _⟩ := h
    rfl
  · have hu : (cxOf CX0 P w K mg base ["near", "goal", "found", "front", "row", "at", "other"] "_law_toward" (defScope sTowd) f cdv A outer s H E).A.units + 64 < cLine := by
      have z := hr.un
      show (A.deeper _).units + 64 < cLine
      omega
    refine ⟨_, (pss_cons (ps_par (i := 2) (j := 3) rfl scTowd.nd rfl rfl (by decide) rfl rfl (pa_cons (pe_lc (own := [("row", 4)]) (g := gName 4) rfl scTowd.nd (pi_list (pv 0)) (blkOk_by (N := ["near", "goal", "found", "front", "row", "at", "other"]) (sc := defScope sTowd) (by decide +kernel)) (fun _ _ _ _ _ => (pg_name (i := 4) scTowd.nd rfl (Or.inl rfl))) (fun _ _ _ _ _ => pts_nil) (fun _ _ _ _ _ => pe_non)) (pa_cons (pe_lst (pa_cons (pv 1) pa_nil)) pa_nil)) rfl)
      (pss_cons (ps_asg (pv 1) (pg_sub (pv 2) (pv 1) set_list fun _ => rfl))
      (pss_cons (ps_while (passes_of rfl) (pt_cmpR (op_neD hu) (pv 3) (pe_lst pa_nil) (nomark _))
        (pss_cons (ps_set (i := 5) scTowd.nd rfl (Or.inl rfl) (pe_bm0 PySem.F.plainAttrs_list PySem.F.slot_list_pop PySem.F.type_list_pop mt_pop (pv 3)))
        (pss_one (ps_for (passes_of rfl) rfl (pi_seq (pe_ix ix_seq (pv 0) (pv 5) fun _ _ => rfl)) (pg_name (i := 6) scTowd.nd rfl (Or.inl rfl))
          (pss_one (ps_if (pt_cmpR op_isN (pe_ix ix_seq (pv 2) (pv 6) fun _ _ => rfl) pe_non (nomark _))
            (pss_cons (ps_asg (pv 5) (pg_sub (pv 2) (pv 6) set_list fun _ => rfl))
            (pss_one (ps_expr (pe_bm PySem.F.plainAttrs_list PySem.F.slot_list_append PySem.F.type_list_append mt_append (pv 3) (pa_cons (pv 6) pa_nil)))))
            pss_nil))))))
      (pss_one (ps_ret (pv 2)))))), ?_⟩
    obtain ⟨nt, n, s, rs, rfl, hn, bd, sn, n1, q⟩ := h
    have lt : ∀ h, ∀ x ∈ Tm.near rs h, x < n := fun h x hx => (Tm.near_lt bd hx).1
    obtain ⟨rows, hrows, lrows⟩ : ∃ rows, H nt = some (.lst rows) ∧ rows.length = n := by
      cases hn with
      | lst h1 ra => exact ⟨_, h1, by have := rdds_len ra; simpa using this⟩
    refine ⟨_, rfl, nt, rfl, ⟨_, SqL.of hrows⟩, fun D hD => ?_⟩
    refine lc_gen walk_list (fun _ => true) (fun i y H' => y = V.non) (fun i y _ _ k h => h) hD (by omega) (fun H' k => SqL.of (del_sub k _ _ hrows)) ?_ ?_
    · rintro i x H0 H3 K1 N1 hi k4 ⟨o, ho⟩ ⟨rfl, hx⟩ hK _
      exact ⟨rfl, hK rfl _ _ (fun b o e => e) rfl⟩
    · intro ys H3 k4 h3 l3 r3
      rw [filt_all, List.length_range, lrows] at l3
      rw [filt_all, lrows] at r3
      have k3 : Same H H3 := del_sub k4
      have eys : ys = foundV n [] := by
        apply List.ext_getElem
        · rw [found_len]; exact l3
        · intro i h1 h2
          rw [r3 i i ys[i] (by rw [List.getElem?_eq_getElem (by rw [List.length_range]; omega)]; simp) (List.getElem?_eq_getElem h1)]
          simp [foundV, par, optV]
      subst eys
      refine ⟨_, rfl, two_ln (by show 1 ≤ _; decide), fun pf hpf => ?_⟩
      have nf : pf ≠ D := fun e => by rw [e, h3] at hpf; cases hpf
      have f_pf : H pf = none := by
        cases e : H pf with
        | none => rfl
        | some o => rw [k3 _ _ e] at hpf; cases hpf
      dsimp only [gName, tSeq, gNil, L2.start]
      have h3' : upd H3 pf (.lst [V.int (s : Int)]) D = some (.lst (foundV n [])) := by rw [upd_ne nf.symm]; exact h3
      refine ⟨_, _, rfl, ?_⟩
      refine ⟨_, rfl, _, rfl, _, rfl, D, _, (s : Int), s, rfl, rfl, h3', by rw [found_len]; exact ixN_nat sn, ?_⟩
      rw [found_set (by simp [Tm.keys]), List.nil_append]
      have gk : ∀ {H4 : Hp} {x y : List V} {b o}, Same H H4 → H b = some o → upd (upd H4 D (.lst x)) pf (.lst y) b = some o := fun k e => by
        rw [upd_ne (ne_of_none e f_pf), upd_ne (ne_of_none e hD)]
        exact k _ _ e
      refine while_by (fun σ H' => ∃ b st, Tm.Going (Tm.near rs) none s b st ∧ st.length ≤ b.length ∧ (∀ r, Tm.Dfs (Tm.near rs) none b st r → Tm.Dfs (Tm.near rs) none [(s, s)] [s] r) ∧ Same H H' ∧ H' D = some (.lst (foundV n b)) ∧ H' pf = some (.lst (natV st.reverse)) ∧
          ∃ x y z : Option V, σ = [some (.ref nt), some (.int s), some (.ref D), some (.ref pf), x, y, z])
        (fun σ H' => (match H' pf with | some (.lst xs) => xs.length | _ => 0) + (n - match H' D with | some (.lst xs) => (xs.filter fun v => decide (v ≠ V.non)).length | _ => 0)) ?_ ?_ ?_
      · refine ⟨[(s, s)], [s], .start, Nat.le_refl _, fun r h => h, fun b o e => ?_, upd_same, ?_, none, none, none, rfl⟩
        · rw [upd_ne (ne_of_none e hD), upd_ne (ne_of_none e f_pf)]
          exact k3 _ _ e
        · rw [upd_ne nf, upd_same]; rfl
      · rintro σ H1 ⟨b, st, G, sl0, hd, k1, h1, h2, x, y, z, rfl⟩
        refine ⟨_, rfl, two_ln (by decide), fun pe hpe => ?_⟩
        have g2 : Same H1 (upd H1 pe (.lst [])) := upd_grow hpe
        refine ⟨.list (natD st.reverse), .list [], (Rdd.lst (g2 _ _ h2) (nat_rdd _)).dp (natD_lay _), .lst (SqL.of upd_same) .nil, natD_shaped _, by decide, ?_⟩
        rw [natD_nil]
        cases st with
        | nil => exact ⟨_, rfl, iteF ⟨_, rfl, q D b _ (fun b o e => g2 _ _ (k1 _ _ e)) hD (hd b .done) G (g2 _ _ h1)⟩⟩
        | cons a st =>
          obtain ⟨G2, lens⟩ := G.next
          have la : a < n := G.g.bound sn lt a (G.sub a List.mem_cons_self)
          have ee : (a :: st).reverse.isEmpty = false := by simp
          have e1 : natV (a :: st).reverse = natV st.reverse ++ [V.int (a : Int)] := by simp [natV]
          have m0 : (match H1 pf with | some (HO.lst xs) => xs.length | _ => 0) = st.length + 1 := by rw [h2]; simp [natV]
          have m1 : (match H1 D with | some (HO.lst xs) => (xs.filter fun v => decide (v ≠ V.non)).length | _ => 0) = b.length := by rw [h1]; exact found_num G.g.nodup (G.g.bound sn lt)
          rw [ee]
          have h1' := g2 _ _ h1
          have h2' := g2 _ _ h2
          have k1' : Same H (upd H1 pe (.lst [])) := fun b o e => g2 _ _ (k1 _ _ e)
          generalize upd H1 pe (.lst []) = H1' at h1' h2' k1'
          rw [e1] at h2'
          refine ⟨_, rfl, iteT ⟨_, rfl, .inl ⟨rfl, _, SqL.of h2'⟩, pf, _, .int a, rfl, rfl, h2', ?_, ?_⟩⟩
          · rw [List.length_append]
            simp
          · rw [List.dropLast_concat]
            obtain ⟨rows, t, ht1, ht2, ht3⟩ := nearL_row hn la
            have k2 : Same H (upd H1' pf (.lst (natV st.reverse))) := fun b o e => by
              rw [upd_ne (ne_of_none e f_pf)]
              exact k1' b o e
            refine ⟨_, rfl, _, rfl, ixAt (k2 _ _ ht1) ht2 ⟨t, natV (Tm.near rs a), rfl, .inl (SqL.of (k2 _ _ ht3)), fun J w => ?_⟩⟩
            refine for_it w (fun i σ H' => ∃ b2 st2, (b2, st2) = ((Tm.near rs a).take i).foldl (Tm.visit none a) (b, st) ∧ Same H H' ∧ H' D = some (.lst (foundV n b2)) ∧ H' pf = some (.lst (natV st2.reverse)) ∧
                ∃ x z : Option V, σ = [some (.ref nt), some (.int s), some (.ref D), some (.ref pf), x, some (.int a), z]) ?_ (fun i σ H' _ h => ?_) ?_ ?_
            · exact ⟨b, st, rfl, k2, by rw [upd_ne nf.symm]; exact h1', upd_same, x, z, rfl⟩
            · obtain ⟨_, _, _, k3, _⟩ := h
              rw [k3 _ _ ht3, k2 _ _ ht3]
            · rintro i x2 σ H0 H2 hi ⟨b2, st2, e2, k3, h3, h4, x3, z3, rfl⟩ ⟨rfl, hx⟩
              obtain ⟨li, rfl⟩ := nat_get hx
              have step : ((Tm.near rs a).take (i + 1)).foldl (Tm.visit none a) (b, st) = Tm.visit none a (b2, st2) (Tm.near rs a)[i] := by
                rw [List.take_succ_eq_append_getElem li, List.foldl_append, ← e2]
                rfl
              have lo : (Tm.near rs a)[i] < n := lt a _ (List.getElem_mem li)
              obtain ⟨g1, _, _, _, _, _, g7⟩ := Tm.visit_grown (bar := none) (os := (Tm.near rs a).take i) (st := st) G.g (G.sub a List.mem_cons_self) fun o ho => List.mem_of_mem_take ho
              rw [← e2] at g1 g7
              simp only at g1 g7
              generalize ho : (Tm.near rs a)[i] = o at step lo
              refine ⟨_, rfl, _, rfl, ixAt h3 (found_at lo) ⟨rfl, ?_⟩⟩
              cases ep : par b2 o with
              | some pr =>
                have c : o ∈ Tm.keys b2 := by
                  by_cases c : o ∈ Tm.keys b2
                  · exact c
                  · rw [par_none.mpr c] at ep; cases ep
                refine ⟨_, rfl, iteF ?_⟩
                refine ⟨b2, st2, ?_, k3, h3, h4, _, _, rfl⟩
                rw [step]
                unfold Tm.visit
                exact (if_pos (.inr c)).symm
              | none =>
                have c := par_none.mp ep
                have c3 : ¬ (some o = none ∨ o ∈ Tm.keys b2) := fun z => z.elim (fun z => nomatch z) c
                have room : b2.length ≤ n := by
                  have := Tm.nodup_len g1.nodup (g1.bound sn lt)
                  simpa [Tm.keys] using this
                have sl : st2.length ≤ 200 := by
                  rw [List.length_cons] at sl0
                  omega
                have h5 : upd H2 D (.lst (foundV n (b2 ++ [(o, a)]))) pf = some (.lst (natV st2.reverse)) := by rw [upd_ne nf]; exact h4
                refine ⟨_, rfl, iteT ⟨_, rfl, _, rfl, _, rfl, D, _, (o : Int), o, rfl, rfl, h3, by rw [found_len]; exact ixN_nat lo, ?_⟩⟩
                rw [found_set c]
                refine ⟨_, rfl, .inl ⟨rfl, _, SqL.of h5⟩, _, rfl, pf, _, _, rfl, rfl, h5, lt_ln (by unfold natV; rw [List.length_map, List.length_reverse]; omega), b2 ++ [(o, a)], o :: st2, ?_, ?_, ?_, ?_, _, _, rfl⟩
                · rw [step]
                  unfold Tm.visit
                  exact (if_neg c3).symm
                · intro b o e
                  rw [upd_ne (ne_of_none e f_pf), upd_ne (ne_of_none e hD)]
                  exact k3 b o e
                · rw [upd_ne nf.symm, upd_same]
                · rw [upd_same]
                  simp [natV]
            · rintro σ H2 ⟨b2, st2, e2, k3, h3, h4, x3, z3, rfl⟩
              have ln : (natV (Tm.near rs a)).length = (Tm.near rs a).length := by simp [natV]
              rw [ln, List.take_length] at e2
              have e3 : (Tm.visits (Tm.near rs) none a b st) = (b2, st2) := e2.symm
              rw [e3] at G2 lens
              have r1 := G2.room sn lt
              have r0 := G.room sn lt
              simp only at lens r1
              refine ⟨⟨b2, st2, G2, (by rw [List.length_cons] at sl0; omega), fun r hr => hd r (.step (by rw [e3]; exact hr)), k3, h3, h4, _, _, _, rfl⟩, ?_⟩
              show (match H2 pf with | some (HO.lst xs) => xs.length | _ => 0) + (n - match H2 D with | some (HO.lst xs) => (xs.filter fun v => decide (v ≠ V.non)).length | _ => 0) < (match H1 pf with | some (HO.lst xs) => xs.length | _ => 0) + (n - match H1 D with | some (HO.lst xs) => (xs.filter fun v => decide (v ≠ V.non)).length | _ => 0)
              have m3 : (match H2 D with | some (HO.lst xs) => (xs.filter fun v => decide (v ≠ V.non)).length | _ => 0) = b2.length := by rw [h3]; exact found_num G2.g.nodup (G2.g.bound sn lt)
              rw [m0, m1, m3, h4]
              simp only [natV, List.length_map, List.length_reverse]
              omega
      · rintro σ H1 Q1 Q2 h ⟨v, hv, hz⟩
        refine ⟨v, hv, hz.1, fun pe hpe => ?_⟩
        obtain ⟨d1, d2, a1, a2, a3, a4, k, hk, q⟩ := hz.2 pe hpe
        exact ⟨d1, d2, a1, a2, a3, a4, k, hk, h _ _ q⟩
end
end K02

namespace K02
open PySem PySem.Spec PyProof.Rows L2
abbrev sLWay : Stmt := top 34
theorem scLWay : FnScope ["near", "a", "b", "toward", "row"] ["near", "a", "b"] (defScope sLWay) := ⟨rfl, rfl, rfl, by decide +kernel, rfl, by decide +kernel, by decide +kernel⟩
abbrev sLHouse : Stmt := top 35
theorem scLHouse : FnScope ["value", "houses"] ["value", "houses"] (defScope sLHouse) := ⟨rfl, rfl, rfl, by decide +kernel, rfl, by decide +kernel, by decide +kernel⟩
abbrev sLSide : Stmt := top 39
theorem scLSide : FnScope ["near", "u", "v", "found", "front", "at", "other"] ["near", "u", "v"] (defScope sLSide) := ⟨rfl, rfl, rfl, by decide +kernel, rfl, by decide +kernel, by decide +kernel⟩
abbrev sLBad : Stmt := top 36
theorem scLBad : FnScope ["box", "houses", "menu"] ["box", "houses"] (defScope sLBad) := ⟨rfl, rfl, rfl, by decide +kernel, rfl, by decide +kernel, by decide +kernel⟩
def spLWay : Sp := fun vs H Q _ => ∃ (nt : Addr) (n a b : Nat) (rs : List Tm.Road), vs = [.ref nt, .int a, .int b] ∧ Rdd H (.ref nt) (nearL n rs) ∧ Tm.RoadsOk n rs ∧ Tm.Joined n rs ∧ a < n ∧ b < n ∧ n ≤ 64 ∧
  ∀ l p H', Tm.Way rs a b l → Same H H' → H p = none → H' p = some (.lst (natV l)) → Q (.ref p) H'
section
variable {P : Program} {w : World} {K : PySem.W.Frag} {mg : Str → Option Value} {base : Heap} {f : Addr} {fd : FuncData}
theorem ok_lway (F : Fd K "_law_way" sLWay f fd) (g : mg "_law_way" = some (.ref f)) (B : Bl mg) (o_law_toward : Ok P w K mg base CX0 1 "_law_toward" sTowd ["near", "goal"] spTowd) : Ok P w K mg base CX0 2 "_law_way" sLWay ["near", "a", "b"] spLWay := by
  refine ⟨f, fd, g, F, F.bindsN fun _ _ _ _ _ _ us hl => match us, hl with | [_, _, _], _ => rfl, F.ok scLWay (fun vs H Q E h => ?_) (fun cdv A outer s H vs Q E hr h => ?_)⟩
  · obtain ⟨nt, n, a, b, rs, rfl, _⟩ := h
    rfl
  · refine ⟨_, (pss_cons (ps_par (i := 3) (j := 4) rfl scLWay.nd rfl rfl (by decide) rfl rfl (pa_cons (pe_o o_law_toward (hr.mono (by decide)) (by rfl) (pa_cons (pv 0) (pa_cons (pv 2) pa_nil))) (pa_cons (pe_lst (pa_cons (pv 1) pa_nil)) pa_nil)) rfl)
      (pss_cons (ps_while (passes_of rfl) (pt_cmpR op_ne (pe_ix ix_seq (pv 4) (pe_un un_neg pe_int) fun _ _ => rfl) (pv 2) (nomark _))
        (pss_one (ps_expr (pe_bm PySem.F.plainAttrs_list PySem.F.slot_list_append PySem.F.type_list_append mt_append (pv 4) (pa_cons (pe_ix ix_seq (pv 3) (pe_ix ix_seq (pv 4) (pe_un un_neg pe_int) fun _ _ => rfl) fun _ _ => rfl) pa_nil)))))
      (pss_one (ps_ret (pv 4))))), ?_⟩
    obtain ⟨nt, n, a, b, rs, rfl, hn, ok, jo, ha, hb, tl, q⟩ := h
    refine ⟨_, rfl, _, rfl, nt, n, b, rs, rfl, hn, ok.bnd, hb, tl, fun d r H2 k2 nd2 hdf G hd => ?_⟩
    obtain ⟨l, up, pl⟩ := G.g.up a (Tm.joined_from ok jo hb hdf a ha)
    have lt : ∀ h, ∀ x ∈ Tm.near rs h, x < n := fun h x hx => (Tm.near_lt ok.bnd hx).1
    have ltl : ∀ x ∈ l, x < n := fun x hx => G.g.bound hb lt x (pl.2 x hx)
    have nl : l.length ≤ 64 := by
      have := Tm.nodup_len pl.1.nd ltl
      omega
    have l0 : 0 < l.length := by
      have := up.head
      cases l with
      | nil => cases this
      | cons _ _ => simp
    have e0 : natV (l.take (0 + 1)) = [V.int (a : Int)] := by
      have := up.head
      cases l with
      | nil => cases this
      | cons x l => simp at this; subst this; rfl
    refine ⟨_, rfl, two_ln (by show 1 ≤ _; decide), fun ph hph => ?_⟩
    dsimp only [gName, tSeq, gNil, L2.start]
    refine ⟨_, _, rfl, ?_⟩
    refine while_by (fun σ H' => ∃ i, i < l.length ∧ Same H2 H' ∧ H' ph = some (.lst (natV (l.take (i + 1)))) ∧ σ = [some (.ref nt), some (.int a), some (.int b), some (.ref d), some (.ref ph)])
      (fun σ H' => 100 - match H' ph with | some (.lst xs) => xs.length | _ => 0) ?_ ?_ ?_
    · exact ⟨0, l0, upd_grow hph, by rw [upd_same, e0], rfl⟩
    · rintro σ H3 ⟨i, hi, k3, h3, rfl⟩
      obtain ⟨g1, g2⟩ := up.get i hi
      have nph : ∀ {b o}, H2 b = some o → b ≠ ph := fun e => ne_of_none e hph
      refine ⟨_, rfl, _, rfl, ixAt h3 (natV_last hi) ⟨_, rfl, rfl, _, rfl, iteB (fun e => ?_) fun e => ?_⟩⟩
      · have e : ¬ l[i] = b := fun z => by
          rw [z] at e
          simp at e
        have hi2 : i + 1 < l.length := by
          by_cases c : i + 1 < l.length
          · exact c
          · exact absurd (g2 (by omega)) e
        obtain ⟨_, g3, _⟩ := g1 hi2
        have ep := par_mem G.g.nodup g3
        refine ⟨_, rfl, .inl ⟨rfl, _, SqL.of h3⟩, _, rfl, _, rfl, _, rfl, ixAt h3 (natV_last hi) (ixAt (v := .int (l[i + 1] : Nat)) (k3 _ _ hd) (by rw [found_at (ltl _ (List.getElem_mem hi)), ep]; rfl) ⟨ph, _, _, rfl, rfl, h3, ?_, ⟨i + 1, hi2, ?_, ?_, rfl⟩, ?_⟩)⟩
        · exact lt_ln (by unfold natV; rw [List.length_map, List.length_take]; omega)
        · intro b' o' e'
          rw [upd_ne (nph e')]
          exact k3 _ _ e'
        · have : natV (l.take (i + 1 + 1)) = natV (l.take (i + 1)) ++ [V.int (l[i + 1] : Nat)] := by
            rw [List.take_succ_eq_append_getElem hi2]
            unfold natV
            rw [List.map_append]
            rfl
          rw [upd_same, this]
        · show 100 - (match (upd H3 ph _) ph with | some (HO.lst xs) => xs.length | _ => 0) < 100 - (match H3 ph with | some (HO.lst xs) => xs.length | _ => 0)
          rw [upd_same, h3]
          simp only [natV, List.length_append, List.length_map, List.length_take, List.length_cons, List.length_nil]
          omega
      · have e : l[i] = b := by
          have := of_decide_eq_true (not_f e)
          have := V.int.inj this
          omega
        have hi2 : i + 1 = l.length := by
          by_cases c : i + 1 < l.length
          · obtain ⟨_, _, g4⟩ := g1 c
            exact absurd e g4
          · omega
        rw [hi2, List.take_length] at h3
        have f_ph : H ph = none := by
          cases e : H ph with
          | none => rfl
          | some o => rw [k2 _ _ e] at hph; cases hph
        exact ⟨_, rfl, q l ph _ ⟨r, hdf, up⟩ (fun b' o' e' => k3 _ _ (k2 _ _ e')) f_ph h3⟩
    · rintro σ H1 Q1 Q2 h ⟨v, hv, i, hi, z⟩
      refine ⟨v, hv, i, hi, rIx_mono z fun y ⟨y2, hy2, s2, k2, e2, q2⟩ => ⟨y2, hy2, s2, k2, e2, h _ _ q2⟩⟩
/-- the houses reached, by their order -/
def spLSide : Sp := fun vs H Q _ => ∃ (nt : Addr) (n u v : Nat) (rs : List Tm.Road), vs = [.ref nt, .int u, .int v] ∧ Rdd H (.ref nt) (nearL n rs) ∧ Bnd n rs ∧ u < n ∧ n ≤ 64 ∧
  ∀ (ns : List Int) b p H', Tm.Dfs (Tm.near rs) (some v) [(u, u)] [u] b → ns.Perm ((Tm.keys b).map fun x : Nat => (x : Int)) → ns.Pairwise (· ≤ ·) → Same H H' → H p = none → H' p = some (.lst (ns.map V.int)) → Q (.ref p) H'
theorem ok_lside (F : Fd K "_law_side" sLSide f fd) (g : mg "_law_side" = some (.ref f)) (B : Bl mg) : Ok P w K mg base CX0 1 "_law_side" sLSide ["near", "u", "v"] spLSide := by
  refine ⟨f, fd, g, F, F.bindsN fun _ _ _ _ _ _ us hl => match us, hl with | [_, _, _], _ => rfl, F.ok scLSide (fun vs H Q E h => ?_) (fun cdv A outer s H vs Q E hr h => ?_)⟩
  · obtain ⟨nt, n, u, v, rs, rfl, _⟩ := h
    rfl
  · have hu : (cxOf CX0 P w K mg base ["near", "u", "v", "found", "front", "at", "other"] "_law_side" (defScope sLSide) f cdv A outer s H E).A.units + 64 < cLine := by
      have z := hr.un
      show (A.deeper _).units + 64 < cLine
      omega
    refine ⟨_, (pss_cons (ps_par (i := 3) (j := 4) rfl scLSide.nd rfl rfl (by decide) rfl rfl (pa_cons (pe_lst (pa_cons (pv 1) pa_nil)) (pa_cons (pe_lst (pa_cons (pv 1) pa_nil)) pa_nil)) rfl)
      (pss_cons (ps_while (passes_of rfl) (pt_cmpR (op_neD hu) (pv 4) (pe_lst pa_nil) (nomark _))
        (pss_cons (ps_set (i := 5) scLSide.nd rfl (Or.inl rfl) (pe_bm0 PySem.F.plainAttrs_list PySem.F.slot_list_pop PySem.F.type_list_pop mt_pop (pv 4)))
        (pss_one (ps_for (passes_of rfl) rfl (pi_seq (pe_ix ix_seq (pv 0) (pv 5) fun _ _ => rfl)) (pg_name (i := 6) scLSide.nd rfl (Or.inl rfl))
          (pss_one (ps_if (pw_and (pt_cmpR op_notIn_seq (pv 6) (pv 3) (by rfl)) (pw_and1 (pt_cmpR op_ne (pv 6) (pv 2) (nomark _)))).pt
            (pss_cons (ps_expr (pe_bm PySem.F.plainAttrs_list PySem.F.slot_list_append PySem.F.type_list_append mt_append (pv 3) (pa_cons (pv 6) pa_nil)))
            (pss_one (ps_expr (pe_bm PySem.F.plainAttrs_list PySem.F.slot_list_append PySem.F.type_list_append mt_append (pv 4) (pa_cons (pv 6) pa_nil)))))
            pss_nil))))))
      (pss_one (ps_ret (pe_callB (cr_sortedI) (by rfl) (B.u "sorted" (by decide +kernel)) (by decide +kernel) (pa_cons (pv 3) pa_nil)))))), ?_⟩
    obtain ⟨nt, n, u, v, rs, rfl, hn, bd, sn, n1, q⟩ := h
    have lt : ∀ h, ∀ x ∈ Tm.near rs h, x < n := fun h x hx => (Tm.near_lt bd hx).1
    refine ⟨_, rfl, two_ln (by show 1 ≤ _; decide), fun pd hpd => ⟨_, rfl, two_ln (by show 1 ≤ _; decide), fun pf hpf => ?_⟩⟩
    have nf : pf ≠ pd := fun e => by rw [e, upd_same] at hpf; cases hpf
    have f_pf : H pf = none := by rwa [upd_ne nf] at hpf
    refine ⟨_, _, rfl, ?_⟩
    refine while_by (fun σ H' => ∃ b st, Tm.Going (Tm.near rs) (some v) u b st ∧ st.length ≤ b.length ∧ (∀ r, Tm.Dfs (Tm.near rs) (some v) b st r → Tm.Dfs (Tm.near rs) (some v) [(u, u)] [u] r) ∧ Same H H' ∧ H' pd = some (.lst (natV (Tm.keys b))) ∧ H' pf = some (.lst (natV st.reverse)) ∧
        ∃ y z : Option V, σ = [some (.ref nt), some (.int u), some (.int v), some (.ref pd), some (.ref pf), y, z])
      (fun σ H' => (match H' pf with | some (.lst xs) => xs.length | _ => 0) + (n - match H' pd with | some (.lst xs) => xs.length | _ => 0)) ?_ ?_ ?_
    · refine ⟨[(u, u)], [u], .start, Nat.le_refl _, fun r h => h, fun b o e => ?_, ?_, upd_same, none, none, rfl⟩
      · rw [upd_ne (ne_of_none e f_pf), upd_ne (ne_of_none e hpd)]
        exact e
      · rw [upd_ne nf.symm, upd_same]; rfl
    · rintro σ H1 ⟨b, st, G, sl0, hd, k1, h1, h2, y, z, rfl⟩
      refine ⟨_, rfl, two_ln (by decide), fun pe hpe => ?_⟩
      have g2 : Same H1 (upd H1 pe (.lst [])) := upd_grow hpe
      refine ⟨.list (natD st.reverse), .list [], (Rdd.lst (g2 _ _ h2) (nat_rdd _)).dp (natD_lay _), .lst (SqL.of upd_same) .nil, natD_shaped _, by decide, ?_⟩
      rw [natD_nil]
      have h1' := g2 _ _ h1
      have h2' := g2 _ _ h2
      have k1' : Same H (upd H1 pe (.lst [])) := fun b o e => g2 _ _ (k1 _ _ e)
      generalize upd H1 pe (.lst []) = H1' at h1' h2' k1'
      cases st with
      | nil =>
        refine ⟨_, rfl, iteF ⟨_, rfl, _, (Tm.keys b).map (fun x : Nat => (x : Int)), rfl, SqL.of (by rw [← natV_int]; exact h1'), fun ns p pm srt hp => ?_⟩⟩
        have fp : H p = none := by
          cases e : H p with
          | none => rfl
          | some o => rw [k1' _ _ e] at hp; cases hp
        refine q ns b p _ (hd b .done) pm srt (fun b o e => ?_) fp upd_same
        rw [upd_ne (ne_of_none e fp)]
        exact k1' _ _ e
      | cons a st =>
        obtain ⟨G2, lens⟩ := G.next
        have la : a < n := G.g.bound sn lt a (G.sub a List.mem_cons_self)
        have ee : (a :: st).reverse.isEmpty = false := by simp
        have e1 : natV (a :: st).reverse = natV st.reverse ++ [V.int (a : Int)] := by simp [natV]
        have m0 : (match H1 pf with | some (HO.lst xs) => xs.length | _ => 0) = st.length + 1 := by rw [h2]; simp [natV]
        have m1 : (match H1 pd with | some (HO.lst xs) => xs.length | _ => 0) = b.length := by rw [h1]; simp [natV, Tm.keys]
        rw [ee]
        rw [e1] at h2'
        refine ⟨_, rfl, iteT ⟨_, rfl, .inl ⟨rfl, _, SqL.of h2'⟩, pf, _, .int a, rfl, rfl, h2', ?_, ?_⟩⟩
        · rw [List.length_append]
          simp
        · rw [List.dropLast_concat]
          obtain ⟨rows, t, ht1, ht2, ht3⟩ := nearL_row hn la
          have k2 : Same H (upd H1' pf (.lst (natV st.reverse))) := fun b o e => by
            rw [upd_ne (ne_of_none e f_pf)]
            exact k1' b o e
          refine ⟨_, rfl, _, rfl, ixAt (k2 _ _ ht1) ht2 ⟨t, natV (Tm.near rs a), rfl, .inl (SqL.of (k2 _ _ ht3)), fun J w => ?_⟩⟩
          refine for_it w (fun i σ H' => ∃ b2 st2, (b2, st2) = ((Tm.near rs a).take i).foldl (Tm.visit (some v) a) (b, st) ∧ Same H H' ∧ H' pd = some (.lst (natV (Tm.keys b2))) ∧ H' pf = some (.lst (natV st2.reverse)) ∧
              ∃ z : Option V, σ = [some (.ref nt), some (.int u), some (.int v), some (.ref pd), some (.ref pf), some (.int a), z]) ?_ (fun i σ H' _ h => ?_) ?_ ?_
          · exact ⟨b, st, rfl, k2, by rw [upd_ne nf.symm]; exact h1', upd_same, z, rfl⟩
          · obtain ⟨_, _, _, k3, _⟩ := h
            rw [k3 _ _ ht3, k2 _ _ ht3]
          · rintro i x2 σ H0 H2 hi ⟨b2, st2, e2, k3, h3, h4, z3, rfl⟩ ⟨rfl, hx⟩
            obtain ⟨li, rfl⟩ := nat_get hx
            have step : ((Tm.near rs a).take (i + 1)).foldl (Tm.visit (some v) a) (b, st) = Tm.visit (some v) a (b2, st2) (Tm.near rs a)[i] := by
              rw [List.take_succ_eq_append_getElem li, List.foldl_append, ← e2]
              rfl
            have lo : (Tm.near rs a)[i] < n := lt a _ (List.getElem_mem li)
            obtain ⟨g1, _, _, _, _, _, g7⟩ := Tm.visit_grown (bar := some v) (os := (Tm.near rs a).take i) (st := st) G.g (G.sub a List.mem_cons_self) fun o ho => List.mem_of_mem_take ho
            rw [← e2] at g1 g7
            simp only at g1 g7
            generalize ho : (Tm.near rs a)[i] = o at step lo
            have skip : (some o = some v ∨ o ∈ Tm.keys b2) → ∃ b2 st2, (b2, st2) = ((Tm.near rs a).take (i + 1)).foldl (Tm.visit (some v) a) (b, st) ∧ Same H H2 ∧ H2 pd = some (.lst (natV (Tm.keys b2))) ∧ H2 pf = some (.lst (natV st2.reverse)) ∧
                ∃ z : Option V, [some (V.ref nt), some (.int u), some (.int v), some (.ref pd), some (.ref pf), some (.int a), some (.int o)] = [some (.ref nt), some (.int u), some (.int v), some (.ref pd), some (.ref pf), some (.int a), z] := fun c => by
              refine ⟨b2, st2, ?_, k3, h3, h4, _, rfl⟩
              rw [step]
              unfold Tm.visit
              exact (if_pos c).symm
            refine ⟨_, rfl, _, rfl, pd, natV (Tm.keys b2), rfl, .inl (SqL.of h3), rfl, natV_flat _, _, rfl, iteB (fun c1 => ?_) fun c1 => ?_⟩
            · rw [if_pos rfl, natV_in] at c1
              have c1 := of_decide_eq_false (not_t c1)
              refine ⟨_, rfl, _, rfl, rfl, _, rfl, iteB (fun c2 => ?_) fun c2 => ?_⟩
              · have c2 : ¬ o = v := fun e => by
                  rw [e] at c2
                  simp at c2
                have c3 : ¬ (some o = some v ∨ o ∈ Tm.keys b2) := fun z => z.elim (fun z => c2 (Option.some.inj z)) c1
                have room : b2.length ≤ n := by
                  have := Tm.nodup_len g1.nodup (g1.bound sn lt)
                  simpa [Tm.keys] using this
                have sl : st2.length ≤ 200 := by
                  rw [List.length_cons] at sl0
                  omega
                have kb : (natV (Tm.keys b2)).length = b2.length := by simp [natV, Tm.keys]
                have h5 : upd H2 pd (.lst (natV (Tm.keys b2) ++ [V.int (o : Int)])) pf = some (.lst (natV st2.reverse)) := by rw [upd_ne nf]; exact h4
                refine ⟨_, rfl, .inl ⟨rfl, _, SqL.of h3⟩, _, rfl, pd, _, _, rfl, rfl, h3, lt_ln (by omega), ?_⟩
                refine ⟨_, rfl, .inl ⟨rfl, _, SqL.of h5⟩, _, rfl, pf, _, _, rfl, rfl, h5, lt_ln (by unfold natV; rw [List.length_map, List.length_reverse]; omega), b2 ++ [(o, a)], o :: st2, ?_, ?_, ?_, ?_, _, rfl⟩
                · rw [step]
                  unfold Tm.visit
                  exact (if_neg c3).symm
                · intro b o e
                  rw [upd_ne (ne_of_none e f_pf), upd_ne (ne_of_none e hpd)]
                  exact k3 b o e
                · rw [upd_ne nf.symm, upd_same]
                  simp [natV, Tm.keys]
                · rw [upd_same]
                  simp [natV]
              · have c2 := of_decide_eq_true (not_f c2)
                have c2 := V.int.inj c2
                exact skip (.inl (congrArg some (by omega)))
            · rw [if_pos rfl, natV_in] at c1
              exact skip (.inr (of_decide_eq_true (not_f c1)))
          · rintro σ H2 ⟨b2, st2, e2, k3, h3, h4, z3, rfl⟩
            have ln : (natV (Tm.near rs a)).length = (Tm.near rs a).length := by simp [natV]
            rw [ln, List.take_length] at e2
            have e3 : (Tm.visits (Tm.near rs) (some v) a b st) = (b2, st2) := e2.symm
            rw [e3] at G2 lens
            have r1 := G2.room sn lt
            have r0 := G.room sn lt
            simp only at lens r1
            refine ⟨⟨b2, st2, G2, (by rw [List.length_cons] at sl0; omega), fun r hr => hd r (.step (by rw [e3]; exact hr)), k3, h3, h4, _, _, rfl⟩, ?_⟩
            show (match H2 pf with | some (HO.lst xs) => xs.length | _ => 0) + (n - match H2 pd with | some (HO.lst xs) => xs.length | _ => 0) < (match H1 pf with | some (HO.lst xs) => xs.length | _ => 0) + (n - match H1 pd with | some (HO.lst xs) => xs.length | _ => 0)
            rw [m0, m1, h3, h4]
            simp only [natV, Tm.keys, List.length_map, List.length_reverse]
            omega
    · rintro σ H1 Q1 Q2 h ⟨v, hv, hz⟩
      refine ⟨v, hv, hz.1, fun pe hpe => ?_⟩
      obtain ⟨d1, d2, a1, a2, a3, a4, k, hk, q⟩ := hz.2 pe hpe
      exact ⟨d1, d2, a1, a2, a3, a4, k, hk, h _ _ q⟩
end
end K02

/-! new values, told as data, that do not reach the draws' box at p -/
namespace L2
open PySem PySem.Spec PyProof.Rows
theorem fresh_of {H H' : Hp} {a : Addr} (k : Same H H') (h : H' a = none) : H a = none := by
  cases e : H a with
  | none => rfl
  | some o => rw [k _ _ e] at h; cases h
def tG (S : St → Prop) (p : Addr) (d : PyData) : TE := fun σ H Q => S σ ∧ (∃ o, H p = some o) ∧ ∀ v H', Same H H' → Rdd (del H' p) v d → (∀ a, v = .ref a → H a = none) → Q v H'
def tGs (S : St → Prop) (p : Addr) (ds : List PyData) : TA := fun σ H Q => S σ ∧ (∃ o, H p = some o) ∧ ∀ vs H', Same H H' → RddAll (del H' p) vs ds → (∀ a, V.ref a ∈ vs → H a = none) → Q vs H'
section
variable {X : Cx} {S : St → Prop} {p : Addr} {e : Expr} {es : List Expr} {d : PyData} {ds : List PyData} {pos : Pos}
theorem pa_g0 : PA X [] (tGs S p []) := pa_nil.mono fun σ H Q ⟨_, _, q⟩ => q [] H (Same.refl H) .nil fun _ z => nomatch z
theorem pa_g1 (he : PE X e (tG S p d)) (h : PA X es (tGs S p ds)) (hs : starEach (e :: es) X.env = (false, eval e X.env) :: starEach es X.env := by rfl) : PA X (e :: es) (tGs S p (d :: ds)) := by
  refine (pa_cons he h hs).mono fun σ H Q ⟨s, ⟨o, ho⟩, q⟩ => ⟨s, ⟨o, ho⟩, fun v H1 k1 r1 f1 => ⟨s, ⟨o, k1 _ _ ho⟩, fun vs H2 k2 r2 f2 => q _ H2 (k1.trans k2) (.cons (r1.mono (del_mono k2)) r2) fun a ha => ?_⟩⟩
  rcases List.mem_cons.mp ha with e | ha
  · exact f1 a e.symm
  · exact fresh_of k1 (f2 a ha)
/-- a constant -/
theorem pe_gC {v : V} (h : PE X e (tC v)) (r : ∀ H, Rdd H v d) (nr : ∀ a, v ≠ .ref a) : PE X e (tG S p d) := h.mono fun σ H Q ⟨_, _, q⟩ => q v H (Same.refl H) (r _) fun a z => absurd z (nr a)
/-- what is told by the names -/
theorem pe_gS {t : TE} {v : V} (h : PE X e t) (k : ∀ σ H (Q : VK), S σ → Q v H → t σ H Q) (r : ∀ H, Rdd H v d) (nr : ∀ a, v ≠ .ref a) : PE X e (tG S p d) := h.mono fun σ H Q ⟨s, _, q⟩ => k σ H Q s (q v H (Same.refl H) (r _) fun a z => absurd z (nr a))
theorem pe_gtup {k : Nat} (h : PA X es (tGs S p ds)) (l : ds.length ≤ 16777216 := by decide) : PE X (.Tuple es k pos) (tG S p (.tuple ds)) := (pe_tup h).mono fun σ H Q ⟨s, ⟨o, ho⟩, q⟩ => ⟨s, ⟨o, ho⟩, fun vs H1 k1 r1 f1 =>
  ⟨two_ln (by rw [rdds_len r1]; exact l), fun t ht => q _ _ (k1.trans (upd_grow ht)) (.tup (del_new (k1 _ _ ho) ht) (r1.mono (del_mono (upd_grow ht)))) fun a e => by cases e; exact fresh_of k1 ht⟩⟩
theorem pe_glst (h : PA X es (tGs S p ds)) (l : ds.length ≤ 16777216 := by decide) : PE X (.List es pos) (tG S p (.list ds)) := (pe_lst h).mono fun σ H Q ⟨s, ⟨o, ho⟩, q⟩ => ⟨s, ⟨o, ho⟩, fun vs H1 k1 r1 f1 =>
  ⟨two_ln (by rw [rdds_len r1]; exact l), fun t ht => q _ _ (k1.trans (upd_grow ht)) (.lst (del_new (k1 _ _ ho) ht) (r1.mono (del_mono (upd_grow ht)))) fun a e => by cases e; exact fresh_of k1 ht⟩⟩
theorem pe_gdict0 : PE X (.Dict [] [] pos) (tG S p (.dict [])) := pe_dnewK.mono fun σ H Q ⟨s, ⟨o, ho⟩, q⟩ a ha =>
  q _ _ (upd_grow ha) (.dK (del_new ho ha) .nil .nil) fun b e => by cases e; exact ha
/-- {"..": c} -/
theorem pe_gdict1 {e1 e2 : Expr} {x : Str} {v : V} (h1 : PE X e1 (tC (.str x))) (h2 : PE X e2 (tC v)) (r : ∀ H, Rdd H v d) (h : PPs X pos [some e1] [e2] [(tC (.str x), tC v)]) : PE X (.Dict [some e1] [e2] pos) (tG S p (.dict [(.str x, d)])) :=
  (pe_disp h rfl rfl (by simp) (by show 1 ≤ 15; decide)).mono fun σ H Q ⟨s, ⟨o, ho⟩, q⟩ a ha => by
    refine ⟨upd_same, [(.inr x, v)], rfl, (by show 1 ≤ 15; decide), ?_⟩
    have e : mergeK [] [((.inr x : Key), v)] = [(.inr x, v)] := rfl
    rw [e, upd_upd]
    exact q _ _ (upd_grow ha) (.dK (del_new ho ha) (.cons (.str _) .nil) (.cons (r _) .nil)) fun b z => by cases z; exact ha
end
end L2

namespace K02
open PySem PySem.Spec PyProof.Rows L2
/-- isinstance of data -/
structure KitK (K : PySem.W.Frag) : Prop where
  tt : ∀ T ∈ tys, ∀ U ∈ ["int", "bool", "list", "tuple"], PySem.W.kitOne K (.type T) (.type U) = some (decide (T = U) || (decide (T = "bool") && decide (U = "int")))
  lt : ∀ T ∈ tys, PySem.W.kitAny K (.type T) [.type "list", .type "tuple"] = some (decide (T = "list") || decide (T = "tuple"))
def spLHouse : Sp := fun vs H Q _ => ∃ v d b, vs = [v, .int b] ∧ Rdd H v d ∧ Q (.bl (belowD b d)) H
section
variable {P : Program} {w : World} {K : PySem.W.Frag} {mg : Str → Option Value} {base : Heap} {f : Addr} {fd : FuncData}
theorem ok_lhouse (F : Fd K "_law_house" sLHouse f fd) (g : mg "_law_house" = some (.ref f)) (B : Bl mg) (T : KitK K) : Ok P w K mg base CX0 1 "_law_house" sLHouse ["value", "houses"] spLHouse := by
  refine ⟨f, fd, g, F, F.bindsN fun _ _ _ _ _ _ us hl => match us, hl with | [_, _], _ => rfl, F.ok scLHouse (fun vs H Q E h => ?_) (fun cdv A outer s H vs Q E hr h => ?_)⟩
  · obtain ⟨v, d, b, rfl, _⟩ := h
    rfl
  · refine ⟨_, (pss_one (ps_ret (pe_and (pe_callB call_isi (by rfl) (B.u "isinstance" (by decide +kernel)) boot_isinstance (pa_cons (pv 0) (pa_cons (pe_bltn (by rfl) (B.u "int" (by decide +kernel)) (by decide +kernel) (v := .ty "int") rfl) pa_nil))) (pe_and (pe_not (pe_callB call_isi (by rfl) (B.u "isinstance" (by decide +kernel)) boot_isinstance (pa_cons (pv 0) (pa_cons (pe_bltn (by rfl) (B.u "bool" (by decide +kernel)) (by decide +kernel) (v := .ty "bool") rfl) pa_nil)))) (pe_one (pe_chain op_le op_lt pe_int (pv 0) (pv 1))))))), ?_⟩
    obtain ⟨v, d, b, rfl, r, q⟩ := h
    refine ⟨_, rfl, v, _, _, _, _, rfl, .ty _, r.tx, T.tt _ (tyd_mem d) "int" (by decide), _, rfl, iteB (fun e => ?_) fun e => ?_⟩
    · refine ⟨_, rfl, v, _, _, _, _, rfl, .ty _, r.tx, T.tt _ (tyd_mem d) "bool" (by decide), _, rfl, _, rfl, iteB (fun e1 => ?_) fun e1 => ?_⟩
      · have ti : tyd d = "int" := by
          have e1 := not_t e1
          cases d <;> simp [tyd] at e e1 ⊢
        obtain ⟨i, rfl, rfl⟩ := r.int_of ti
        refine ⟨_, rfl, _, _, rfl, rfl, _, rfl, iteB (fun e1 => ⟨_, rfl, _, _, rfl, rfl, ?_⟩) fun e1 => ?_⟩
        · have z : belowD b (.int i) = decide (i < b) := by
            simp [belowD, of_decide_eq_true e1]
          rw [z] at q
          exact q
        · have z : belowD b (.int i) = false := by
            have e2 := of_decide_eq_false e1
            simp only [belowD, decide_eq_false e2, Bool.false_and]
          rw [z] at q
          exact q
      · have z : belowD b d = false := by
          have e1 := not_f e1
          cases d <;> simp [tyd, belowD] at e e1 ⊢
        rw [z] at q
        exact q
    · have z : belowD b d = false := by
        cases d <;> simp [tyd, belowD] at e ⊢
      rw [z] at q
      exact q
def bads (n : Int) : List PyData := [.int n, .int (-1), .none, .bool true, .bool false, .str "0", .str "", .tuple [.int 0], .list [.int 0], .dict [(.str "a", .int 0)], .int (10 ^ 19), .int (-10 ^ 19), .int (n + 5), .tuple []]
def spLBad : Sp := fun vs H Q _ => ∃ (p : Addr) (n c : Nat), vs = [.ref p, .int n] ∧ BoxAt H p c ∧ c < 1000 ∧ n ≤ 64 ∧
  ∀ v d H', d ∈ bads n → Rdd (del H' p) v d → (∀ a, v = .ref a → H a = none) → But p H H' → BoxAt H' p (c + 1) → Q v H'
abbrev SBad (n : Int) (σ : L2.St) : Prop := σ[1]? = some (some (.int n))
theorem ok_lbad (F : Fd K "_law_bad" sLBad f fd) (g : mg "_law_bad" = some (.ref f)) (B : Bl mg) (o_law_take : Ok P w K mg base CX0 1 "_law_take" sTake ["box", "many"] spDraw1) : Ok P w K mg base CX0 2 "_law_bad" sLBad ["box", "houses"] spLBad := by
  refine ⟨f, fd, g, F, F.bindsN fun _ _ _ _ _ _ us hl => match us, hl with | [_, _], _ => rfl, F.ok scLBad (fun vs H Q E h => ?_) (fun cdv A outer s H vs Q E hr h => ?_)⟩
  · obtain ⟨p, n, c, rfl, _⟩ := h
    rfl
  · obtain ⟨p, n, c, rfl, hp, hc, n1, q⟩ := h
    refine ⟨_, (pss_cons (ps_set (i := 2) scLBad.nd rfl (Or.inl rfl) (pe_lst (pa_g1 (S := SBad n) (p := p) (pe_gS (d := .int n) (pv 1) (fun σ H Q s q => ⟨_, s, q⟩) (fun _ => .int _) (fun _ z => nomatch z)) (pa_g1 (pe_gS (d := .int (-1)) (pe_un un_neg pe_int) (fun σ H Q s q => ⟨_, rfl, q⟩) (fun _ => .int _) (fun _ z => nomatch z)) (pa_g1 (pe_gC pe_non (fun _ => .non) (fun _ z => nomatch z)) (pa_g1 (pe_gC (d := .bool true) pe_bl (fun _ => .bl _) (fun _ z => nomatch z)) (pa_g1 (pe_gC (d := .bool false) pe_bl (fun _ => .bl _) (fun _ z => nomatch z)) (pa_g1 (pe_gC (d := .str "0") pe_str (fun _ => .str _) (fun _ z => nomatch z)) (pa_g1 (pe_gC (d := .str "") pe_str (fun _ => .str _) (fun _ z => nomatch z)) (pa_g1 (pe_gtup (pa_g1 (pe_gC (d := .int 0) pe_int (fun _ => .int _) (fun _ z => nomatch z)) pa_g0)) (pa_g1 (pe_glst (pa_g1 (pe_gC (d := .int 0) pe_int (fun _ => .int _) (fun _ z => nomatch z)) pa_g0)) (pa_g1 (pe_gdict1 (d := .int 0) (x := "a") pe_str pe_int (fun _ => .int _) (pps_cons pe_str pe_int pps_nil)) (pa_g1 (pe_gS (d := .int (10 ^ 19)) (pe_op op_pow pe_int pe_int) (fun σ H Q s q => ⟨_, _, rfl, rfl, ⟨by decide, by decide, by decide⟩, q⟩) (fun _ => .int _) (fun _ z => nomatch z)) (pa_g1 (pe_gS (d := .int (-10 ^ 19)) (pe_un un_neg (pe_op op_pow pe_int pe_int)) (fun σ H Q s q => ⟨_, _, rfl, rfl, ⟨by decide, by decide, by decide⟩, _, rfl, q⟩) (fun _ => .int _) (fun _ z => nomatch z)) (pa_g1 (pe_gS (d := .int (n + 5)) (pe_op op_add (pv 1) pe_int) (fun σ H Q s q => ⟨_, s, _, _, rfl, rfl, q⟩) (fun _ => .int _) (fun _ z => nomatch z)) (pa_g1 (pe_gtup pa_g0) pa_g0))))))))))))))))
      (pss_one (ps_ret (pe_ix ix_seq (pv 2) (pe_o o_law_take (hr.mono (by decide)) (by rfl) (pa_cons (pv 0) (pa_cons pe_int pa_nil))) fun _ _ => rfl)))), ?_⟩
    refine ⟨rfl, hp.some, fun xs H1 k1 ra fr => ⟨two_ln (by rw [rdds_len ra]; show 14 ≤ _; decide), fun pm hpm => ?_⟩⟩
    have hp1 := hp.same (k1.trans (upd_grow (o := .lst xs) hpm))
    obtain ⟨o, ho⟩ := hp.some
    have npm : pm ≠ p := (ne_of_none (k1 _ _ ho) hpm).symm
    refine ⟨_, rfl, _, rfl, p, _, c, rfl, hp1, hc, by decide, by decide, fun d H2 d0 d1 k2 hp2 e2 => ?_⟩
    obtain ⟨dn, rfl⟩ : ∃ dn : Nat, d = dn := ⟨d.toNat, by omega⟩
    have lb : (bads n).length = 14 := rfl
    have lx := rdds_len ra
    have dl : dn < (bads n).length := by omega
    obtain ⟨x, hx, rx⟩ := rdds_get ra (List.getElem?_eq_getElem dl)
    refine ixAt (k2 _ _ npm upd_same) (atI_nat hx) (q x _ H2 (List.getElem_mem dl) (rx.mono ?_) (fun a e => ?_) (fun b o nb e => k2 _ _ nb (upd_grow hpm _ _ (k1 _ _ e))) hp2)
    · exact (del_mono (upd_grow hpm)).trans (but_del k2)
    · exact fr a (e ▸ List.mem_of_getElem? hx)
end
end K02

namespace K02
open PySem PySem.Spec PyProof.Rows L2
abbrev sLThings : Stmt := top 37
theorem scLThings : FnScope ["box", "houses", "roads", "spoil", "joined", "things", "k", "road", "other"] ["box", "houses", "roads"] (defScope sLThings) := ⟨rfl, rfl, rfl, by decide +kernel, rfl, by decide +kernel, by decide +kernel⟩
/-- what is asked for: a house, or none -/
def Tng (n : Nat) (d : PyData) : Prop := (∃ k : Nat, k < n ∧ d = .int k) ∨ d ∈ bads n
theorem rds_lay (rs : List Tm.Road) : (PyData.list (rs.map rd)).canLay0 = true := SeqAt.canLay_of_shaped (d := .tuple (rs.map rd)) (rds_shaped rs)
theorem rds_lshaped (rs : List Tm.Road) : SeqAt.shaped (.list (rs.map rd)) = true := rds_shaped rs
theorem rds_nil (rs : List Tm.Road) : PyData.eqv (.list (rs.map rd)) (.list []) = rs.isEmpty := by cases rs <;> rfl
def spThings : Sp := fun vs H Q _ => ∃ (p r : Addr) (n c : Nat) (rs : List Tm.Road), vs = [.ref p, .int n, .ref r] ∧ BoxAt H p c ∧ c + 20 < 1000 ∧ n ≤ 64 ∧ Rdd (del H p) (.ref r) (.list (rs.map rd)) ∧ Tm.RoadsOk n rs ∧
  ∀ q x0 x1 x2 d0 d1 d2 H', But p H H' → BoxAt H' p (c + 20) → q ≠ p → H q = none → H' q = some (.lst [x0, x1, x2]) → Rdd (del H' p) x0 d0 → Rdd (del H' p) x1 d1 → Rdd (del H' p) x2 d2 → Tng n d0 → Tng n d1 → Tng n d2 →
    (∀ a, V.ref a ∈ [x0, x1, x2] → H a = none) → Q (.ref q) H'
theorem del_comm {H : Hp} {a b : Addr} : del (del H a) b = del (del H b) a := by
  funext c
  unfold del
  split <;> split <;> rfl
theorem but_of {p D : Addr} {H H' : Hp} (k : Same (del H p) (del (del H' D) p)) : But p H H' := fun b o nb e => del_le _ _ (del_le _ _ (k b o (by rw [del_ne nb]; exact e)))
theorem tSeq_by {a b : TS} {D : Ends} {σ : L2.St} {H : Hp} (R : L2.St → Hp → Prop) (h1 : ∀ σ' H', R σ' H' → b D σ' H') (h2 : (∀ σ' H', R σ' H' → b D σ' H') → a { nx := b D, rt := D.rt, bk := D.bk, ct := D.ct } σ H) : tSeq a b D σ H := h2 h1
theorem rdd_ne {X : Hp} {p : Addr} {v : V} {d : PyData} (r : Rdd (del X p) v d) : v ≠ .ref p := by
  rintro rfl
  cases r with
  | lst h _ => rw [del_same] at h; cases h
  | tup h _ => rw [del_same] at h; cases h
  | dK h _ _ => rw [del_same] at h; cases h
theorem bad_del {X : Hp} {D : Addr} {v : V} {d : PyData} {n : Int} (h : d ∈ bads n) (r : Rdd X v d) (ne : v ≠ .ref D) : Rdd (del X D) v d := by
  have nd : ∀ {a o}, v = .ref a → X a = some o → del X D a = some o := fun {a o} e z => by
    rw [del_ne (fun w => ne (by rw [e, w]))]
    exact z
  have one : ∀ {xs : List V} {e : PyData}, (∀ {x : V} {H' : Hp}, Rdd X x e → Rdd H' x e) → RddAll X xs [e] → RddAll (del X D) xs [e] := fun f r => by
    cases r with
    | cons r1 r2 =>
      cases r2
      exact .cons (f r1) .nil
  have i0 : ∀ {x : V} {H' : Hp} {i : Int}, Rdd X x (.int i) → Rdd H' x (.int i) := fun r => by cases r; exact .int _
  have s0 : ∀ {x : V} {H' : Hp} {i : Str}, Rdd X x (.str i) → Rdd H' x (.str i) := fun r => by cases r; exact .str _
  cases r with
  | non => exact .non
  | bl b => exact .bl b
  | int i => exact .int i
  | str x => exact .str x
  | @lst a xs es h1 r =>
    have : es = [.int 0] := by simpa [bads] using h
    subst this
    exact .lst (nd rfl h1) (one i0 r)
  | @tup a xs es h1 r =>
    have : es = [.int 0] ∨ es = [] := by simpa [bads] using h
    rcases this with rfl | rfl
    · exact .tup (nd rfl h1) (one i0 r)
    · cases r
      exact .tup (nd rfl h1) .nil
  | @dK a kvs es h1 r1 r2 =>
    have : es = [(.str "a", .int 0)] := by simpa [bads] using h
    subst this
    exact .dK (nd rfl h1) (one s0 r1) (one i0 r2)
/-- three things in the list at D -/
def TL (n : Nat) (H0 H : Hp) (p D : Addr) : Prop := ∃ xs, H D = some (.lst xs) ∧ xs.length = 3 ∧ ∀ x ∈ xs, ∃ d, Rdd (del (del H D) p) x d ∧ Tng n d ∧ ∀ a, x = .ref a → H0 a = none
theorem del_upd_same {H : Hp} {D : Addr} {o : HO} : del (upd H D o) D = del H D := by
  funext b
  by_cases nb : b = D
  · rw [nb, del_same, del_same]
  · rw [del_ne nb, del_ne nb, upd_ne nb]
theorem TL.set {n : Nat} {H0 H : Hp} {p D : Addr} (T : TL n H0 H p D) {i : Nat} {x : V} {d : PyData} (r : Rdd (del (del H D) p) x d) (t : Tng n d) (f : ∀ a, x = .ref a → H0 a = none) : ∃ xs, H D = some (.lst xs) ∧ xs.length = 3 ∧ TL n H0 (upd H D (.lst (xs.set i x))) p D := by
  obtain ⟨xs, h, l, a⟩ := T
  refine ⟨xs, h, l, _, upd_same, by rw [List.length_set, l], fun y hy => ?_⟩
  rw [del_upd_same]
  rcases List.mem_or_eq_of_mem_set hy with m | rfl
  · exact a y m
  · exact ⟨d, r, t, f⟩
theorem TL.but {n : Nat} {H0 H H' : Hp} {p D : Addr} (T : TL n H0 H p D) (k : But p H H') (ne : D ≠ p) : TL n H0 H' p D := by
  obtain ⟨xs, h, l, a⟩ := T
  refine ⟨xs, k _ _ ne h, l, fun x hx => ?_⟩
  obtain ⟨d, r, t, f⟩ := a x hx
  refine ⟨d, r.mono ?_, t, f⟩
  rw [del_comm, del_comm (H := H')]
  exact del_mono (but_del k)
section
variable {P : Program} {w : World} {K : PySem.W.Frag} {mg : Str → Option Value} {base : Heap} {f : Addr} {fd : FuncData}
theorem ok_things (F : Fd K "_law_things" sLThings f fd) (g : mg "_law_things" = some (.ref f)) (B : Bl mg) (o_law_take : Ok P w K mg base CX0 1 "_law_take" sTake ["box", "many"] spDraw1) (o_law_bad : Ok P w K mg base CX0 2 "_law_bad" sLBad ["box", "houses"] spLBad) :
    Ok P w K mg base CX0 3 "_law_things" sLThings ["box", "houses", "roads"] spThings := by
  refine ⟨f, fd, g, F, F.bindsN fun _ _ _ _ _ _ us hl => match us, hl with | [_, _, _], _ => rfl, F.ok scLThings (fun vs H Q E h => ?_) (fun cdv A outer s H vs Q E hr h => ?_)⟩
  · obtain ⟨p, r, n, c, rs, rfl, _⟩ := h
    rfl
  · have hu : (cxOf CX0 P w K mg base ["box", "houses", "roads", "spoil", "joined", "things", "k", "road", "other"] "_law_things" (defScope sLThings) f cdv A outer s H E).A.units + 64 < cLine := by
      have z := hr.un
      show (A.deeper _).units + 64 < cLine
      omega
    refine ⟨_, (pss_cons (ps_par (i := 3) (j := 4) rfl scLThings.nd rfl rfl (by decide) rfl rfl (pa_cons (pe_o o_law_take (hr.mono (by decide)) (by rfl) (pa_cons (pv 0) (pa_cons pe_int pa_nil))) (pa_cons (pe_o o_law_take (hr.mono (by decide)) (by rfl) (pa_cons (pv 0) (pa_cons pe_int pa_nil))) pa_nil)) rfl)
      (pss_cons (ps_setLc (i := 5) (own := [("k", 6)]) (g := gName 6) rfl scLThings.nd rfl rfl (sw_true rfl rfl rfl (by decide +kernel)) (pi_range1 (by rfl) (B.u "range" (by decide +kernel)) (pa_cons pe_int pa_nil)) (blkOk_by (N := ["box", "houses", "roads", "spoil", "joined", "things", "k", "road", "other"]) (sc := defScope sLThings) (by decide +kernel)) (fun _ _ _ _ _ => (pg_name (i := 6) scLThings.nd rfl (Or.inl rfl))) (fun _ _ _ _ _ => pts_nil) (fun _ _ _ _ _ => (pe_o o_law_take (hr.mono (by decide)) (by rfl) (pa_cons (pv 0) (pa_cons (pv 1) pa_nil)))))
      (pss_cons (ps_if (pw_and (pt_cmpR op_gt (pv 4) pe_int (nomark _)) (pw_and1 (pt_cmpR (op_neD hu) (pv 2) (pe_lst pa_nil) (nomark _)))).pt
        (pss_cons (ps_set (i := 7) scLThings.nd rfl (Or.inl rfl) (pe_ix ix_seq (pv 2) (pe_o o_law_take (hr.mono (by decide)) (by rfl) (pa_cons (pv 0) (pa_cons (pe_callB call_len (by rfl) (B.u "len" (by decide +kernel)) boot_len (pa_cons (pv 2) pa_nil)) pa_nil))) fun _ _ => rfl))
        (pss_cons (ps_asg (pe_ix ix_seq (pv 7) pe_int fun _ _ => rfl) (pg_sub (pv 5) (pe_op op_sub (pv 4) pe_int) set_list fun _ => rfl))
        (pss_one (ps_asg (pe_ix ix_seq (pv 7) pe_int fun _ _ => rfl) (pg_sub (pv 5) (pe_op op_sub pe_int (pv 4)) set_list fun _ => rfl)))))
        pss_nil)
      (pss_cons (ps_if (pt_cmpR op_lt (pv 3) pe_int (nomark _))
        (pss_cons (ps_asg (pe_o o_law_bad (hr.mono (by decide)) (by rfl) (pa_cons (pv 0) (pa_cons (pv 1) pa_nil))) (pg_sub (pv 5) (pv 3) set_list fun _ => rfl))
        (pss_cons (ps_set (i := 8) scLThings.nd rfl (Or.inl rfl) (pe_o o_law_take (hr.mono (by decide)) (by rfl) (pa_cons (pv 0) (pa_cons pe_int pa_nil))))
        (pss_one (ps_if (pt_cmpR op_lt (pv 8) pe_int (nomark _))
          (pss_one (ps_asg (pe_o o_law_bad (hr.mono (by decide)) (by rfl) (pa_cons (pv 0) (pa_cons (pv 1) pa_nil))) (pg_sub (pv 5) (pv 8) set_list fun _ => rfl)))
          pss_nil))))
        pss_nil)
      (pss_one (ps_ret (pv 5))))))), ?_⟩
    obtain ⟨p, r, n, c, rs, rfl, hp, hc, n1, hr0, rok, q⟩ := h
    have n0 : 1 ≤ n := by have := rok.len; omega
    refine ⟨_, rfl, p, 6, c, rfl, hp, by omega, by decide, by decide, fun spoil H1 sp0 sp1 k1 hp1 e1 => ?_⟩
    refine ⟨_, rfl, p, 3, _, rfl, hp1, by omega, by decide, by decide, fun jn H2 jn0 jn1 k2 hp2 e2 => ?_⟩
    dsimp only [gName, tSeq, gNil, L2.start]
    refine ⟨_, _, rfl, ?_⟩
    have k02 : But p H H2 := k1.trans k2
    refine ⟨_, rfl, by decide, by decide, fun D hD => ?_⟩
    obtain ⟨ob, hob⟩ := hp2.some
    have nDp : D ≠ p := (ne_of_none hob hD).symm
    have fD : H D = none := by
      cases e : H D with
      | none => rfl
      | some o => rw [k02 _ _ nDp e] at hD; cases hD
    refine lc_genB (p := p) (walk_range (lo := 0) (n := 3)) (fun i H' => BoxAt H' p (c + 2 + i)) (fun i y H' => ∃ k : Nat, k < n ∧ y = .int k) (fun _ _ _ _ _ h => h) (fun i H1 H2 e h => h.eq e.symm) hob hp2 hD (by decide) (fun _ _ => True.intro) ?_ ?_
    · rintro i x H0 H4 K1 N1 hi k4 ⟨o, ho⟩ s4 ⟨rfl, hx⟩ hK
      refine ⟨rfl, _, rfl, _, rfl, p, n, _, rfl, s4, by omega, by omega, by omega, fun d H5 d0 d1 k5 hb5 e5 => hK _ _ k5 hb5 ⟨d.toNat, by omega, congrArg V.int (by omega)⟩⟩
    · intro ys H3 k3 hp3 h3 l3 r3
      have k03 : But p H H3 := k02.trans (but_of k3)
      have T3 : TL n H H3 p D := ⟨ys, h3, l3, fun x hx => by
        obtain ⟨i, hi, e⟩ := List.mem_iff_getElem.mp hx
        obtain ⟨k, hk, e2⟩ := r3 i x (by rw [List.getElem?_eq_getElem hi, e])
        rw [e2]
        exact ⟨.int k, .int _, .inl ⟨k, hk, rfl⟩, fun a z => nomatch z⟩⟩
      dsimp only [gName]
      refine tSeq_by (fun σ H' => But p H H' ∧ BoxAt H' p (c + 6) ∧ TL n H H' p D ∧ ∃ x y : Option V, σ = [some (.ref p), some (.int n), some (.ref r), some (.int spoil), some (.int jn), some (.ref D), none, x, y]) ?_ fun rest => ?_
      · rintro σ H4 ⟨k4, hp4, T4, x, y, rfl⟩
        refine tSeq_by (fun σ H' => But p H H' ∧ BoxAt H' p (c + 20) ∧ TL n H H' p D ∧ σ[5]? = some (some (.ref D))) ?_ fun rest => ?_
        · rintro σ H5 ⟨k5, hp5, ⟨xs, h5, l5, a5⟩, e⟩
          refine ⟨_, e, ?_⟩
          match xs, l5 with
          | [x0, x1, x2], _ =>
            have get : ∀ x ∈ [x0, x1, x2], ∃ d, Rdd (del H5 p) x d ∧ Tng n d ∧ ∀ a, x = .ref a → H a = none := fun x hx =>
              let ⟨d, r, t, f⟩ := a5 x hx
              ⟨d, r.mono (del_mono del_le), t, f⟩
            obtain ⟨d0, r0, t0, f0⟩ := get x0 (by simp)
            obtain ⟨d1, r1, t1, f1⟩ := get x1 (by simp)
            obtain ⟨d2, r2, t2, f2⟩ := get x2 (by simp)
            refine q D x0 x1 x2 d0 d1 d2 H5 k5 hp5 nDp fD h5 r0 r1 r2 t0 t1 t2 fun a ha => ?_
            obtain ⟨_, _, _, f⟩ := get _ ha
            exact f a rfl
        · refine ⟨_, rfl, _, _, rfl, rfl, _, rfl, iteB (fun c1 => ?_) fun c1 => rest _ _ ⟨k4, hp4.up (by omega), T4, rfl⟩⟩
          have c1 := of_decide_eq_true c1
          obtain ⟨sn, rfl⟩ : ∃ sn : Nat, spoil = sn := ⟨spoil.toNat, by omega⟩
          refine ⟨_, rfl, _, rfl, p, n, _, rfl, hp4, by omega, n1, fun v d H5 hd r5 f5 k5 hp5 => ?_⟩
          have put : ∀ {H4 H5 : Hp} {v : V} {d : PyData} {i : Nat}, But p H H4 → TL n H H4 p D → d ∈ bads n → Rdd (del H5 p) v d → (∀ a, v = .ref a → H4 a = none) → But p H4 H5 → i < 3 → ∃ xs, H5 D = some (.lst xs) ∧ ixN xs.length (i : Int) = some i ∧ TL n H (upd H5 D (.lst (xs.set i v))) p D := fun {H4 H5 v d i} k4 T4 hd r5 f5 k5 hi => by
            obtain ⟨ys, h4, _, _⟩ := id T4
            have f5' : ∀ a, v = .ref a → H a = none := fun a e => by
              cases z : H a with
              | none => rfl
              | some o =>
                by_cases nb : a = p
                · exact absurd (e.trans (congrArg V.ref nb)) (rdd_ne r5)
                · have := f5 a e
                  rw [k4 _ _ nb z] at this
                  cases this
            have nv : v ≠ .ref D := fun e => by
              have := f5 D e
              rw [h4] at this
              cases this
            obtain ⟨xs, h5, l5, T5⟩ := (T4.but k5 nDp).set (i := i) (x := v) (d := d) (by rw [del_comm]; exact bad_del hd r5 nv) (.inr hd) f5'
            exact ⟨xs, h5, by rw [l5]; exact ixN_nat hi, T5⟩
          obtain ⟨xs, h5, e5, T5⟩ := put k4 T4 hd r5 f5 k5 (i := sn) (by omega)
          refine ⟨_, rfl, _, rfl, D, xs, _, _, rfl, rfl, h5, e5, ?_⟩
          have k5' : But p H (upd H5 D (.lst (xs.set sn v))) := fun b o nb e => by
            rw [upd_ne (ne_of_none e fD)]
            exact k5 _ _ nb (k4 _ _ nb e)
          have hp5' : BoxAt (upd H5 D (.lst (xs.set sn v))) p (c + 7) := hp5.eq (upd_ne nDp.symm)
          generalize upd H5 D (.lst (xs.set sn v)) = H6 at T5 k5' hp5'
          refine ⟨_, rfl, p, 6, _, rfl, hp5', by omega, by decide, by decide, fun ot H7 o0 o1 k7 hp7 e7 => ?_⟩
          refine ⟨_, rfl, _, _, rfl, rfl, _, rfl, iteB (fun c2 => ?_) fun c2 => rest _ _ ⟨k5'.trans k7, hp7.up (by omega), T5.but k7 nDp, rfl⟩⟩
          have c2 := of_decide_eq_true c2
          obtain ⟨on, rfl⟩ : ∃ on : Nat, ot = on := ⟨ot.toNat, by omega⟩
          refine ⟨_, rfl, _, rfl, p, n, _, rfl, hp7, by omega, n1, fun v2 d2 H8 hd2 r8 f8 k8 hp8 => ?_⟩
          obtain ⟨ys, h8, e8, T8⟩ := put (k5'.trans k7) (T5.but k7 nDp) hd2 r8 f8 k8 (i := on) (by omega)
          refine ⟨_, rfl, _, rfl, D, ys, _, _, rfl, rfl, h8, e8, rest _ _ ⟨fun b o nb e => ?_, (hp8.eq (upd_ne nDp.symm)).up (by omega), T8, rfl⟩⟩
          rw [upd_ne (ne_of_none e fD)]
          exact k8 _ _ nb (k7 _ _ nb (k5' _ _ nb e))
      · have skip : ∀ H', But p H3 H' → BoxAt H' p (c + 6) → ∀ x y : Option V, But p H H' ∧ BoxAt H' p (c + 6) ∧ TL n H H' p D ∧ ∃ x' y' : Option V, [some (V.ref p), some (.int n), some (.ref r), some (.int spoil), some (.int jn), some (.ref D), none, x, y] = [some (.ref p), some (.int n), some (.ref r), some (.int spoil), some (.int jn), some (.ref D), none, x', y'] := fun H' k hb x y =>
          ⟨k03.trans k, hb, T3.but k nDp, x, y, rfl⟩
        refine ⟨_, rfl, _, _, rfl, rfl, _, rfl, iteB (fun c1 => ?_) fun c1 => rest _ _ (skip _ but_refl (hp3.up (by omega)) _ _)⟩
        have c1 := of_decide_eq_true c1
        have hr3 := (hr0.mono (but_del k03)).mono del_le
        refine ⟨_, rfl, two_ln (by decide), fun pe hpe => ?_⟩
        have g4 : Same H3 (upd H3 pe (.lst [])) := upd_grow hpe
        refine ⟨.list (rs.map rd), .list [], (hr3.mono g4).dp (rds_lay rs), .lst (SqL.of upd_same) .nil, rds_lshaped rs, by decide, ?_⟩
        rw [rds_nil]
        have hp4 := hp3.same g4
        have k34 : But p H3 (upd H3 pe (.lst [])) := But.of g4
        generalize upd H3 pe (.lst []) = H4 at g4 hp4 k34
        refine ⟨_, rfl, iteB (fun c2 => ?_) fun c2 => rest _ _ (skip _ k34 (hp4.up (by omega)) _ _)⟩
        have c2 := not_t c2
        have l0 : 0 < rs.length := by
          cases rs with
          | nil => cases c2
          | cons _ _ => simp
        cases hr0 with
        | lst hl ra =>
          rename_i ys
          have hl4 := k34 _ _ (fun e => by rw [e, del_same] at hl; cases hl) (k03 _ _ (fun e => by rw [e, del_same] at hl; cases hl) (del_le _ _ hl))
          have ly := rdds_len ra
          rw [List.length_map] at ly
          have nrp : r ≠ p := fun e => by rw [e, del_same] at hl; cases hl
          have lr := rok.len
          refine ⟨_, rfl, _, rfl, _, rfl, _, _, rfl, .inl ⟨_, SqL.of hl4, rfl⟩, p, (ys.length : Int), _, rfl, hp4, by omega, by omega, by omega, fun dr H5 dr0 dr1 k5 hp5 e5 => ?_⟩
          obtain ⟨dn, rfl⟩ : ∃ dn : Nat, dr = dn := ⟨dr.toNat, by omega⟩
          have dl : dn < rs.length := by omega
          obtain ⟨x, hx, rx⟩ := rdds_get ra (show (rs.map rd)[dn]? = some (rd rs[dn]) by rw [List.getElem?_map, List.getElem?_eq_getElem dl]; rfl)
          have bi := rok.bnd _ (List.getElem_mem dl)
          generalize rs[dn] = ro at rx bi
          obtain ⟨u, v⟩ := ro
          unfold rd at rx
          cases rx with
          | @tup pt zs es ht r2 =>
            obtain ⟨y1, y2, rfl, r3, r4⟩ := rdds_two r2
            cases r3
            cases r4
            simp only at bi
            have npt : pt ≠ p := fun e => by rw [e, del_same] at ht; cases ht
            have k05 : But p H H5 := k03.trans (k34.trans k5)
            have ht5 := k05 _ _ npt (del_le _ _ ht)
            have T5 := T3.but (k34.trans k5) nDp
            refine ixAt (k5 _ _ nrp hl4) (atI_nat hx) ?_
            have three : jn = 1 ∨ jn = 2 := by omega
            have fin : ∀ i j : Nat, i < 3 → j < 3 → ∃ xs, H5 D = some (.lst xs) ∧ ixN xs.length (i : Int) = some i ∧ ∃ ys, upd H5 D (.lst (xs.set i (.int (u : Nat)))) D = some (.lst ys) ∧ ixN ys.length (j : Int) = some j ∧
                TL n H (upd (upd H5 D (.lst (xs.set i (.int (u : Nat))))) D (.lst (ys.set j (.int (v : Nat))))) p D := fun i j hi hj => by
              obtain ⟨xs, h5, l5, T6⟩ := T5.set (i := i) (x := .int (u : Nat)) (d := .int u) (.int _) (.inl ⟨u, by omega, rfl⟩) (fun a z => nomatch z)
              obtain ⟨ys, h6, l6, T7⟩ := T6.set (i := j) (x := .int (v : Nat)) (d := .int v) (.int _) (.inl ⟨v, by omega, rfl⟩) (fun a z => nomatch z)
              exact ⟨xs, h5, by rw [l5]; exact ixN_nat hi, ys, h6, by rw [l6]; exact ixN_nat hj, T7⟩
            have ntD : pt ≠ D := ne_of_none (del_le _ _ ht) fD
            rcases three with rfl | rfl
            · obtain ⟨xs, h5, i5, zs, h6, i6, T7⟩ := fin 0 1 (by decide) (by decide)
              refine ⟨_, rfl, ixTup (SqT.of ht5) rfl ⟨_, rfl, _, rfl, _, _, rfl, rfl, D, xs, _, _, rfl, rfl, h5, i5, ?_⟩⟩
              refine ⟨_, rfl, ixTup (v := .int (v : Nat)) (SqT.of (by rw [upd_ne ntD]; exact ht5)) rfl ⟨_, rfl, _, rfl, _, _, rfl, rfl, D, zs, _, _, rfl, rfl, h6, i6, rest _ _ ⟨fun b o nb e => ?_, ?_, T7, _, _, rfl⟩⟩⟩
              · rw [upd_ne (ne_of_none e fD), upd_ne (ne_of_none e fD)]
                exact k05 _ _ nb e
              · exact (hp5.eq (by rw [upd_ne nDp.symm, upd_ne nDp.symm])).up (by omega)
            · obtain ⟨xs, h5, i5, zs, h6, i6, T7⟩ := fin 1 0 (by decide) (by decide)
              refine ⟨_, rfl, ixTup (SqT.of ht5) rfl ⟨_, rfl, _, rfl, _, _, rfl, rfl, D, xs, _, _, rfl, rfl, h5, i5, ?_⟩⟩
              refine ⟨_, rfl, ixTup (v := .int (v : Nat)) (SqT.of (by rw [upd_ne ntD]; exact ht5)) rfl ⟨_, rfl, _, rfl, _, _, rfl, rfl, D, zs, _, _, rfl, rfl, h6, i6, rest _ _ ⟨fun b o nb e => ?_, ?_, T7, _, _, rfl⟩⟩⟩
              · rw [upd_ne (ne_of_none e fD), upd_ne (ne_of_none e fD)]
                exact k05 _ _ nb e
              · exact (hp5.eq (by rw [upd_ne nDp.symm, upd_ne nDp.symm])).up (by omega)
end
end K02

/-! xs != [] for any list -/
namespace L2
open PySem PySem.Spec PyProof.Rows
theorem ne_list_lengths {prog : Program} {w : World} {A : Around} {E : Value → Shared → Prop} {s : Shared} {l b : Addr} {items items2 : Array Value} {Q : Value → Shared → Prop}
    (h1 : s.heap.IsList l items) (h2 : s.heap.IsList b items2) (ne : (items.size != items2.size) = true) (hu : A.units < cLine) (q : Q (.bool true) s) : wpAny (model prog w) A (compareOp .NotEq (.ref l) (.ref b)) Q E s := by
  obtain ⟨⟨c1, dd, dt1, sl⟩, g1, e1, n, e2⟩ := id h1
  obtain ⟨⟨c2, dd2, dt2, sl2⟩, g2, e3, n2, e4⟩ := id h2
  simp only at e1 e2 e3 e4
  subst e1 e2 e3 e4
  show wpAny _ _ (richCompare .NotEq _ _) _ _ _
  exact richCompare_meets_room h1.typeIs h2.typeIs F.slot_list_ne F.entry_list_ne (F.args_list_ne_2 _ _) (SeqAt.list_ne_lengthsAt l b items items2 n n2 dd dd2 sl sl2 ne) ⟨g1, g2, by show Value.bool true ≠ Value.notImplemented ∧ _; exact ⟨(fun z => by cases z), q⟩⟩ hu
def rNeNil (K : PySem.W.Frag) : R2 := fun x y H Q => ∃ (a b : Addr) (xs : List V), x = .ref a ∧ y = .ref b ∧ SqL K H a xs ∧ SqL K H b [] ∧ Q (.bl (!xs.isEmpty)) H
theorem op_neNil {X : Cx} (hu : X.A.units + 64 < cLine) : OpR X (compareOp .NotEq) (rNeNil X.K) := by
  intro pins s σ H x y v u Q I rx ry h
  obtain ⟨a, b, xs, rfl, rfl, ha, hb, q⟩ := h
  cases xs with
  | nil => exact op_neD hu pins s σ H _ _ v u Q I rx ry ⟨.list [], .list [], .lst ha .nil, .lst hb .nil, rfl, rfl, q⟩
  | cons z zs =>
    obtain rfl : v = Value.ref a := rx
    obtain rfl : u = Value.ref b := ry
    obtain ⟨i1, r1, p1, _⟩ := I.list ha
    obtain ⟨i2, r2, p2, _⟩ := I.list hb
    cases r2
    cases r1 with
    | cons r1 r3 => exact ne_list_lengths p1.isList p2.isList (by simp) (by omega) ⟨.bl true, H, I, rfl, q⟩
end L2

namespace K02
open PySem PySem.Spec PyProof.Rows L2
abbrev sLDue : Stmt := top 40
theorem scLDue : FnScope ["near", "word", "things", "bad", "thing", "a", "b", "c", "row", "one", "other", "house"] ["near", "word", "things"] (defScope sLDue) := ⟨rfl, rfl, rfl, by decide +kernel, rfl, by decide +kernel, by decide +kernel⟩
/-- how many of the things are asked for -/
def useds : Nat → Nat
  | 0 => 1
  | 1 => 2
  | 2 => 3
  | 3 => 2
  | _ => 3
inductive Told (n : Nat) (rs : List Tm.Road) : Nat → List PyData → PyData → Prop
  | nei {a : Nat} {ds : List PyData} (h : ds[0]? = some (.int a)) (l : a < n) : Told n rs 0 ds (.list [.str "told", .list (natD (Tm.near rs a))])
  | way {a b : Nat} {l : List Nat} {ds : List PyData} (h : ds[0]? = some (.int a)) (h1 : ds[1]? = some (.int b)) (w : Tm.Way rs a b l) : Told n rs 1 ds (.list [.str "told", .tuple (natD l)])
  | on {a b c : Nat} {l : List Nat} {ds : List PyData} (h : ds[0]? = some (.int a)) (h1 : ds[1]? = some (.int b)) (h2 : ds[2]? = some (.int c)) (w : Tm.Way rs a b l) : Told n rs 2 ds (.list [.str "told", .bool (decide (c ∈ l))])
  | side {a b : Nat} {r : Tm.B} {ks : List Int} {ds : List PyData} (h : ds[0]? = some (.int a)) (h1 : ds[1]? = some (.int b)) (m : b ∈ Tm.near rs a) (d : Tm.Dfs (Tm.near rs) (some b) [(a, a)] [a] r) (p : ks.Perm ((Tm.keys r).map fun x : Nat => (x : Int))) (s : ks.Pairwise (· ≤ ·)) :
      Told n rs 3 ds (.list [.str "told", .list (ks.map PyData.int)])
  | no {a b : Nat} {ds : List PyData} (h : ds[0]? = some (.int a)) (h1 : ds[1]? = some (.int b)) (m : b ∉ Tm.near rs a) : Told n rs 3 ds (.list [.str "road", .int a, .int b])
  | foot {a b c m : Nat} {L M : List Nat} {ds : List PyData} (h : ds[0]? = some (.int a)) (h1 : ds[1]? = some (.int b)) (h2 : ds[2]? = some (.int c)) (w1 : Tm.Way rs a b L) (w2 : Tm.Way rs c a M) (f : (M.filter fun h => decide (h ∈ L)).head? = some m) :
      Told n rs 4 ds (.list [.str "told", .int m])
theorem int_one {x : Option PyData} {a b : Nat} (h : x = some (.int a)) (k : x = some (.int b)) : a = b := by
  rw [h] at k
  have := PyData.int.inj (Option.some.inj k)
  omega
theorem Told.det {n : Nat} {rs : List Tm.Road} {w : Nat} {ds : List PyData} {D D' : PyData} (h : Told n rs w ds D) (k : Told n rs w ds D') : D = D' := by
  cases h with
  | nei h l =>
    cases k with
    | nei h' l' => rw [int_one h h']
  | way h h1 w =>
    cases k with
    | way h' h1' w' =>
      cases int_one h h'
      cases int_one h1 h1'
      rw [w.det w']
  | on h h1 h2 w =>
    cases k with
    | on h' h1' h2' w' =>
      cases int_one h h'
      cases int_one h1 h1'
      cases int_one h2 h2'
      rw [w.det w']
  | side h h1 m d p s =>
    cases k with
    | side h' h1' m' d' p' s' =>
      cases int_one h h'
      cases int_one h1 h1'
      cases d.det d'
      rw [Tm.sort_one (p.trans p'.symm) s s']
    | no h' h1' m' =>
      cases int_one h h'
      cases int_one h1 h1'
      exact absurd m m'
  | no h h1 m =>
    cases k with
    | side h' h1' m' d' p' s' =>
      cases int_one h h'
      cases int_one h1 h1'
      exact absurd m' m
    | no h' h1' m' =>
      cases int_one h h'
      cases int_one h1 h1'
      rfl
  | foot h h1 h2 w1 w2 f =>
    cases k with
    | foot h' h1' h2' w1' w2' f' =>
      cases int_one h h'
      cases int_one h1 h1'
      cases int_one h2 h2'
      cases w1.det w1'
      cases w2.det w2'
      rw [f] at f'
      rw [Option.some.inj f']
def firstBad (n w : Nat) (ds : List PyData) : Option PyData := (ds.take (useds w)).find? fun d => !belowD n d
def DueO (n : Nat) (rs : List Tm.Road) (w : Nat) (ds : List PyData) (D : PyData) : Prop := match firstBad n w ds with
  | some d => D = .list [.str "house", d]
  | none => Told n rs w ds D
theorem DueO.det {n : Nat} {rs : List Tm.Road} {w : Nat} {ds : List PyData} {D D' : PyData} (h : DueO n rs w ds D) (k : DueO n rs w ds D') : D = D' := by
  unfold DueO at h k
  cases e : firstBad n w ds with
  | some d =>
    rw [e] at h k
    simp only at h k
    rw [h, k]
  | none =>
    rw [e] at h k
    exact Told.det h k
def spDue : Sp := fun vs H Q _ => ∃ (nt q : Addr) (n w : Nat) (rs : List Tm.Road) (x0 x1 x2 : V) (d0 d1 d2 : PyData), vs = [.ref nt, .int w, .ref q] ∧ Rdd H (.ref nt) (nearL n rs) ∧ Tm.RoadsOk n rs ∧ Tm.Joined n rs ∧ n ≤ 64 ∧ w < 5 ∧ H q = some (.lst [x0, x1, x2]) ∧
  Rdd H x0 d0 ∧ Rdd H x1 d1 ∧ Rdd H x2 d2 ∧ ∀ r D H', Same H H' → DueO n rs w [d0, d1, d2] D → Rdd H' (.ref r) D → Q (.ref r) H'
theorem take_map {α : Type} {l : List α} {z : α} {k : Nat} (h : k ≤ l.length) : l.take k = (List.range k).map fun i => l.getD i z := by
  apply List.ext_getElem
  · simp; omega
  · intro i h1 h2
    rw [List.getElem_take, List.getElem_map, List.getElem_range, List.getD_eq_getElem?_getD, List.getElem?_eq_getElem (by simp at h2; omega)]
    rfl
section
variable {P : Program} {w : World} {K : PySem.W.Frag} {mg : Str → Option Value} {base : Heap} {f : Addr} {fd : FuncData}
theorem ok_due (F : Fd K "_law_due" sLDue f fd) (g : mg "_law_due" = some (.ref f)) (B : Bl mg) (o_law_house : Ok P w K mg base CX0 1 "_law_house" sLHouse ["value", "houses"] spLHouse)
    (o_law_way : Ok P w K mg base CX0 2 "_law_way" sLWay ["near", "a", "b"] spLWay) (o_law_side : Ok P w K mg base CX0 1 "_law_side" sLSide ["near", "u", "v"] spLSide) : Ok P w K mg base CX0 3 "_law_due" sLDue ["near", "word", "things"] spDue := by
  refine ⟨f, fd, g, F, F.bindsN fun _ _ _ _ _ _ us hl => match us, hl with | [_, _, _], _ => rfl, F.ok scLDue (fun vs H Q E h => ?_) (fun cdv A outer s H vs Q E hr h => ?_)⟩
  · obtain ⟨nt, q, n, w, rs, x0, x1, x2, d0, d1, d2, rfl, _⟩ := h
    rfl
  · have hu : (cxOf CX0 P w K mg base ["near", "word", "things", "bad", "thing", "a", "b", "c", "row", "one", "other", "house"] "_law_due" (defScope sLDue) f cdv A outer s H E).A.units + 64 < cLine := by
      have z := hr.un
      show (A.deeper _).units + 64 < cLine
      omega
    refine ⟨_, (pss_cons (ps_setLc (i := 3) (own := [("thing", 4)]) (g := gName 4) rfl scLDue.nd rfl rfl (sw_true rfl rfl rfl (by decide +kernel)) (pi_list (pe_slice sl_list (pv 2) po_none (po_some (pe_ix ix_seq (pe_lst (pa_cons pe_int (pa_cons pe_int (pa_cons pe_int (pa_cons pe_int (pa_cons pe_int pa_nil)))))) (pv 1) fun _ _ => rfl)))) (blkOk_by (N := ["near", "word", "things", "bad", "thing", "a", "b", "c", "row", "one", "other", "house"]) (sc := defScope sLDue) (by decide +kernel)) (fun _ _ _ _ _ => (pg_name (i := 4) scLDue.nd rfl (Or.inl rfl))) (fun _ _ _ _ _ => (pts_one (pt_not (pt_val (pe_o o_law_house (hr.mono (by decide)) (by rfl) (pa_cons (pv 4) (pa_cons (pe_callB (r := rLen K) (by exact call_len) (by rfl) (B.u "len" (by decide +kernel)) boot_len (pa_cons (pv 0) pa_nil)) pa_nil))))))) (fun _ _ _ _ _ => (pv 4)))
      (pss_cons (ps_if (pt_cmpR (op_neNil hu) (pv 3) (pe_lst pa_nil) (nomark _))
        (pss_one (ps_ret (pe_lst (pa_cons pe_str (pa_cons (pe_ix ix_seq (pv 3) pe_int fun _ _ => rfl) pa_nil)))))
        pss_nil)
      (pss_cons (ps_asg (pv 2) (pg_unl rfl (pgs_cons (pg_name (i := 5) scLDue.nd rfl (Or.inl rfl)) (pgs_cons (pg_name (i := 6) scLDue.nd rfl (Or.inl rfl)) (pgs_cons (pg_name (i := 7) scLDue.nd rfl (Or.inl rfl)) pgs_nil)))))
      (pss_cons (ps_if (pt_cmpR op_eq (pv 1) pe_int (nomark _))
        (pss_one (ps_ret (pe_lst (pa_cons pe_str (pa_cons (pe_ix ix_seq (pv 0) (pv 5) fun _ _ => rfl) pa_nil)))))
        pss_nil)
      (pss_cons (ps_if (pt_cmpR op_eq (pv 1) pe_int (nomark _))
        (pss_one (ps_ret (pe_ifExp (pt_cmpR op_in_seq (pv 6) (pe_ix ix_seq (pv 0) (pv 5) fun _ _ => rfl) (by rfl)) (pe_lst (pa_cons pe_str (pa_cons (pe_o o_law_side (hr.mono (by decide)) (by rfl) (pa_cons (pv 0) (pa_cons (pv 5) (pa_cons (pv 6) pa_nil)))) pa_nil))) (pe_lst (pa_cons pe_str (pa_cons (pv 5) (pa_cons (pv 6) pa_nil)))))))
        pss_nil)
      (pss_cons (ps_set (i := 8) scLDue.nd rfl (Or.inl rfl) (pe_o o_law_way (hr.mono (by decide)) (by rfl) (pa_cons (pv 0) (pa_cons (pv 5) (pa_cons (pv 6) pa_nil)))))
      (pss_cons (ps_if (pt_cmpR op_eq (pv 1) pe_int (nomark _))
        (pss_one (ps_ret (pe_lst (pa_cons pe_str (pa_cons (pe_callTy call_tuple_of (by rfl) (B.u "tuple" (by decide +kernel)) (by decide +kernel) (pa_cons (pv 8) pa_nil)) pa_nil)))))
        pss_nil)
      (pss_cons (ps_if (pt_cmpR op_eq (pv 1) pe_int (nomark _))
        (pss_one (ps_ret (pe_lst (pa_cons pe_str (pa_cons (pe_cmpR op_in_seq (pv 7) (pv 8) (by rfl)) pa_nil)))))
        pss_nil)
      (pss_cons (ps_asg (pe_tup (pa_cons (pe_o o_law_way (hr.mono (by decide)) (by rfl) (pa_cons (pv 0) (pa_cons (pv 7) (pa_cons (pv 5) pa_nil)))) (pa_cons (pe_o o_law_way (hr.mono (by decide)) (by rfl) (pa_cons (pv 0) (pa_cons (pv 7) (pa_cons (pv 6) pa_nil)))) pa_nil))) (pg_tup rfl (pgs_cons (pg_name (i := 9) scLDue.nd rfl (Or.inr rfl)) (pgs_cons (pg_name (i := 10) scLDue.nd rfl (Or.inr rfl)) pgs_nil))))
      (pss_one (ps_ret (pe_lst (pa_cons pe_str (pa_cons (pe_ix ix_seq (pe_lc (own := [("house", 11)]) (g := gName 11) rfl scLDue.nd (pi_list (pv 8)) (blkOk_by (N := ["near", "word", "things", "bad", "thing", "a", "b", "c", "row", "one", "other", "house"]) (sc := defScope sLDue) (by decide +kernel)) (fun _ _ _ _ _ => (pg_name (i := 11) scLDue.nd rfl (Or.inl rfl))) (fun _ _ _ _ _ => (pts_one (pw_and (pt_cmpR (r := rIn K false) (by exact op_in_seq) (pv 11) (pv 9) (by rfl)) (pw_and1 (pt_cmpR (r := rIn K false) (by exact op_in_seq) (pv 11) (pv 10) (by rfl)))).pt)) (fun _ _ _ _ _ => (pv 11))) pe_int fun _ _ => rfl) pa_nil)))))))))))))), ?_⟩
    obtain ⟨nt, qa, n, w, rs, x0, x1, x2, d0, d1, d2, rfl, hn, ok, jo, n1, w5, hq, r0, r1, r2, q⟩ := h
    obtain ⟨rows, hrows, lrows⟩ : ∃ rows, H nt = some (.lst rows) ∧ rows.length = n := by
      cases hn with
      | lst h1 ra => exact ⟨_, h1, by have := rdds_len ra; simpa using this⟩
    have hk : useds w ≤ 3 := by unfold useds; split <;> omega
    have ew : atI [V.int 1, .int 2, .int 3, .int 2, .int 3] (w : Int) = some (.int (useds w : Nat)) := by
      match w, w5 with
      | 0, _ => rfl
      | 1, _ => rfl
      | 2, _ => rfl
      | 3, _ => rfl
      | 4, _ => rfl
    have ec : cutV [x0, x1, x2] none (some (useds w : Nat)) = (List.range (useds w)).map fun i => [x0, x1, x2].getD i .non := by
      rw [← take_map hk]
      match w, w5 with
      | 0, _ => rfl
      | 1, _ => rfl
      | 2, _ => rfl
      | 3, _ => rfl
      | 4, _ => rfl
    refine ⟨_, rfl, two_ln (by show 5 ≤ _; decide), fun pl hpl => ⟨_, rfl, ixAt upd_same ew ⟨_, rfl, qa, _, rfl, SqL.of (upd_grow hpl _ _ hq), fun ps hps => ⟨ps, rfl, ⟨_, SqL.of upd_same⟩, fun D hD => ?_⟩⟩⟩⟩
    rw [ec] at hD ⊢
    have k0 : Same H (upd (upd H pl (.lst [.int 1, .int 2, .int 3, .int 2, .int 3])) ps (.lst ((List.range (useds w)).map fun i => [x0, x1, x2].getD i .non))) := (upd_grow hpl).trans (upd_grow hps)
    have hps' : (upd (upd H pl (.lst [.int 1, .int 2, .int 3, .int 2, .int 3])) ps (.lst ((List.range (useds w)).map fun i => [x0, x1, x2].getD i .non))) ps = some (.lst ((List.range (useds w)).map fun i => [x0, x1, x2].getD i .non)) := upd_same
    generalize upd (upd H pl (.lst [.int 1, .int 2, .int 3, .int 2, .int 3])) ps (.lst ((List.range (useds w)).map fun i => [x0, x1, x2].getD i .non)) = Ha at k0 hps' hD
    let X : Nat → V := fun i => [x0, x1, x2].getD i .non
    let Dd : Nat → PyData := fun i => [d0, d1, d2].getD i .none
    let bp : Nat → Bool := fun i => !belowD n (Dd i)
    have XD : ∀ i, Rdd H (X i) (Dd i) := fun i => by
      match i with
      | 0 => exact r0
      | 1 => exact r1
      | 2 => exact r2
      | i + 3 => exact .non
    have fb : firstBad n w [d0, d1, d2] = ((List.range (useds w)).find? bp).map Dd := by
      unfold firstBad
      rw [take_map (z := .none) hk, List.find?_map]
      rfl
    refine lc_gen walk_list bp (fun i y _ => y = X i) (fun _ _ _ _ _ h => h) hD (by rw [List.length_map, List.length_range]; omega) (fun H' k => SqL.of (del_sub k _ _ hps')) ?_ ?_
    · rintro i x H0 H3 K1 N1 hi k4 ⟨o, ho⟩ ⟨rfl, hx⟩ hK hN
      rw [List.length_map, List.length_range] at hi
      rw [List.getElem?_map, List.getElem?_eq_getElem (by rw [List.length_range]; exact hi), List.getElem_range] at hx
      obtain rfl : X i = x := Option.some.inj hx
      have k5 := k0.trans (del_sub k4)
      refine ⟨rfl, _, rfl, _, rfl, _, _, rfl, .inl ⟨_, SqL.of (k5 _ _ hrows), rfl⟩, X i, Dd i, (n : Int), by rw [lrows], (XD i).mono k5, _, rfl, iteB (fun c => ?_) fun c => ?_⟩
      · exact ⟨_, rfl, hK c (X i) _ (Same.refl _) rfl⟩
      · exact hN c _ (Same.refl _)
    · intro ys H3 k4 h3 l3 r3
      rw [List.length_map, List.length_range] at l3 r3
      have eys : ys = ((List.range (useds w)).filter bp).map X := map_of l3 r3
      have k3 : Same H H3 := k0.trans (del_sub k4)
      have hd : ((List.range (useds w)).filter bp).head? = (List.range (useds w)).find? bp := List.head?_filter
      refine ⟨_, rfl, two_ln (by decide), fun pe hpe => ⟨D, pe, ys, rfl, rfl, SqL.of (upd_grow hpe _ _ h3), SqL.of upd_same, _, rfl, iteB (fun c => ?_) fun c => ?_⟩⟩
      · have c := not_t c
        cases ef : (List.range (useds w)).filter bp with
        | nil => rw [eys, ef] at c; cases c
        | cons i is =>
          rw [ef] at hd eys
          have e2 : firstBad n w [d0, d1, d2] = some (Dd i) := by rw [fb, ← hd]; rfl
          refine ⟨_, rfl, ixAt (v := X i) (upd_grow hpe _ _ h3) (by rw [eys]; exact atI_nat (j := 0) rfl) ⟨two_ln (by show 2 ≤ _; decide), fun pr hpr => ?_⟩⟩
          have kr : Same H (upd (upd H3 pe (.lst [])) pr (.lst [.str "house", X i])) := (k3.trans (upd_grow hpe)).trans (upd_grow hpr)
          refine q pr (.list [.str "house", Dd i]) _ kr ?_ (.lst upd_same (.cons (.str _) (.cons ((XD i).mono kr) .nil)))
          unfold DueO
          rw [e2]
      · have c := not_f c
        have ef : (List.range (useds w)).filter bp = [] := by
          cases ef : (List.range (useds w)).filter bp with
          | nil => rfl
          | cons i is => rw [eys, ef] at c; cases c
        have e2 : firstBad n w [d0, d1, d2] = none := by
          rw [fb, ← hd, ef]
          rfl
        have q : ∀ r D H', Same H H' → Told n rs w [d0, d1, d2] D → Rdd H' (.ref r) D → Q (.ref r) H' := fun r D H' k t rd => q r D H' k (by unfold DueO; rw [e2]; exact t) rd
        have int : ∀ i, i < useds w → ∃ a : Nat, a < n ∧ X i = .int a ∧ Dd i = .int a := fun i hi => by
          refine int_of (XD i) ?_
          have := List.filter_eq_nil_iff.mp ef i (List.mem_range.mpr hi)
          simpa [bp] using this
        have k5 : Same H (upd H3 pe (.lst [])) := k3.trans (upd_grow hpe)
        generalize upd H3 pe (.lst []) = H5 at k5
        clear hd fb eys h3 k4 r3 l3 ef c e2 XD
        refine ⟨_, rfl, qa, _, rfl, SqL.of (k5 _ _ hq), rfl, _, _, rfl, _, _, rfl, _, _, rfl, rfl, ?_⟩
        dsimp only [gName, tSeq, gNil, L2.start]
        have hn5 := hn.mono k5
        have row : ∀ a, a < n → ∃ rows t, H5 nt = some (.lst rows) ∧ atI rows (a : Int) = some (.ref t) ∧ H5 t = some (.lst (natV (Tm.near rs a))) := fun a ha => nearL_row hn5 ha
        have five : w = 0 ∨ w = 1 ∨ w = 2 ∨ w = 3 ∨ w = 4 := by omega
        rcases five with rfl | rfl | rfl | rfl | rfl
        · obtain ⟨a, ha, xa, da⟩ := int 0 (by decide)
          have xa : x0 = .int a := xa
          have da : d0 = .int a := da
          subst xa da
          obtain ⟨rw1, t, g1, g2, g3⟩ := row a ha
          refine ⟨_, rfl, rfl, _, rfl, iteT ⟨_, rfl, _, rfl, ixAt g1 g2 ⟨two_ln (by show 2 ≤ _; decide), fun pr hpr => ?_⟩⟩⟩
          exact q pr _ _ (k5.trans (upd_grow hpr)) (.nei rfl ha) (.lst upd_same (.cons (.str _) (.cons (.lst (upd_grow hpr _ _ g3) (nat_rdd _)) .nil)))
        · obtain ⟨a, ha, xa, da⟩ := int 0 (by decide)
          obtain ⟨b, hb, xb, db⟩ := int 1 (by decide)
          have xa : x0 = .int a := xa
          have da : d0 = .int a := da
          have xb : x1 = .int b := xb
          have db : d1 = .int b := db
          subst xa da xb db
          refine ⟨_, rfl, rfl, _, rfl, iteF ⟨_, rfl, rfl, _, rfl, iteF ?_⟩⟩
          refine ⟨_, rfl, _, rfl, _, rfl, nt, n, a, b, rs, rfl, hn5, ok, jo, ha, hb, n1, fun l pl H6 hw k6 f6 h6 => ?_⟩
          refine ⟨_, rfl, rfl, _, rfl, iteT ⟨_, rfl, pl, _, rfl, .inl ⟨SqL.of h6, fun pt hpt => ⟨two_ln (by show 2 ≤ _; decide), fun pr hpr => ?_⟩⟩⟩⟩
          exact q pr _ _ (k5.trans (k6.trans ((upd_grow hpt).trans (upd_grow hpr)))) (.way rfl rfl hw) (.lst upd_same (.cons (.str _) (.cons (.tup (upd_grow hpr _ _ upd_same) (nat_rdd _)) .nil)))
        · obtain ⟨a, ha, xa, da⟩ := int 0 (by decide)
          obtain ⟨b, hb, xb, db⟩ := int 1 (by decide)
          obtain ⟨c, hc, xc, dc⟩ := int 2 (by decide)
          have xa : x0 = .int a := xa
          have da : d0 = .int a := da
          have xb : x1 = .int b := xb
          have db : d1 = .int b := db
          have xc : x2 = .int c := xc
          have dc : d2 = .int c := dc
          subst xa da xb db xc dc
          refine ⟨_, rfl, rfl, _, rfl, iteF ⟨_, rfl, rfl, _, rfl, iteF ?_⟩⟩
          refine ⟨_, rfl, _, rfl, _, rfl, nt, n, a, b, rs, rfl, hn5, ok, jo, ha, hb, n1, fun l pl H6 hw k6 f6 h6 => ?_⟩
          refine ⟨_, rfl, rfl, _, rfl, iteF ⟨_, rfl, rfl, _, rfl, iteT ⟨_, rfl, _, rfl, pl, natV l, rfl, .inl (SqL.of h6), rfl, natV_flat _, ?_⟩⟩⟩
          rw [if_neg (by decide), natV_in]
          refine ⟨two_ln (by show 2 ≤ _; decide), fun pr hpr => ?_⟩
          exact q pr _ _ (k5.trans (k6.trans (upd_grow hpr))) (.on rfl rfl rfl hw) (.lst upd_same (.cons (.str _) (.cons (.bl _) .nil)))
        · obtain ⟨a, ha, xa, da⟩ := int 0 (by decide)
          obtain ⟨b, hb, xb, db⟩ := int 1 (by decide)
          have xa : x0 = .int a := xa
          have da : d0 = .int a := da
          have xb : x1 = .int b := xb
          have db : d1 = .int b := db
          subst xa da xb db
          obtain ⟨rw1, t, g1, g2, g3⟩ := row a ha
          refine ⟨_, rfl, rfl, _, rfl, iteF ⟨_, rfl, rfl, _, rfl, iteT ?_⟩⟩
          refine ⟨_, rfl, _, rfl, _, rfl, ixAt g1 g2 ⟨t, natV (Tm.near rs a), rfl, .inl (SqL.of g3), rfl, natV_flat _, _, rfl, iteB (fun e => ?_) fun e => ?_⟩⟩
          · rw [if_neg (by decide), natV_in] at e
            refine ⟨_, rfl, _, rfl, _, rfl, nt, n, a, b, rs, rfl, hn5, ok.bnd, ha, n1, fun ns br p H6 hd pm srt k6 f6 h6 => ⟨two_ln (by show 2 ≤ _; decide), fun pr hpr => ?_⟩⟩
            have rk : ∀ {H' : Hp} (ks : List Int), RddAll H' (ks.map V.int) (ks.map PyData.int) := fun {H'} ks => by
              induction ks with
              | nil => exact .nil
              | cons x ks ih => exact .cons (.int _) ih
            exact q pr _ _ (k5.trans (k6.trans (upd_grow hpr))) (.side rfl rfl (of_decide_eq_true e) hd pm srt) (.lst upd_same (.cons (.str _) (.cons (.lst (upd_grow hpr _ _ h6) (rk _)) .nil)))
          · rw [if_neg (by decide), natV_in] at e
            refine ⟨_, rfl, _, rfl, two_ln (by show 3 ≤ _; decide), fun pr hpr => ?_⟩
            exact q pr _ _ (k5.trans (upd_grow hpr)) (.no rfl rfl (of_decide_eq_false e)) (.lst upd_same (.cons (.str _) (.cons (.int _) (.cons (.int _) .nil))))
        · obtain ⟨a, ha, xa, da⟩ := int 0 (by decide)
          obtain ⟨b, hb, xb, db⟩ := int 1 (by decide)
          obtain ⟨c, hc, xc, dc⟩ := int 2 (by decide)
          have xa : x0 = .int a := xa
          have da : d0 = .int a := da
          have xb : x1 = .int b := xb
          have db : d1 = .int b := db
          have xc : x2 = .int c := xc
          have dc : d2 = .int c := dc
          subst xa da xb db xc dc
          refine ⟨_, rfl, rfl, _, rfl, iteF ⟨_, rfl, rfl, _, rfl, iteF ?_⟩⟩
          refine ⟨_, rfl, _, rfl, _, rfl, nt, n, a, b, rs, rfl, hn5, ok, jo, ha, hb, n1, fun l pl H6 hw k6 f6 h6 => ?_⟩
          refine ⟨_, rfl, rfl, _, rfl, iteF ⟨_, rfl, rfl, _, rfl, iteF ?_⟩⟩
          refine ⟨_, rfl, _, rfl, _, rfl, nt, n, c, a, rs, rfl, hn5.mono k6, ok, jo, hc, ha, n1, fun l1 p1 H7 hw1 k7 f7 h7 => ?_⟩
          refine ⟨_, rfl, _, rfl, _, rfl, nt, n, c, b, rs, rfl, (hn5.mono k6).mono k7, ok, jo, hc, hb, n1, fun l2 p2 H8 hw2 k8 f8 h8 => ⟨two_ln (by show 2 ≤ _; decide), fun pt hpt => ?_⟩⟩
          obtain ⟨m, m1, m2, m3⟩ := Tm.way_foot ok jo ha hb hc hw hw1 hw2
          have k8' : Same H (upd H8 pt (.tup [.ref p1, .ref p2])) := k5.trans (k6.trans (k7.trans (k8.trans (upd_grow hpt))))
          have h6' : upd H8 pt (.tup [.ref p1, .ref p2]) pl = some (.lst (natV l)) := upd_grow hpt _ _ (k8 _ _ (k7 _ _ h6))
          have h7' : upd H8 pt (.tup [.ref p1, .ref p2]) p1 = some (.lst (natV l1)) := upd_grow hpt _ _ (k8 _ _ h7)
          have h8' : upd H8 pt (.tup [.ref p1, .ref p2]) p2 = some (.lst (natV l2)) := upd_grow hpt _ _ h8
          refine ⟨pt, _, rfl, SqT.of upd_same, rfl, _, _, rfl, _, _, rfl, rfl, ?_⟩
          generalize upd H8 pt (.tup [.ref p1, .ref p2]) = H9 at k8' h6' h7' h8'
          refine ⟨_, rfl, pl, rfl, ⟨_, SqL.of h6'⟩, fun D2 hD2 => ?_⟩
          have ll := (Tm.way_path ok jo ha hb hw).1.nd
          have lb := Tm.nodup_len ll (Tm.way_path ok jo ha hb hw).2
          let fp : Nat → Bool := fun i => decide (l.getD i 0 ∈ l1) && decide (l.getD i 0 ∈ l2)
          have ln : (natV l).length = l.length := by simp [natV]
          refine lc_gen walk_list fp (fun i y _ => y = V.int (l.getD i 0 : Nat)) (fun _ _ _ _ _ h => h) hD2 (by rw [ln]; omega) (fun H' k => SqL.of (del_sub k _ _ h6')) ?_ ?_
          · rintro i x H0 HB K1 N1 hi k4 ⟨o, ho⟩ ⟨rfl, hx⟩ hK hN
            obtain ⟨li, rfl⟩ := nat_get hx
            have kx := del_sub k4
            have gd : l.getD i 0 = l[i] := by rw [List.getD_eq_getElem?_getD, List.getElem?_eq_getElem li]; rfl
            refine ⟨rfl, _, rfl, _, rfl, p1, natV l1, rfl, .inl (SqL.of (kx _ _ h7')), rfl, natV_flat _, _, rfl, iteB (fun e => ?_) fun e => ?_⟩
            · rw [if_neg (by decide), natV_in] at e
              refine ⟨_, rfl, _, rfl, p2, natV l2, rfl, .inl (SqL.of (kx _ _ h8')), rfl, natV_flat _, _, rfl, iteB (fun e2 => ?_) fun e2 => ?_⟩
              · rw [if_neg (by decide), natV_in] at e2
                exact ⟨_, rfl, hK (by simp only [fp, gd, e, e2, Bool.and_self]) _ _ (Same.refl _) (by rw [gd])⟩
              · rw [if_neg (by decide), natV_in] at e2
                exact hN (by simp only [fp, gd, e2, Bool.and_false]) _ (Same.refl _)
            · rw [if_neg (by decide), natV_in] at e
              exact hN (by simp only [fp, gd, e, Bool.false_and]) _ (Same.refl _)
          · intro ys HB k4 h4 l4 r4
            rw [ln] at l4 r4
            have eys : ys = ((List.range l.length).filter fp).map (fun i => V.int (l.getD i 0 : Nat)) := map_of l4 r4
            have el : l = (List.range l.length).map fun i => l.getD i 0 := by
              have := take_map (l := l) (z := 0) (Nat.le_refl _)
              rwa [List.take_length] at this
            have m4 : (((List.range l.length).filter fp).map fun i => l.getD i 0).head? = some m := by
              rw [← m2]
              conv => rhs; rw [el]
              rw [List.filter_map]
              rfl
            cases ef : (List.range l.length).filter fp with
            | nil => rw [ef] at m4; cases m4
            | cons i is =>
              rw [ef] at m4 eys
              have em : l.getD i 0 = m := by simpa using m4
              have kx := del_sub k4
              refine ixAt (v := .int (m : Nat)) h4 (by rw [eys]; exact atI_nat (j := 0) (by rw [← em]; rfl)) ⟨two_ln (by show 2 ≤ _; decide), fun pr hpr => ?_⟩
              exact q pr _ _ (k8'.trans (kx.trans (upd_grow hpr))) (.foot rfl rfl rfl hw hw1 m1) (.lst upd_same (.cons (.str _) (.cons (.int _) .nil)))
end
end K02

namespace L2
open PySem PySem.Spec PyProof.Rows
/-- arguments in another order -/
def pick (is : List Nat) {α : Type} (us ws : List α) : List α := is.filterMap fun i => (us ++ ws)[i]?
theorem vals_get : ∀ {xs : List V} {us : List Value} (i : Nat), Vals xs us → (xs[i]? = none ∧ us[i]? = none) ∨ ∃ x u, xs[i]? = some x ∧ us[i]? = some u ∧ RelV x u
  | _, _, _, .nil => .inl ⟨rfl, rfl⟩
  | _, _, 0, .cons r _ => .inr ⟨_, _, rfl, rfl, r⟩
  | _, _, i + 1, .cons _ t => by
    rw [List.getElem?_cons_succ, List.getElem?_cons_succ]
    exact vals_get i t
theorem pick_rel (is : List Nat) {vs zs : List V} {us ws : List Value} (r : Vals vs us) (q : Vals zs ws) : Vals (pick is vs zs) (pick is us ws) := by
  have a := rel_app r q
  unfold pick
  induction is with
  | nil => exact .nil
  | cons i is ih =>
    rw [List.filterMap_cons, List.filterMap_cons]
    rcases vals_get i a with ⟨h1, h2⟩ | ⟨x, u, h1, h2, h3⟩
    · rw [h1, h2]
      exact ih
    · rw [h1, h2]
      exact .cons h3 ih
end L2
namespace K02
open PySem PySem.Spec PyProof.Rows L2
abbrev sLTold : Stmt := top 38
theorem scLTold : FnScope ["tree", "word", "things", "by_name", "a", "b", "c", "e"] ["tree", "word", "things", "by_name"] (defScope sLTold) := ⟨rfl, rfl, rfl, by decide +kernel, rfl, by decide +kernel, by decide +kernel⟩
/-- a class of errors as the clauses want it -/
structure ErrK (K : PySem.W.Frag) (mg : Str → Option Value) (x : Str) : Prop where
  g : mg x = some (.ref (He.ga K x))
  exm : PySem.W.exmOne K (.ref (He.ga K x)) (.ref (He.ga K x)) = some true
  X : XfC K (He.ga K x)
/-- the clause for a house -/
def Ts1 (K : PySem.W.Frag) (a : Addr) (cls : Value) (d : Option Addr) : TS := fun D σ H => ∃ (v : V) (dd : Addr), σ[7]? = some (some (.ref a)) ∧ cls = .ref (He.ga K "InvalidHouse") ∧ d = some dd ∧ H dd = some (.xd [("given", v)]) ∧
  ∀ p, H p = none → D.rt (.ref p) (upd H p (.lst [.str "house", v]))
/-- the clause for a road -/
def Ts2 (K : PySem.W.Frag) (a : Addr) (cls : Value) (d : Option Addr) : TS := fun D σ H => ∃ (u v : V) (dd : Addr), σ[7]? = some (some (.ref a)) ∧ cls = .ref (He.ga K "NotARoad") ∧ d = some dd ∧ H dd = some (.xd [("v", v), ("u", u)]) ∧
  ∀ p, H p = none → D.rt (.ref p) (upd H p (.lst [.str "road", u, v]))
def spLTold (K : PySem.W.Frag) : Sp := fun vs H Q _ => ∃ (t q : Addr) (n w : Nat) (rs : List Tm.Road) (x0 x1 x2 : V) (d0 d1 d2 : PyData) (by_name : Bool), vs = [.ref t, .int w, .ref q, .bl by_name] ∧ TreeAt K H t n rs ∧ w < 5 ∧ H q = some (.lst [x0, x1, x2]) ∧
  Rdd H x0 d0 ∧ Rdd H x1 d1 ∧ Rdd H x2 d2 ∧
  (∀ r i H', Same H H' → i < useds w → belowD n ([d0, d1, d2].getD i .none) = false → (∀ j, j < i → belowD n ([d0, d1, d2].getD j .none) = true) → H' r = some (.lst [.str "house", [x0, x1, x2].getD i .non]) → Q (.ref r) H') ∧
  (∀ r h x rest D H', Same H H' → firstBad n w [d0, d1, d2] = none → Told n rs w [d0, d1, d2] D → H' r = some (.lst (h :: x :: rest)) → Rdd H' (.ref r) D → (∀ a ys, x = .ref a → H' a = some (.lst ys) → H a = none) → Q (.ref r) H')
section
variable {P : Program} {w : World} {K : PySem.W.Frag} {mg : Str → Option Value} {base : Heap} {f : Addr} {fd : FuncData}
theorem ok_told (F : Fd K "_law_told" sLTold f fd) (g : mg "_law_told" = some (.ref f)) (B : Bl mg) (E1 : ErrK K mg "InvalidHouse") (E2 : ErrK K mg "NotARoad") (n1 : PySem.W.findIn K (.ref (He.ga K "InvalidHouse")) "given" = some none)
    (n2 : PySem.W.findIn K (.ref (He.ga K "NotARoad")) "u" = some none) (n3 : PySem.W.findIn K (.ref (He.ga K "NotARoad")) "v" = some none) (x21 : PySem.W.exmOne K (.ref (He.ga K "NotARoad")) (.ref (He.ga K "InvalidHouse")) = some false)
    (o_neighbours : Ok P w K mg base (L2N.CX P w) 4 "neighbours" sNeigh ["tree", "house"] (spNeigh K)) (o_way : Ok P w K mg base (L2N.CX P w) 4 "way" sWayS ["tree", "a", "b"] (spWay K)) (o_on_way : Ok P w K mg base (L2N.CX P w) 5 "on_way" sOnWay ["tree", "a", "b", "house"] (spOnWay K))
    (o_side : Ok P w K mg base (L2N.CX P w) 5 "side" sSideS ["tree", "u", "v"] (spSide K)) (o_foot : Ok P w K mg base (L2N.CX P w) 5 "foot" sFootS ["tree", "a", "b", "house"] (spFoot K)) :
    Ok P w K mg base CX0 6 "_law_told" sLTold ["tree", "word", "things", "by_name"] (spLTold K) := by
  refine ⟨f, fd, g, F, F.bindsN fun _ _ _ _ _ _ us hl => match us, hl with | [_, _, _, _], _ => rfl, F.ok scLTold (fun vs H Q E h => ?_) (fun cdv A outer s H vs Q E hr h => ?_)⟩
  · obtain ⟨t, q, n, w, rs, x0, x1, x2, d0, d1, d2, bn, rfl, _⟩ := h
    rfl
  · refine ⟨_, pss_cons (ps_asg (pv 2) (pg_unl rfl (pgs_cons (pg_name (i := 4) scLTold.nd rfl (Or.inl rfl)) (pgs_cons (pg_name (i := 5) scLTold.nd rfl (Or.inl rfl)) (pgs_cons (pg_name (i := 6) scLTold.nd rfl (Or.inl rfl)) pgs_nil)))))
      (pss_one (L2N.ps_try_manyAs (Wout := fun _ _ _ _ => False) (l := [(.ref (He.ga K "InvalidHouse"), 7, Ts1 K), (.ref (He.ga K "NotARoad"), 7, Ts2 K)]) rfl rfl scLTold.nd takes_none
        (fun W pn xe tk _ => (pss_cons (ps_if (pt_cmpR op_eq (pv 1) pe_int (nomark _))
          (pss_one (ps_ret (pe_lst (pa_cons pe_str (pa_cons (pe_ifExp (pt_val (pv 3)) (pe_oK0 o_neighbours (hr.mono (by decide)) (by rfl) (fun f fd F => F.kbn0 0 ["tree", "house"] (pick [0, 1]) (pick_rel [0, 1]) fun _ _ _ _ _ _ us ws l1 l2 => match us, ws, l1, l2 with | [], [_, _], _, _ => rfl) (fun σ => L2N.passAt tk σ) (pk_cons (pv 0) (pk_cons (pv 4) pk_nil))) (pe_oS o_neighbours (hr.mono (by decide)) (by rfl) (fun σ => L2N.passAt tk σ) (pa_cons (pv 0) (pa_cons (pv 4) pa_nil)))) pa_nil)))))
          pss_nil)
        (pss_cons (ps_if (pt_cmpR op_eq (pv 1) pe_int (nomark _))
          (pss_one (ps_ret (pe_lst (pa_cons pe_str (pa_cons (pe_ifExp (pt_val (pv 3)) (pe_oK0 o_way (hr.mono (by decide)) (by rfl) (fun f fd F => F.kbn0 0 ["b", "tree", "a"] (pick [1, 2, 0]) (pick_rel [1, 2, 0]) fun _ _ _ _ _ _ us ws l1 l2 => match us, ws, l1, l2 with | [], [_, _, _], _, _ => rfl) (fun σ => L2N.passAt tk σ) (pk_cons (pv 5) (pk_cons (pv 0) (pk_cons (pv 4) pk_nil)))) (pe_oS o_way (hr.mono (by decide)) (by rfl) (fun σ => L2N.passAt tk σ) (pa_cons (pv 0) (pa_cons (pv 4) (pa_cons (pv 5) pa_nil))))) pa_nil)))))
          pss_nil)
        (pss_cons (ps_if (pt_cmpR op_eq (pv 1) pe_int (nomark _))
          (pss_one (ps_ret (pe_lst (pa_cons pe_str (pa_cons (pe_ifExp (pt_val (pv 3)) (pe_oK o_on_way (hr.mono (by decide)) (by rfl) (fun f fd F => F.kbn0 1 ["house", "b", "a"] (pick [0, 3, 2, 1]) (pick_rel [0, 3, 2, 1]) fun _ _ _ _ _ _ us ws l1 l2 => match us, ws, l1, l2 with | [_], [_, _, _], _, _ => rfl) (fun σ => L2N.passAt tk σ) (pa_cons (pv 0) pa_nil) (pk_cons (pv 6) (pk_cons (pv 5) (pk_cons (pv 4) pk_nil)))) (pe_oS o_on_way (hr.mono (by decide)) (by rfl) (fun σ => L2N.passAt tk σ) (pa_cons (pv 0) (pa_cons (pv 4) (pa_cons (pv 5) (pa_cons (pv 6) pa_nil)))))) pa_nil)))))
          pss_nil)
        (pss_cons (ps_if (pt_cmpR op_eq (pv 1) pe_int (nomark _))
          (pss_one (ps_ret (pe_lst (pa_cons pe_str (pa_cons (pe_ifExp (pt_val (pv 3)) (pe_oK0 o_side (hr.mono (by decide)) (by rfl) (fun f fd F => F.kbn0 0 ["tree", "v", "u"] (pick [0, 2, 1]) (pick_rel [0, 2, 1]) fun _ _ _ _ _ _ us ws l1 l2 => match us, ws, l1, l2 with | [], [_, _, _], _, _ => rfl) (fun σ => L2N.passAt tk σ) (pk_cons (pv 0) (pk_cons (pv 5) (pk_cons (pv 4) pk_nil)))) (pe_oS o_side (hr.mono (by decide)) (by rfl) (fun σ => L2N.passAt tk σ) (pa_cons (pv 0) (pa_cons (pv 4) (pa_cons (pv 5) pa_nil))))) pa_nil)))))
          pss_nil)
        (pss_one (ps_ret (pe_lst (pa_cons pe_str (pa_cons (pe_ifExp (pt_val (pv 3)) (pe_oK o_foot (hr.mono (by decide)) (by rfl) (fun f fd F => F.kbn0 2 ["house", "b"] (pick [0, 1, 3, 2]) (pick_rel [0, 1, 3, 2]) fun _ _ _ _ _ _ us ws l1 l2 => match us, ws, l1, l2 with | [_, _], [_, _], _, _ => rfl) (fun σ => L2N.passAt tk σ) (pa_cons (pv 0) (pa_cons (pv 4) pa_nil)) (pk_cons (pv 6) (pk_cons (pv 5) pk_nil))) (pe_oS o_foot (hr.mono (by decide)) (by rfl) (fun σ => L2N.passAt tk σ) (pa_cons (pv 0) (pa_cons (pv 4) (pa_cons (pv 5) (pa_cons (pv 6) pa_nil)))))) pa_nil))))))))))
        (.cons ⟨by rfl, by decide, .inl E1.g⟩ rfl rfl (fun a oe cls d pn hz hv => ?_) (.cons ⟨by rfl, by decide, .inl E2.g⟩ rfl rfl (fun a oe cls d pn hz hv => ?_) .nil)))), ?_⟩
    · have hps : ∀ q ∈ [(a, oe)], q ∈ ((cxOf CX0 P w K mg base ["tree", "word", "things", "by_name", "a", "b", "c", "e"] "_law_told" (defScope sLTold) f cdv A outer s H E).suite a ((a, oe) :: pn)).pn := fun q hq => by
        rw [List.mem_singleton.mp hq]
        exact List.mem_cons_self
      refine pss_mono (pss_one (ps_ret (pe_lst (pa_cons pe_str (pa_cons (pe_evF hps (pv 7)) pa_nil))))) fun D σ H1 h => ?_
      obtain ⟨v, dd, h7, rfl, rfl, hdd, fin⟩ := h
      exact ⟨_, h7, a, _, dd, _, v, rfl, ⟨.inr ⟨oe, List.mem_cons_self, hz.1, hz.2.1, hv⟩, .inr hdd⟩, E1.X, n1, rfl, two_ln (by show 2 ≤ _; decide), fun p hp => fin p hp⟩
    · have hps : ∀ q ∈ [(a, oe)], q ∈ ((cxOf CX0 P w K mg base ["tree", "word", "things", "by_name", "a", "b", "c", "e"] "_law_told" (defScope sLTold) f cdv A outer s H E).suite a ((a, oe) :: pn)).pn := fun q hq => by
        rw [List.mem_singleton.mp hq]
        exact List.mem_cons_self
      refine pss_mono (pss_one (ps_ret (pe_lst (pa_cons pe_str (pa_cons (pe_evF hps (pv 7)) (pa_cons (pe_evF hps (pv 7)) pa_nil)))))) fun D σ H1 h => ?_
      obtain ⟨u, v, dd, h7, rfl, rfl, hdd, fin⟩ := h
      exact ⟨_, h7, a, _, dd, _, u, rfl, ⟨.inr ⟨oe, List.mem_cons_self, hz.1, hz.2.1, hv⟩, .inr hdd⟩, E2.X, n2, rfl, _, h7, a, _, dd, _, v, rfl, ⟨.inr ⟨oe, List.mem_cons_self, hz.1, hz.2.1, hv⟩, .inr hdd⟩, E2.X, n3, rfl, two_ln (by show 3 ≤ _; decide), fun p hp => fin p hp⟩
    · obtain ⟨t, qa, n, w, rs, x0, x1, x2, d0, d1, d2, bn, rfl, T, w5, hq, r0, r1, r2, qh, qt⟩ := h
      refine ⟨_, rfl, qa, _, rfl, SqL.of hq, rfl, _, _, rfl, _, _, rfl, _, _, rfl, rfl, ?_⟩
      dsimp only [gName, tSeq, gNil, L2.start]
      have house : ∀ {D : Ends} {H1 : Hp} (i : Nat), D.rt = Q → Same H H1 → i < useds w → (∀ j, j < i → belowD n ([d0, d1, d2].getD j .none) = true) → belowD n ([d0, d1, d2].getD i .none) = false →
          Refuses K "InvalidHouse" "given" ([x0, x1, x2].getD i .non) H1 fun cls d H' => L2N.wManyAs K (fun _ _ _ _ => False) D [(.ref (He.ga K "InvalidHouse"), 7, Ts1 K), (.ref (He.ga K "NotARoad"), 7, Ts2 K)] cls d
            [some (.ref t), some (.int w), some (.ref qa), some (.bl bn), some x0, some x1, some x2, none] H' := by
        intro D H1 i eD k1 hi hb nb d H2 k2 h2
        refine ⟨true, E1.exm, fun _ a ha => ⟨_, d, rfl, rfl, rfl, h2, fun p hp => ?_⟩, fun z => nomatch z⟩
        show D.rt _ _
        rw [eD]
        exact qh p i _ (k1.trans (k2.trans (upd_grow hp))) hi nb hb upd_same
      have road : ∀ {D : Ends} {H1 : Hp} {u v : V}, D.rt = Q → Same H H1 → (∀ p H', Same H H' → H' p = some (.lst [.str "road", u, v]) → Q (.ref p) H') →
          Refuses2 K "NotARoad" "u" "v" u v H1 fun cls d H' => L2N.wManyAs K (fun _ _ _ _ => False) D [(.ref (He.ga K "InvalidHouse"), 7, Ts1 K), (.ref (He.ga K "NotARoad"), 7, Ts2 K)] cls d
            [some (.ref t), some (.int w), some (.ref qa), some (.bl bn), some x0, some x1, some x2, none] H' := by
        intro D H1 u v eD k1 fin d H2 k2 h2
        refine ⟨false, x21, fun z => (nomatch z), fun _ => ⟨true, E2.exm, fun _ a ha => ⟨u, v, d, rfl, rfl, rfl, h2, fun p hp => ?_⟩, fun z => nomatch z⟩⟩
        show D.rt _ _
        rw [eD]
        exact fin p _ (k1.trans (k2.trans (upd_grow hp))) upd_same
      have five : w = 0 ∨ w = 1 ∨ w = 2 ∨ w = 3 ∨ w = 4 := by omega
      have fb : (∀ i, i < useds w → belowD n ([d0, d1, d2].getD i .none) = true) → firstBad n w [d0, d1, d2] = none := fun h => by
        unfold firstBad
        rw [take_map (z := .none) (by show useds w ≤ 3; unfold useds; split <;> omega), List.find?_map, Option.map_eq_none_iff, List.find?_eq_none]
        intro i hi
        have := h i (List.mem_range.mp hi)
        simp only [Function.comp_apply, this]
        decide
      have bel : ∀ {a : Nat}, a < n → belowD n (.int a) = true := fun {a} ha => by
        simp only [belowD, Bool.and_eq_true, decide_eq_true_eq]
        omega
      have XD : ∀ i, Rdd H ([x0, x1, x2].getD i .non) ([d0, d1, d2].getD i .none) := fun i => by
        match i with
        | 0 => exact r0
        | 1 => exact r1
        | 2 => exact r2
        | i + 3 => exact .non
      have one : ∀ {D : Ends} {W : Nat → Prop} (i : Nat), D.rt = Q → i < useds w → (∀ j, j < i → belowD n ([d0, d1, d2].getD j .none) = true) → (∀ a : Nat, a < n → [x0, x1, x2].getD i .non = .int a → [d0, d1, d2].getD i .none = .int a → W a) →
          One1 K H n ([x0, x1, x2].getD i .non) ([d0, d1, d2].getD i .none) (fun cls d H' => L2N.wManyAs K (fun _ _ _ _ => False) D [(.ref (He.ga K "InvalidHouse"), 7, Ts1 K), (.ref (He.ga K "NotARoad"), 7, Ts2 K)] cls d
            [some (.ref t), some (.int w), some (.ref qa), some (.bl bn), some x0, some x1, some x2, none] H') W :=
        fun {D W} i e hi hb k => ⟨XD i, house i e (Same.refl _) hi hb, k⟩
      have tail : ∀ {x : V} {D' : PyData} {H1 : Hp}, Same H H1 → (∀ i, i < useds w → belowD n ([d0, d1, d2].getD i .none) = true) → Told n rs w [d0, d1, d2] (.list [.str "told", D']) → Rdd H1 x D' → (∀ a ys, x = .ref a → H1 a = some (.lst ys) → H a = none) →
          [V.str "told", x].length ≤ sizeLine ∧ ∀ pr, H1 pr = none → Q (.ref pr) (upd H1 pr (.lst [.str "told", x])) := fun {x D' H1} k hb td rx fr => ⟨two_ln (by show 2 ≤ _; decide), fun pr hpr => by
        refine qt pr (.str "told") x [] _ _ (k.trans (upd_grow hpr)) (fb hb) td upd_same (.lst upd_same (.cons (.str _) (.cons (rx.mono (upd_grow hpr)) .nil))) fun a ys e z => ?_
        by_cases c : a = pr
        · rw [c]
          exact fresh_of k hpr
        · rw [upd_ne c] at z
          exact fr a ys e z⟩
      have no0 : ∀ j, j < 0 → belowD n ([d0, d1, d2].getD j .none) = true := fun j hj => absurd hj (Nat.not_lt_zero _)
      have no1 : ∀ {a : Nat}, a < n → d0 = .int a → ∀ j, j < 1 → belowD n ([d0, d1, d2].getD j .none) = true := fun {a} ha e j hj => by
        obtain rfl : j = 0 := by omega
        show belowD n d0 = true
        rw [e]
        exact bel ha
      have no2 : ∀ {a b : Nat}, a < n → d0 = .int a → b < n → d1 = .int b → ∀ j, j < 2 → belowD n ([d0, d1, d2].getD j .none) = true := fun {a b} ha e hb e2 j hj => by
        match j, hj with
        | 0, _ =>
          show belowD n d0 = true
          rw [e]
          exact bel ha
        | 1, _ =>
          show belowD n d1 = true
          rw [e2]
          exact bel hb
      have no3 : ∀ {a b c : Nat}, a < n → d0 = .int a → b < n → d1 = .int b → c < n → d2 = .int c → ∀ j, j < 3 → belowD n ([d0, d1, d2].getD j .none) = true := fun {a b c} ha e hb e2 hc e3 j hj => by
        match j, hj with
        | 0, _ =>
          show belowD n d0 = true
          rw [e]
          exact bel ha
        | 1, _ =>
          show belowD n d1 = true
          rw [e2]
          exact bel hb
        | 2, _ =>
          show belowD n d2 = true
          rw [e3]
          exact bel hc
      have so : ∀ {d : PyData} {a : Nat}, d = .int a → some d = some (PyData.int a) := fun e => congrArg some e
      have nolist : ∀ {H1 : Hp} {p : Addr} {zs : List V}, H1 p = some (.tup zs) → ∀ a ys, V.ref p = .ref a → H1 a = some (.lst ys) → H a = none := fun h a ys e z => by
        cases e
        rw [h] at z
        cases z
      have rk : ∀ {H' : Hp} (ks : List Int), RddAll H' (ks.map V.int) (ks.map PyData.int) := fun {H'} ks => by
        induction ks with
        | nil => exact .nil
        | cons x ks ih => exact .cons (.int _) ih
      rcases five with rfl | rfl | rfl | rfl | rfl
      · refine ⟨_, rfl, rfl, _, rfl, iteT ⟨_, rfl, bn, rfl, ?_⟩⟩
        cases bn with
        | true => exact iteT ⟨_, rfl, _, rfl, rfl, rfl, t, n, rs, x0, d0, rfl, T, one 0 rfl (by decide) no0 fun a ha ea ed p hp => tail (upd_grow hp) (no1 ha ed) (.nei (so ed) ha) (.lst upd_same (nat_rdd _)) fun a' ys e z => by cases e; exact hp⟩
        | false => exact iteF ⟨_, rfl, _, rfl, t, n, rs, x0, d0, rfl, T, one 0 rfl (by decide) no0 fun a ha ea ed p hp => tail (upd_grow hp) (no1 ha ed) (.nei (so ed) ha) (.lst upd_same (nat_rdd _)) fun a' ys e z => by cases e; exact hp⟩
      · refine ⟨_, rfl, rfl, _, rfl, iteF ⟨_, rfl, rfl, _, rfl, iteT ⟨_, rfl, bn, rfl, ?_⟩⟩⟩
        cases bn with
        | true => exact iteT ⟨_, rfl, _, rfl, _, rfl, rfl, rfl, t, n, rs, x0, x1, d0, d1, rfl, T, one 0 rfl (by decide) no0 fun a ha ea ed => one 1 rfl (by decide) (no1 ha ed) fun b hb eb ed2 l p H1 hw k1 hp => tail k1 (no2 ha ed hb ed2) (.way (so ed) (so ed2) hw) (.tup hp (nat_rdd _)) (nolist hp)⟩
        | false => exact iteF ⟨_, rfl, _, rfl, _, rfl, t, n, rs, x0, x1, d0, d1, rfl, T, one 0 rfl (by decide) no0 fun a ha ea ed => one 1 rfl (by decide) (no1 ha ed) fun b hb eb ed2 l p H1 hw k1 hp => tail k1 (no2 ha ed hb ed2) (.way (so ed) (so ed2) hw) (.tup hp (nat_rdd _)) (nolist hp)⟩
      · refine ⟨_, rfl, rfl, _, rfl, iteF ⟨_, rfl, rfl, _, rfl, iteF ⟨_, rfl, rfl, _, rfl, iteT ⟨_, rfl, bn, rfl, ?_⟩⟩⟩⟩
        cases bn with
        | true => exact iteT ⟨_, rfl, _, rfl, _, rfl, _, rfl, rfl, rfl, t, n, rs, x0, x1, x2, d0, d1, d2, rfl, T, one 0 rfl (by decide) no0 fun a ha ea ed => one 1 rfl (by decide) (no1 ha ed) fun b hb eb ed2 => one 2 rfl (by decide) (no2 ha ed hb ed2) fun c hc ec ed3 l H1 hw k1 => tail k1 (no3 ha ed hb ed2 hc ed3) (.on (so ed) (so ed2) (so ed3) hw) (.bl _) (fun a ys e => nomatch e)⟩
        | false => exact iteF ⟨_, rfl, _, rfl, _, rfl, _, rfl, t, n, rs, x0, x1, x2, d0, d1, d2, rfl, T, one 0 rfl (by decide) no0 fun a ha ea ed => one 1 rfl (by decide) (no1 ha ed) fun b hb eb ed2 => one 2 rfl (by decide) (no2 ha ed hb ed2) fun c hc ec ed3 l H1 hw k1 => tail k1 (no3 ha ed hb ed2 hc ed3) (.on (so ed) (so ed2) (so ed3) hw) (.bl _) (fun a ys e => nomatch e)⟩
      · refine ⟨_, rfl, rfl, _, rfl, iteF ⟨_, rfl, rfl, _, rfl, iteF ⟨_, rfl, rfl, _, rfl, iteF ⟨_, rfl, rfl, _, rfl, iteT ⟨_, rfl, bn, rfl, ?_⟩⟩⟩⟩⟩
        have bad : ∀ {a b : Nat}, a < n → x0 = .int a → d0 = .int a → b < n → x1 = .int b → d1 = .int b → b ∉ Tm.near rs a → ∀ p H', Same H H' → H' p = some (.lst [.str "road", x0, x1]) → Q (.ref p) H' := fun {a b} ha ea ed hb eb ed2 nm p H' k h => by
          refine qt p (.str "road") x0 [x1] _ H' k (fb (no2 ha ed hb ed2)) (.no (so ed) (so ed2) nm) h (.lst h (.cons (.str _) (.cons ?_ (.cons ?_ .nil)))) fun a ys e => ?_
          · rw [ea]; exact .int _
          · rw [eb]; exact .int _
          · rw [ea] at e; cases e
        cases bn with
        | true => exact iteT ⟨_, rfl, _, rfl, _, rfl, rfl, rfl, t, n, rs, x0, x1, d0, d1, rfl, T, one 0 rfl (by decide) no0 fun a ha ea ed => one 1 rfl (by decide) (no1 ha ed) fun b hb eb ed2 =>
            ⟨fun nm => road rfl (Same.refl _) (bad ha ea ed hb eb ed2 nm), fun mm r ks p H1 dd pm srt k1 fp hp => tail k1 (no2 ha ed hb ed2) (.side (so ed) (so ed2) mm dd pm srt) (.lst hp (rk _)) fun a' ys e z => by cases e; exact fp⟩⟩
        | false => exact iteF ⟨_, rfl, _, rfl, _, rfl, t, n, rs, x0, x1, d0, d1, rfl, T, one 0 rfl (by decide) no0 fun a ha ea ed => one 1 rfl (by decide) (no1 ha ed) fun b hb eb ed2 =>
            ⟨fun nm => road rfl (Same.refl _) (bad ha ea ed hb eb ed2 nm), fun mm r ks p H1 dd pm srt k1 fp hp => tail k1 (no2 ha ed hb ed2) (.side (so ed) (so ed2) mm dd pm srt) (.lst hp (rk _)) fun a' ys e z => by cases e; exact fp⟩⟩
      · refine ⟨_, rfl, rfl, _, rfl, iteF ⟨_, rfl, rfl, _, rfl, iteF ⟨_, rfl, rfl, _, rfl, iteF ⟨_, rfl, rfl, _, rfl, iteF ⟨_, rfl, bn, rfl, ?_⟩⟩⟩⟩⟩
        cases bn with
        | true => exact iteT ⟨_, rfl, _, rfl, _, rfl, _, rfl, rfl, rfl, t, n, rs, x0, x1, x2, d0, d1, d2, rfl, T, one 0 rfl (by decide) no0 fun a ha ea ed => one 1 rfl (by decide) (no1 ha ed) fun b hb eb ed2 => one 2 rfl (by decide) (no2 ha ed hb ed2) fun c hc ec ed3 L M m H1 hw hw2 hm k1 => tail k1 (no3 ha ed hb ed2 hc ed3) (.foot (so ed) (so ed2) (so ed3) hw hw2 hm) (.int _) (fun a ys e => nomatch e)⟩
        | false => exact iteF ⟨_, rfl, _, rfl, _, rfl, _, rfl, t, n, rs, x0, x1, x2, d0, d1, d2, rfl, T, one 0 rfl (by decide) no0 fun a ha ea ed => one 1 rfl (by decide) (no1 ha ed) fun b hb eb ed2 => one 2 rfl (by decide) (no2 ha ed hb ed2) fun c hc ec ed3 L M m H1 hw hw2 hm k1 => tail k1 (no3 ha ed hb ed2 hc ed3) (.foot (so ed) (so ed2) (so ed3) hw hw2 hm) (.int _) (fun a ys e => nomatch e)⟩
end
end K02

namespace K02
open PySem PySem.Spec PyProof.Rows L2
/-- data with bounds -/
structure Nc (k m : Nat) (d : PyData) : Prop where
  a : asc d = true
  s : d.showable = true
  h : d.depth ≤ k
  w : wt d ≤ m
theorem Nc.tame {k m : Nat} {d : PyData} (n : Nc k m d) (hk : k ≤ 32 := by decide) (hm : m ≤ 1000000 := by decide) : Tame d := ⟨n.a, n.s, Nat.le_trans n.h hk, Nat.le_trans n.w hm⟩
theorem Nc.up {k m k' m' : Nat} {d : PyData} (n : Nc k m d) (hk : k ≤ k' := by decide) (hm : m ≤ m' := by decide) : Nc k' m' d := ⟨n.a, n.s, Nat.le_trans n.h hk, Nat.le_trans n.w hm⟩
theorem nc_all {k m : Nat} : ∀ {ds : List PyData}, (∀ d ∈ ds, Nc k m d) → ascAll ds = true ∧ PyData.showableAll ds = true ∧ PyData.depthAll ds ≤ k ∧ wtAll ds ≤ ds.length * (m + 2)
  | [], _ => ⟨rfl, rfl, Nat.zero_le _, Nat.zero_le _⟩
  | d :: ds, h => by
    obtain ⟨h1, h2, h3, h4⟩ := h d List.mem_cons_self
    obtain ⟨i1, i2, i3, i4⟩ := nc_all fun e he => h e (List.mem_cons_of_mem _ he)
    refine ⟨?_, ?_, ?_, ?_⟩
    · simp only [ascAll]
      rw [h1, i1] <;> rfl
    · simp only [PyData.showableAll]
      rw [h2, i2] <;> rfl
    · simp only [PyData.depthAll]
      omega
    · simp only [wtAll, List.length_cons]
      rw [Nat.add_mul]
      omega
theorem nc_list {k m l : Nat} {ds : List PyData} (h : ∀ d ∈ ds, Nc k m d) (hl : ds.length ≤ l) : Nc (k + 1) (l * (m + 2) + 3) (.list ds) := by
  obtain ⟨i1, i2, i3, i4⟩ := nc_all h
  have y : ds.length * (m + 2) ≤ l * (m + 2) := Nat.mul_le_mul_right _ hl
  exact ⟨by simp only [asc]; exact i1, by simp only [PyData.showable]; exact i2, by simp only [PyData.depth]; omega, by simp only [wt]; omega⟩
theorem nc_tup {k m l : Nat} {ds : List PyData} (h : ∀ d ∈ ds, Nc k m d) (hl : ds.length ≤ l) : Nc (k + 1) (l * (m + 2) + 3) (.tuple ds) := by
  obtain ⟨i1, i2, i3, i4⟩ := nc_all h
  have y : ds.length * (m + 2) ≤ l * (m + 2) := Nat.mul_le_mul_right _ hl
  exact ⟨by simp only [asc]; exact i1, by simp only [PyData.showable]; exact i2, by simp only [PyData.depth]; omega, by simp only [wt]; omega⟩
theorem nat_small : ∀ x : Nat, x < 70 → asc (.int (x : Int)) = true ∧ PyData.showable (.int (x : Int)) = true ∧ wt (.int (x : Int)) ≤ 3 := by decide +kernel
theorem nc_nat {x : Nat} (h : x < 70) : Nc 0 40 (.int (x : Int)) := ⟨(nat_small x h).1, (nat_small x h).2.1, Nat.le_refl _, Nat.le_trans (nat_small x h).2.2 (by decide)⟩
theorem nc_big : Nc 0 40 (.int (10 ^ 19)) ∧ Nc 0 40 (.int (-10 ^ 19)) ∧ Nc 0 40 (.int (-1)) := by
  refine ⟨⟨?_, ?_, ?_, ?_⟩, ⟨?_, ?_, ?_, ?_⟩, ⟨?_, ?_, ?_, ?_⟩⟩ <;> decide +kernel
theorem nc_bool (b : Bool) : Nc 0 40 (.bool b) := by
  cases b <;> exact ⟨rfl, rfl, Nat.le_refl _, by decide⟩
theorem nc_bad {n : Nat} (h : n ≤ 64) {d : PyData} (m : d ∈ bads n) : Nc 1 60 d := by
  unfold bads at m
  simp only [List.mem_cons, List.not_mem_nil, or_false] at m
  rcases m with rfl | rfl | rfl | rfl | rfl | rfl | rfl | rfl | rfl | rfl | rfl | rfl | rfl | rfl
  · exact (nc_nat (by omega)).up
  · exact nc_big.2.2.up
  · exact ⟨rfl, rfl, by decide, by decide⟩
  · exact (nc_bool _).up
  · exact (nc_bool _).up
  · exact ⟨by decide +kernel, rfl, by decide, by decide +kernel⟩
  · exact ⟨by decide +kernel, rfl, by decide, by decide +kernel⟩
  · exact ⟨by decide +kernel, by decide +kernel, by decide +kernel, by decide +kernel⟩
  · exact ⟨by decide +kernel, by decide +kernel, by decide +kernel, by decide +kernel⟩
  · exact ⟨by decide +kernel, by decide +kernel, by decide +kernel, by decide +kernel⟩
  · exact nc_big.1.up
  · exact nc_big.2.1.up
  · have := nc_nat (x := n + 5) (by omega)
    rw [Int.natCast_add] at this
    exact this.up
  · exact ⟨rfl, rfl, by decide, by decide⟩
theorem nc_tng {n : Nat} (h : n ≤ 64) {d : PyData} (t : Tng n d) : Nc 1 60 d := by
  rcases t with ⟨k, hk, rfl⟩ | m
  · exact (nc_nat (by omega)).up
  · exact nc_bad h m
theorem nc_nats {l : List Nat} (h : ∀ x ∈ l, x < 64) (hl : l.length ≤ 64) : Nc 1 3000 (.list (natD l)) ∧ Nc 1 3000 (.tuple (natD l)) := by
  have z : ∀ d ∈ natD l, Nc 0 40 d := fun d hd => by
    obtain ⟨x, hx, rfl⟩ := List.mem_map.mp hd
    exact nc_nat (by have := h x hx; omega)
  have y : (natD l).length ≤ 64 := by simpa [natD] using hl
  exact ⟨(nc_list z y).up, (nc_tup z y).up⟩
theorem nc_two {k m : Nat} {s : Str} {d : PyData} (hs : Nc 0 40 (.str s)) (h : Nc k m d) (hm : 40 ≤ m) : Nc (k + 1) (2 * (m + 2) + 3) (.list [.str s, d]) := nc_list (fun e he => by
  rcases List.mem_cons.mp he with rfl | he
  · exact ⟨hs.a, hs.s, Nat.le_trans hs.h (Nat.zero_le _), Nat.le_trans hs.w hm⟩
  · rw [List.mem_singleton.mp he]
    exact h) (Nat.le_refl _)
theorem nc_words : Nc 0 60 (.str "house") ∧ Nc 0 60 (.str "told") ∧ Nc 0 60 (.str "road") ∧ Nc 0 60 (.str "more") := by
  refine ⟨⟨?_, ?_, ?_, ?_⟩, ⟨?_, ?_, ?_, ?_⟩, ⟨?_, ?_, ?_, ?_⟩, ⟨?_, ?_, ?_, ?_⟩⟩ <;> decide +kernel
theorem nc_pair {k m : Nat} {s : Str} {d : PyData} (hs : Nc 0 60 (.str s)) (h : Nc k m d) (hm : 60 ≤ m) : Nc (k + 1) (2 * (m + 2) + 3) (.list [.str s, d]) := nc_list (fun e he => by
  rcases List.mem_cons.mp he with rfl | he
  · exact ⟨hs.a, hs.s, Nat.le_trans hs.h (Nat.zero_le _), Nat.le_trans hs.w hm⟩
  · rw [List.mem_singleton.mp he]
    exact h) (Nat.le_refl _)
theorem told_tame {n : Nat} {rs : List Tm.Road} {w : Nat} {ds : List PyData} {D : PyData} (ok : Tm.RoadsOk n rs) (jo : Tm.Joined n rs) (h64 : n ≤ 64) (td : ∀ d ∈ ds, Tng n d) (hb : ∀ i a, ds[i]? = some (.int (a : Nat)) → i < useds w → a < n) (h : Told n rs w ds D) : Tame D := by
  have lr := ok.len
  cases h with
  | nei h l =>
    refine (nc_pair nc_words.2.1 (nc_nats (fun x hx => ?_) ?_).1 (by decide)).tame
    · have := (Tm.near_lt ok.bnd hx).1
      omega
    · refine Nat.le_trans (near_len (n := n) _) (by omega)
  | way h h1 w =>
    obtain ⟨p, lt⟩ := Tm.way_path ok jo (hb 0 _ h (by decide)) (hb 1 _ h1 (by decide)) w
    refine (nc_pair nc_words.2.1 (nc_nats (fun x hx => ?_) ?_).2 (by decide)).tame
    · have := lt x hx
      omega
    · have := Tm.nodup_len p.nd lt
      omega
  | on h h1 h2 w => exact (nc_pair nc_words.2.1 ((nc_bool _).up (k' := 0) (m' := 60)) (by decide)).tame
  | side h h1 m d p s =>
    have lt : ∀ h, ∀ x ∈ Tm.near rs h, x < n := fun h x hx => (Tm.near_lt ok.bnd hx).1
    have G := d.going .start
    have ha := hb 0 _ h (by decide)
    have nd := Tm.nodup_len G.g.nodup (G.g.bound ha lt)
    refine (nc_pair (k := 1) (m := 3000) nc_words.2.1 ((nc_list (k := 0) (m := 40) (l := 64) (fun e he => ?_) ?_).up) (by decide)).tame
    · obtain ⟨x, hx, rfl⟩ := List.mem_map.mp he
      obtain ⟨y, hy, rfl⟩ := List.mem_map.mp (p.mem_iff.mp hx)
      have := G.g.bound ha lt y hy
      exact nc_nat (by omega)
    · rw [List.length_map, p.length_eq, List.length_map]
      omega
  | no h h1 m =>
    refine (nc_list (k := 0) (m := 60) (l := 3) (fun e he => ?_) (Nat.le_refl _)).tame
    have y0 := hb 0 _ h (by decide)
    have y1 := hb 1 _ h1 (by decide)
    have z0 := nc_nat (Nat.lt_of_lt_of_le y0 (by omega : n ≤ 70))
    have z1 := nc_nat (Nat.lt_of_lt_of_le y1 (by omega : n ≤ 70))
    simp only [List.mem_cons, List.not_mem_nil, or_false] at he
    rcases he with rfl | rfl | rfl
    · exact nc_words.2.2.1
    · exact z0.up
    · exact z1.up
  | foot h h1 h2 w1 w2 f =>
    obtain ⟨p, lt⟩ := Tm.way_path ok jo (hb 0 _ h (by decide)) (hb 1 _ h1 (by decide)) w1
    have hm := List.mem_of_mem_head? f
    have := lt _ (of_decide_eq_true (List.mem_filter.mp hm).2)
    exact (nc_pair nc_words.2.1 ((nc_nat (by omega)).up (k' := 0) (m' := 60)) (by decide)).tame
theorem due_tame {n : Nat} {rs : List Tm.Road} {w : Nat} {ds : List PyData} {D : PyData} (ok : Tm.RoadsOk n rs) (jo : Tm.Joined n rs) (h64 : n ≤ 64) (td : ∀ d ∈ ds, Tng n d) (h : DueO n rs w ds D) : Tame D := by
  unfold DueO at h
  cases e : firstBad n w ds with
  | some d =>
    rw [e] at h
    simp only at h
    rw [h]
    unfold firstBad at e
    have m := List.mem_of_mem_take (List.mem_of_find?_eq_some e)
    exact (nc_pair nc_words.1 (nc_tng h64 (td d m)) (by decide)).tame
  | none =>
    rw [e] at h
    refine told_tame ok jo h64 td (fun i a hi hu => ?_) h
    unfold firstBad at e
    rw [List.find?_eq_none] at e
    have := e (.int a) (List.mem_of_getElem? (i := i) (by rw [List.getElem?_take_of_lt hu]; exact hi))
    simp only [belowD] at this
    have : decide (0 ≤ (a : Int)) && decide ((a : Int) < n) := by simpa using this
    simp only [Bool.and_eq_true, decide_eq_true_eq] at this
    omega
/-- who is refused first -/
theorem house_due {n : Nat} {rs : List Tm.Road} {w : Nat} {ds : List PyData} {i : Nat} (l : useds w ≤ ds.length) (hi : i < useds w) (nb : belowD n (ds.getD i .none) = false) (hb : ∀ j, j < i → belowD n (ds.getD j .none) = true) : DueO n rs w ds (.list [.str "house", ds.getD i .none]) := by
  have e : firstBad n w ds = some (ds.getD i .none) := by
    unfold firstBad
    rw [take_map (z := .none) l, List.find?_map]
    have : (List.range (useds w)).find? ((fun d => !belowD n d) ∘ fun i => ds.getD i .none) = some i := by
      rw [List.find?_range_eq_some]
      refine ⟨by simp only [Function.comp_apply, nb]; rfl, List.mem_range.mpr hi, fun j hj => by simp only [Function.comp_apply, hb j hj]; rfl⟩
    rw [this]
    rfl
  unfold DueO
  rw [e]
end K02

namespace K02
open PySem PySem.Spec PyProof.Rows L2
abbrev sLQuest : Stmt := top 41
theorem scLQuest : FnScope ["box", "tree", "near", "roads", "word", "by_name", "things", "due", "told", "shown", "bad", "thing"] ["box", "tree", "near", "roads"] (defScope sLQuest) := ⟨rfl, rfl, rfl, by decide +kernel, rfl, by decide +kernel, by decide +kernel⟩
theorem told_head {H : Hp} {n w : Nat} {rs : List Tm.Road} {ds : List PyData} {D : PyData} {rt : Addr} {h : V} {l : List V} (t : Told n rs w ds D) (hr : H rt = some (.lst (h :: l))) (r : Rdd H (.ref rt) D) : ∃ s : Str, h = .str s ∧ (s = "told" ∨ s = "road") := by
  have key : ∀ {s : Str} {es : List PyData}, Rdd H (.ref rt) (.list (.str s :: es)) → h = .str s := fun {s es} r => by
    cases r with
    | lst h1 ra =>
      rw [hr] at h1
      cases h1
      cases ra with
      | cons r1 _ => cases r1; rfl
  cases t with
  | nei _ _ => exact ⟨_, key r, .inl rfl⟩
  | way _ _ _ => exact ⟨_, key r, .inl rfl⟩
  | on _ _ _ _ => exact ⟨_, key r, .inl rfl⟩
  | side _ _ _ _ _ _ => exact ⟨_, key r, .inl rfl⟩
  | no _ _ _ => exact ⟨_, key r, .inr rfl⟩
  | foot _ _ _ _ _ _ => exact ⟨_, key r, .inl rfl⟩
theorem told_ints {n w : Nat} {rs : List Tm.Road} {ds : List PyData} {dh : PyData} {es : List PyData} {l : List PyData} (t : Told n rs w ds (.list (dh :: .list es :: l))) : ∀ e ∈ es, ∃ i, e = .int i := by
  generalize hD : PyData.list (dh :: .list es :: l) = D at t
  cases t with
  | nei _ _ =>
    cases hD
    intro e he
    obtain ⟨x, _, rfl⟩ := List.mem_map.mp he
    exact ⟨_, rfl⟩
  | way _ _ _ => cases hD
  | on _ _ _ _ => cases hD
  | side _ _ _ _ _ _ =>
    cases hD
    intro e he
    obtain ⟨x, _, rfl⟩ := List.mem_map.mp he
    exact ⟨_, rfl⟩
  | no _ _ _ => cases hD
  | foot _ _ _ _ _ _ => cases hD
theorem rdd_ints {H : Hp} : ∀ {ys : List V} {es : List PyData}, RddAll H ys es → (∀ e ∈ es, ∃ i, e = .int i) → ∀ y ∈ ys, ∃ i, y = V.int i
  | _, _, .nil, _, y, hy => nomatch hy
  | _, _, .cons r t, h, y, hy => by
    rcases List.mem_cons.mp hy with rfl | hy
    · obtain ⟨i, rfl⟩ := h _ List.mem_cons_self
      cases r
      exact ⟨_, rfl⟩
    · exact rdd_ints t (fun e he => h e (List.mem_cons_of_mem _ he)) y hy
theorem wt_len : ∀ es : List PyData, es.length ≤ wtAll es
  | [] => Nat.zero_le _
  | e :: es => by
    have := wt_len es
    simp only [wtAll, List.length_cons]
    omega
theorem depth_mem : ∀ {ds : List PyData} {d : PyData}, d ∈ ds → d.depth ≤ PyData.depthAll ds
  | [], _, h => nomatch h
  | e :: es, d, h => by
    simp only [PyData.depthAll]
    rcases List.mem_cons.mp h with rfl | h
    · omega
    · have := depth_mem h
      omega
theorem all_mem : ∀ {ds : List PyData} {d : PyData}, d ∈ ds → (ascAll ds = true → asc d = true) ∧ (PyData.showableAll ds = true → d.showable = true) ∧ wt d ≤ wtAll ds
  | [], _, h => nomatch h
  | e :: es, d, h => by
    simp only [ascAll, PyData.showableAll, wtAll, Bool.and_eq_true]
    rcases List.mem_cons.mp h with rfl | h
    · exact ⟨fun z => z.1, fun z => z.1, by omega⟩
    · obtain ⟨h1, h2, h3⟩ := all_mem h
      exact ⟨fun z => h1 z.2, fun z => h2 z.2, by omega⟩
theorem tame_mem {ds : List PyData} {d : PyData} (t : Tame (.list ds)) (h : d ∈ ds) : Tame d := by
  obtain ⟨h1, h2, h3, h4⟩ := t
  simp only [asc] at h1
  simp only [PyData.showable] at h2
  simp only [PyData.depth] at h3
  simp only [wt] at h4
  obtain ⟨a, b, c⟩ := all_mem h
  have := depth_mem h
  exact ⟨a h1, b h2, by omega, by omega⟩
theorem at0 {α : Type} {a : α} {l : List α} : atI (a :: l) 0 = some a := atI_nat (j := 0) rfl
theorem at1 {α : Type} {a b : α} {l : List α} : atI (a :: b :: l) 1 = some b := atI_nat (j := 1) rfl
theorem told_call {K : PySem.W.Frag} {H : Hp} {t q : Addr} {n w : Nat} {rs : List Tm.Road} {x0 x1 x2 : V} {d0 d1 d2 : PyData} {bn : Bool} {Q : VK} {E : XK} (T : TreeAt K H t n rs) (w5 : w < 5) (hq : H q = some (.lst [x0, x1, x2])) (r0 : Rdd H x0 d0) (r1 : Rdd H x1 d1) (r2 : Rdd H x2 d2)
    (k : ∀ rt h x rest D H', Same H H' → DueO n rs w [d0, d1, d2] D → H' rt = some (.lst (h :: x :: rest)) → Rdd H' (.ref rt) D →
      ((h = .str "house" ∧ ∃ i, i < 3 ∧ x = [x0, x1, x2].getD i .non ∧ ∀ j, j < i → belowD n ([d0, d1, d2].getD j .none) = true) ∨ ((∃ s : Str, h = .str s ∧ (s = "told" ∨ s = "road")) ∧ ∀ a ys, x = .ref a → H' a = some (.lst ys) → H a = none ∧ ∀ y ∈ ys, ∃ i, y = V.int i)) → Q (.ref rt) H') :
    spLTold K [.ref t, .int w, .ref q, .bl bn] H Q E := by
  have XD : ∀ i, Rdd H ([x0, x1, x2].getD i .non) ([d0, d1, d2].getD i .none) := fun i => by
    match i with
    | 0 => exact r0
    | 1 => exact r1
    | 2 => exact r2
    | i + 3 => exact .non
  have hk : useds w ≤ 3 := by unfold useds; split <;> omega
  refine ⟨t, q, n, w, rs, x0, x1, x2, d0, d1, d2, bn, rfl, T, w5, hq, r0, r1, r2, fun r i H' k1 hi nb hb h1 => ?_, fun r h x rest D H' k1 fb td h1 rD fr => ?_⟩
  · exact k r _ _ [] _ H' k1 (house_due hk hi nb hb) h1 (.lst h1 (.cons (.str _) (.cons ((XD i).mono k1) .nil))) (.inl ⟨rfl, i, by omega, rfl, hb⟩)
  · refine k r h x rest D H' k1 ?_ h1 rD (.inr ⟨told_head td h1 rD, fun a ys e z => ⟨fr a ys e z, ?_⟩⟩)
    · unfold DueO
      rw [fb]
      exact td
    · subst e
      cases rD with
      | lst h2 ra =>
        rw [h1] at h2
        cases h2
        cases ra with
        | cons _ ra2 =>
          cases ra2 with
          | cons r3 _ =>
            cases r3 with
            | lst h3 ra3 =>
              rw [z] at h3
              cases h3
              exact rdd_ints ra3 (told_ints td)
            | tup h3 _ => rw [z] at h3; cases h3
            | dK h3 _ _ => rw [z] at h3; cases h3
      | tup h2 _ => rw [h1] at h2; cases h2
      | dK h2 _ _ => rw [h1] at h2; cases h2
/-- the law's world, but for the draws' box at p -/
structure Wd (K : PySem.W.Frag) (H : Hp) (p t nt r : Addr) (n : Nat) (rs : List Tm.Road) (c : Nat) : Prop where
  T : TreeAt K (del H p) t n rs
  N : Rdd (del H p) (.ref nt) (nearL n rs)
  R : Rdd (del H p) (.ref r) (.list (rs.map rd))
  B : BoxAt H p c
theorem Wd.ok {K : PySem.W.Frag} {H : Hp} {p t nt r : Addr} {n : Nat} {rs : List Tm.Road} {c : Nat} (W : Wd K H p t nt r n rs c) : Tm.RoadsOk n rs := W.T.ok
theorem Wd.but {K : PySem.W.Frag} {H H' : Hp} {p t nt r : Addr} {n : Nat} {rs : List Tm.Road} {c c' : Nat} (W : Wd K H p t nt r n rs c) (k : But p H H') (b : BoxAt H' p c') : Wd K H' p t nt r n rs c' :=
  ⟨W.T.mono (but_del k), W.N.mono (but_del k), W.R.mono (but_del k), b⟩
def spQuest (K : PySem.W.Frag) : Sp := fun vs H Q _ => ∃ (p t nt r : Addr) (n c : Nat) (rs : List Tm.Road), vs = [.ref p, .ref t, .ref nt, .ref r] ∧ Wd K H p t nt r n rs c ∧ c + 30 < 1000 ∧
  ∀ H', But p H H' → BoxAt H' p (c + 25) → Q (.bl true) H'
theorem tng_nol {n : Nat} {d : PyData} (h : Tng n d) (l : tyd d = "list") : d = .list [.int 0] := by
  rcases h with ⟨k, _, rfl⟩ | m
  · simp [tyd] at l
  · unfold bads at m
    simp only [List.mem_cons, List.not_mem_nil, or_false] at m
    rcases m with rfl | rfl | rfl | rfl | rfl | rfl | rfl | rfl | rfl | rfl | rfl | rfl | rfl | rfl <;> first | rfl | (simp [tyd] at l)
theorem tng_upd {H : Hp} {a : Addr} {v : V} {d : PyData} {n : Nat} {o : HO} (t : Tng n d) (r : Rdd H v d) (ne : v ≠ .ref a) : Rdd (upd H a o) v d := by
  rcases t with ⟨k, _, rfl⟩ | m
  · cases r
    exact .int _
  · exact (bad_del m r ne).mono del_upd
section
variable {P : Program} {w : World} {K : PySem.W.Frag} {mg : Str → Option Value} {base : Heap} {f : Addr} {fd : FuncData}
theorem ok_quest (F : Fd K "_law_question_right" sLQuest f fd) (g : mg "_law_question_right" = some (.ref f)) (B : Bl mg) (Tk : KitK K) (hsy : ∃ o, K.lookup sysModules = some o) (o_law_take : Ok P w K mg base CX0 1 "_law_take" sTake ["box", "many"] spDraw1)
    (o_law_things : Ok P w K mg base CX0 3 "_law_things" sLThings ["box", "houses", "roads"] spThings) (o_law_due : Ok P w K mg base CX0 3 "_law_due" sLDue ["near", "word", "things"] spDue)
    (o_law_told : Ok P w K mg base CX0 6 "_law_told" sLTold ["tree", "word", "things", "by_name"] (spLTold K)) : OkG P w K mg base 7 "_law_question_right" sLQuest ["box", "tree", "near", "roads"] (spQuest K) := by
  refine ⟨f, fd, g, F, F.bindsN fun _ _ _ _ _ _ us hl => match us, hl with | [_, _, _, _], _ => rfl, F.okG scLQuest (fun vs H Q E h => ?_) (fun cdv A outer s H vs Q hgd hr h => ?_)⟩
  · obtain ⟨p, t, nt, r, n, c, rs, rfl, _⟩ := h
    rfl
  · have hu : (cxOf CX0 P w K mg base ["box", "tree", "near", "roads", "word", "by_name", "things", "due", "told", "shown", "bad", "thing"] "_law_question_right" (defScope sLQuest) f cdv A outer s H noE).A.units + 64 < cLine := by
      have z := hr.un
      show (A.deeper _).units + 64 < cLine
      omega
    refine ⟨_, (pss_cons (ps_par (i := 4) (j := 5) rfl scLQuest.nd rfl rfl (by decide) rfl rfl (pa_cons (pe_o o_law_take (hr.mono (by decide)) (by rfl) (pa_cons (pv 0) (pa_cons pe_int pa_nil))) (pa_cons (pe_cmpR op_eq (pe_o o_law_take (hr.mono (by decide)) (by rfl) (pa_cons (pv 0) (pa_cons pe_int pa_nil))) pe_int (nomark _)) pa_nil)) rfl)
      (pss_cons (ps_set (i := 6) scLQuest.nd rfl (Or.inl rfl) (pe_o o_law_things (hr.mono (by decide)) (by rfl) (pa_cons (pv 0) (pa_cons (pe_callB call_len (by rfl) (B.u "len" (by decide +kernel)) boot_len (pa_cons (pv 2) pa_nil)) (pa_cons (pv 3) pa_nil)))))
      (pss_cons (ps_set (i := 7) scLQuest.nd rfl (Or.inl rfl) (pe_o o_law_due (hr.mono (by decide)) (by rfl) (pa_cons (pv 2) (pa_cons (pv 4) (pa_cons (pv 6) pa_nil)))))
      (pss_cons (ps_set (i := 8) scLQuest.nd rfl (Or.inl rfl) (pe_o o_law_told (hr.mono (by decide)) (by rfl) (pa_cons (pv 1) (pa_cons (pv 4) (pa_cons (pv 6) (pa_cons (pv 5) pa_nil))))))
      (pss_cons (ps_if (pt_cmpR op_ne (pe_callB (call_repr hgd hu hsy) (by rfl) (B.u "repr" (by decide +kernel)) (by decide +kernel) (pa_cons (pv 8) pa_nil)) (pe_callB (call_repr hgd hu hsy) (by rfl) (B.u "repr" (by decide +kernel)) (by decide +kernel) (pa_cons (pv 7) pa_nil)) (nomark _))
        (pss_one (ps_ret pe_bl))
        pss_nil)
      (pss_cons (ps_if (pt_val (pe_callB call_isi (by rfl) (B.u "isinstance" (by decide +kernel)) boot_isinstance (pa_cons (pe_ix ix_seq (pv 8) pe_int fun _ _ => rfl) (pa_cons (pe_bltn (by rfl) (B.u "list" (by decide +kernel)) (by decide +kernel) (v := .ty "list") rfl) pa_nil))))
        (pss_cons (ps_set (i := 9) scLQuest.nd rfl (Or.inl rfl) (pe_callB (call_repr hgd hu hsy) (by rfl) (B.u "repr" (by decide +kernel)) (by decide +kernel) (pa_cons (pe_ix ix_seq (pv 8) pe_int fun _ _ => rfl) pa_nil)))
        (pss_cons (ps_expr (pe_bm PySem.F.plainAttrs_list PySem.F.slot_list_append PySem.F.type_list_append mt_append (pe_ix ix_seq (pv 8) pe_int fun _ _ => rfl) (pa_cons pe_str pa_nil)))
        (pss_cons (ps_if (pt_cmpR op_eq (pe_ix ix_seq (pv 8) pe_int fun _ _ => rfl) pe_str (nomark _))
          (pss_cons (ps_set (i := 10) scLQuest.nd rfl (Or.inl rfl) (pe_ix ix_seq (pe_lc (own := [("thing", 11)]) (g := gName 11) rfl scLQuest.nd (pi_list (pv 6)) (blkOk_by (N := ["box", "tree", "near", "roads", "word", "by_name", "things", "due", "told", "shown", "bad", "thing"]) (sc := defScope sLQuest) (by decide +kernel)) (fun _ _ _ _ _ => (pg_name (i := 11) scLQuest.nd rfl (Or.inl rfl))) (fun _ _ _ _ _ => (pts_one (pt_val (pe_callB (r := rIsi K) (by exact call_isi) (by rfl) (B.u "isinstance" (by decide +kernel)) boot_isinstance (pa_cons (pv 11) (pa_cons (pe_bltn (by rfl) (B.u "list" (by decide +kernel)) (by decide +kernel) (v := .ty "list") rfl) pa_nil)))))) (fun _ _ _ _ _ => (pv 11))) pe_int fun _ _ => rfl))
          (pss_one (ps_ret (pe_and (pe_cmpR op_eq (pe_callB (call_repr hgd hu hsy) (by rfl) (B.u "repr" (by decide +kernel)) (by decide +kernel) (pa_cons (pv 10) pa_nil)) (pe_callB (call_repr hgd hu hsy) (by rfl) (B.u "repr" (by decide +kernel)) (by decide +kernel) (pa_cons (pe_ix ix_seq (pv 8) pe_int fun _ _ => rfl) pa_nil)) (nomark _)) (pe_one (pe_cmpR op_ne (pe_callB (call_repr hgd hu hsy) (by rfl) (B.u "repr" (by decide +kernel)) (by decide +kernel) (pa_cons (pv 10) pa_nil)) (pv 9) (nomark _)))))))
          pss_nil)
        (pss_one (ps_ret (pe_cmpR op_eq (pe_callB (call_repr hgd hu hsy) (by rfl) (B.u "repr" (by decide +kernel)) (by decide +kernel) (pa_cons (pe_o o_law_told (hr.mono (by decide)) (by rfl) (pa_cons (pv 1) (pa_cons (pv 4) (pa_cons (pv 6) (pa_cons (pe_not (pv 5)) pa_nil))))) pa_nil)) (pe_callB (call_repr hgd hu hsy) (by rfl) (B.u "repr" (by decide +kernel)) (by decide +kernel) (pa_cons (pv 7) pa_nil)) (nomark _)))))))
        pss_nil)
      (pss_one (ps_ret pe_bl)))))))), ?_⟩
    obtain ⟨p, t, nt, r, n, c, rs, rfl, W, hc, q⟩ := h
    have h64 := W.T.le
    refine ⟨_, rfl, p, 5, c, rfl, W.B, by omega, by decide, by decide, fun wi H1 w0 w5 k1 hp1 e1 => ?_⟩
    refine ⟨_, rfl, p, 2, _, rfl, hp1, by omega, by decide, by decide, fun bi H2 b0 b1 k2 hp2 e2 => ⟨rfl, ?_⟩⟩
    obtain ⟨w, rfl⟩ : ∃ w : Nat, wi = w := ⟨wi.toNat, by omega⟩
    have w5 : w < 5 := by omega
    generalize decide (V.int bi = V.int 1) = bn
    dsimp only [gName, tSeq, gNil, L2.start]
    refine ⟨_, _, rfl, ?_⟩
    have W2 := W.but (k1.trans k2) hp2
    obtain ⟨rows, hrows, lrows⟩ : ∃ rows, del H2 p nt = some (.lst rows) ∧ rows.length = n := by
      cases W2.N with
      | lst h1 ra => exact ⟨_, h1, by have := rdds_len ra; simpa using this⟩
    refine ⟨_, rfl, _, rfl, _, _, rfl, .inl ⟨_, SqL.of (del_le _ _ hrows), rfl⟩, _, rfl, p, r, n, _, rs, by rw [lrows], hp2, by omega, h64, W2.R, W2.ok, fun qa x0 x1 x2 d0 d1 d2 H3 k3 hp3 nqp fqa hqa r0 r1 r2 t0 t1 t2 fr => ?_⟩
    have W3 := W2.but k3 hp3
    refine ⟨_, rfl, _, rfl, _, rfl, nt, qa, n, w, rs, x0, x1, x2, d0, d1, d2, rfl, W3.N.mono del_le, W3.ok, W3.T.jo, h64, w5, hqa, r0.mono del_le, r1.mono del_le, r2.mono del_le, fun ra D H4 k4 due rD => ?_⟩
    have W4 : Wd K H4 p t nt r n rs _ := W3.but (But.of k4) (hp3.same k4)
    have hqa4 := k4 _ _ hqa
    have s0 := (r0.mono del_le).mono k4
    have s1 := (r1.mono del_le).mono k4
    have s2 := (r2.mono del_le).mono k4
    have kH4 : But p H H4 := (k1.trans k2).trans (k3.trans (But.of k4))
    have kH24 : But p H2 H4 := k3.trans (But.of k4)
    have hp4 : BoxAt H4 p (c + 22) := hp3.same k4
    obtain ⟨ob, hob⟩ := hp4.some
    have hp2' := hp2.some
    refine ⟨_, rfl, _, rfl, _, rfl, _, rfl, ?_⟩
    dsimp only [tNil]
    refine told_call (W4.T.mono del_le) w5 hqa4 s0 s1 s2 fun rt h x rest D2 H5 k5 due2 hrt rD2 alt => ?_
    obtain rfl := due.det due2
    have tm : Tame D := due_tame W3.ok W3.T.jo h64 (fun d hd => by
      simp only [List.mem_cons, List.not_mem_nil, or_false] at hd
      rcases hd with rfl | rfl | rfl
      · exact t0
      · exact t1
      · exact t2) due
    refine ⟨_, rfl, _, D, rfl, rD2, tm.s, tm.h, tm.len, _, rfl, _, D, rfl, rD.mono k5, tm.s, tm.h, tm.len, rfl, _, rfl, iteB (fun e => by simp at e) fun _ => ?_⟩
    obtain ⟨dh, dx, dl, rfl, rx⟩ : ∃ dh dx dl, D = .list (dh :: dx :: dl) ∧ Rdd H5 x dx := by
      cases rD2 with
      | lst h1 ra =>
        rw [hrt] at h1
        cases h1
        cases ra with
        | cons _ r2 =>
          cases r2 with
          | cons r3 _ => exact ⟨_, _, _, rfl, r3⟩
      | tup h1 _ => rw [hrt] at h1; cases h1
      | dK h1 _ _ => rw [hrt] at h1; cases h1
    have tx := tame_mem tm (List.mem_cons_of_mem _ List.mem_cons_self)
    refine ⟨_, rfl, ixAt hrt at1 ⟨x, _, _, _, _, rfl, .ty _, rx.tx, Tk.tt _ (tyd_mem dx) "list" (by decide), _, rfl, iteB (fun e => ?_) fun e => q _ (kH4.trans (But.of k5)) ((hp4.same k5).up (by omega))⟩⟩
    have e : tyd dx = "list" := by simpa using e
    obtain ⟨a, ys, es, rfl, rfl, ha, ra⟩ : ∃ a ys es, x = .ref a ∧ dx = .list es ∧ H5 a = some (.lst ys) ∧ RddAll H5 ys es := by
      cases rx with
      | lst h1 ra => exact ⟨_, _, _, rfl, rfl, h1, ra⟩
      | _ => simp [tyd] at e
    have ly : ys.length < 16777216 := by
      have h1 := rdds_len ra
      have h2 := wt_len es
      have h3 := tx.w
      simp only [wt] at h3
      omega
    refine ⟨_, rfl, ixAt hrt at1 ⟨_, _, rfl, rx, tx.s, tx.h, tx.len, _, rfl, ixAt hrt at1 ⟨.inl ⟨rfl, _, SqL.of ha⟩, a, ys, _, rfl, rfl, ha, lt_ln ly, ?_⟩⟩⟩
    have fa4 : (h = V.str "house" ∧ ∃ i, i < 3 ∧ V.ref a = [x0, x1, x2].getD i .non ∧ ∀ j, j < i → belowD n ([d0, d1, d2].getD j .none) = true) → H2 a = none := fun ⟨_, i, hi, hx, _⟩ => by
      refine fr a ?_
      rw [hx]
      match i, hi with
      | 0, _ => exact List.mem_cons_self
      | 1, _ => exact List.mem_cons_of_mem _ List.mem_cons_self
      | 2, _ => exact List.mem_cons_of_mem _ (List.mem_cons_of_mem _ List.mem_cons_self)
    have fa : H2 a = none := by
      rcases alt with alt | ⟨_, f⟩
      · exact fa4 alt
      · have := (f a ys rfl ha).1
        cases e : H2 a with
        | none => rfl
        | some o =>
          by_cases nb : a = p
          · rw [nb, hob] at this; cases this
          · rw [kH24 _ _ nb e] at this; cases this
    have nap : a ≠ p := fun e => by
      obtain ⟨o, z⟩ := hp2'
      rw [e, z] at fa
      cases fa
    have kH6 : But p H (upd H5 a (.lst (ys ++ [V.str "more"]))) := fun b o nb e => by
      have z := (k1.trans k2) b o nb e
      rw [upd_ne (ne_of_none z fa)]
      exact k5 _ _ (kH24 _ _ nb z)
    have hp6 : BoxAt (upd H5 a (.lst (ys ++ [V.str "more"]))) p (c + 25) := ((hp4.same k5).eq (upd_ne nap.symm)).up (by omega)
    rcases alt with ⟨rfl, i, hi, hx, hlow⟩ | ⟨⟨s, rfl, hs⟩, f⟩
    · have XT : Rdd H5 (V.ref a) ([d0, d1, d2].getD i .none) ∧ Tng n ([d0, d1, d2].getD i .none) := by
        rw [hx]
        match i, hi with
        | 0, _ => exact ⟨s0.mono k5, t0⟩
        | 1, _ => exact ⟨s1.mono k5, t1⟩
        | 2, _ => exact ⟨s2.mono k5, t2⟩
      obtain ⟨ri, ti⟩ := XT
      have li : tyd ([d0, d1, d2].getD i .none) = "list" := by
        generalize [d0, d1, d2].getD i .none = di at ri
        cases ri with
        | lst _ _ => rfl
        | tup h1 _ => rw [ha] at h1; cases h1
        | dK h1 _ _ => rw [ha] at h1; cases h1
      obtain rfl : ys = [.int 0] := by
        rw [tng_nol ti li] at ri
        cases ri with
        | lst h1 ra2 =>
          rw [ha] at h1
          cases h1
          cases ra2 with
          | cons z1 z2 =>
            cases z1
            cases z2
            rfl
      obtain rfl : es = [.int 0] := by
        cases ra with
        | cons z1 z2 =>
          cases z1
          cases z2
          rfl
      have nra : rt ≠ a := fun e => by
        rw [e, ha] at hrt
        cases hrt
      have nqa : qa ≠ a := fun e => by
        rw [← e, k5 _ _ hqa4] at ha
        cases ha
      have hrt6 : upd H5 a (.lst ([V.int 0] ++ [V.str "more"])) rt = some (.lst (.str "house" :: .ref a :: rest)) := by rw [upd_ne nra]; exact hrt
      have hqa6 : upd H5 a (.lst ([V.int 0] ++ [V.str "more"])) qa = some (.lst [x0, x1, x2]) := by rw [upd_ne nqa]; exact k5 _ _ hqa4
      have ha6 : upd H5 a (.lst ([V.int 0] ++ [V.str "more"])) a = some (.lst [.int 0, .str "more"]) := upd_same
      let X : Nat → V := fun j => [x0, x1, x2].getD j .non
      let Dd : Nat → PyData := fun j => [d0, d1, d2].getD j .none
      have XA : ∀ j, j < 3 → ∃ T, (∀ H', Same (upd H5 a (.lst ([V.int 0] ++ [V.str "more"]))) H' → TyX K H' (X j) (.type T)) ∧ T ∈ tys ∧ (X j = .ref a → T = "list") ∧ (X j ≠ .ref a → T = tyd (Dd j)) := fun j hj => by
        have rt5 : Rdd H5 (X j) (Dd j) ∧ Tng n (Dd j) := by
          match j, hj with
          | 0, _ => exact ⟨s0.mono k5, t0⟩
          | 1, _ => exact ⟨s1.mono k5, t1⟩
          | 2, _ => exact ⟨s2.mono k5, t2⟩
        by_cases c : X j = .ref a
        · exact ⟨"list", (fun H' k => by rw [c]; exact .base (.lst (k _ _ upd_same))), by decide, fun _ => rfl, fun z => absurd c z⟩
        · exact ⟨tyd (Dd j), (fun H' k => ((tng_upd rt5.2 rt5.1 c).mono k).tx), tyd_mem _, fun z => absurd z c, fun _ => rfl⟩
      generalize upd H5 a (.lst ([V.int 0] ++ [V.str "more"])) = H6 at kH6 hp6 hrt6 hqa6 ha6 XA
      refine ⟨_, rfl, ixAt hrt6 at0 ⟨rfl, _, rfl, iteB (fun _ => ?_) fun e => by simp at e⟩⟩
      refine ⟨_, rfl, qa, rfl, ⟨_, SqL.of hqa6⟩, fun D2 hD2 => ?_⟩
      let bp : Nat → Bool := fun j => decide (X j = .ref a) || decide (tyd (Dd j) = "list")
      refine lc_gen walk_list bp (fun j y _ => y = X j) (fun _ _ _ _ _ h => h) hD2 (by show 3 ≤ _; decide) (fun H' k => SqL.of (del_sub k _ _ hqa6)) ?_ ?_
      · rintro j x H8 HB K1 N1 hj k8 ⟨o, ho⟩ ⟨rfl, hxj⟩ hK hN
        have hj : j < 3 := hj
        have ex : X j = x := by
          show ([x0, x1, x2].getD j .non) = x
          rw [List.getD_eq_getElem?_getD, hxj]
          rfl
        subst ex
        obtain ⟨T, tX, tm2, h1, h2⟩ := XA j hj
        refine ⟨rfl, _, rfl, X j, _, _, _, _, rfl, .ty _, tX _ (del_sub k8), Tk.tt _ tm2 "list" (by decide), _, rfl, iteB (fun e => ?_) fun e => ?_⟩
        · have e : T = "list" := by simpa using e
          refine ⟨_, rfl, hK ?_ _ _ (Same.refl _) rfl⟩
          by_cases c : X j = .ref a
          · simp only [bp, c, decide_true, Bool.true_or]
          · simp only [bp, ← h2 c, e, decide_true, Bool.or_true]
        · have e : T ≠ "list" := by simpa using e
          refine hN ?_ _ (Same.refl _)
          have c : X j ≠ .ref a := fun c => e (h1 c)
          have e2 : tyd (Dd j) ≠ "list" := by rw [← h2 c]; exact e
          show (decide (X j = .ref a) || decide (tyd (Dd j) = "list")) = false
          rw [decide_eq_false c, decide_eq_false e2]
          rfl
      · intro zs H8 k8 h8 l8 r8
        have ezs : zs = ((List.range 3).filter bp).map X := map_of l8 r8
        have hd : ((List.range 3).filter bp).head? = some i := by
          rw [List.head?_filter, List.find?_range_eq_some]
          refine ⟨?_, List.mem_range.mpr hi, fun j hj => ?_⟩
          · show (decide (X i = .ref a) || _) = true
            rw [decide_eq_true (show X i = .ref a from hx.symm)]
            rfl
          · have hj3 : j < 3 := by omega
            have rj : Rdd H4 (X j) (Dd j) := by
              match j, hj3 with
              | 0, _ => exact s0
              | 1, _ => exact s1
              | 2, _ => exact s2
            obtain ⟨u, _, e1, e2⟩ := int_of rj (hlow j hj)
            show (!(decide (X j = .ref a) || decide (tyd (Dd j) = "list"))) = true
            rw [e1, e2]
            rfl
        cases ef : (List.range 3).filter bp with
        | nil => rw [ef] at hd; cases hd
        | cons i2 is =>
          rw [ef] at hd ezs
          obtain rfl : i2 = i := Option.some.inj hd
          have kx := del_sub k8
          have ha8 := kx _ _ ha6
          have hrt8 := kx _ _ hrt6
          have nt : Tame (.list [.int 0, .str "more"]) := by
            refine ⟨?_, ?_, ?_, ?_⟩ <;> decide +kernel
          have rd8 : Rdd H8 (.ref a) (.list [.int 0, .str "more"]) := .lst ha8 (.cons (.int _) (.cons (.str _) .nil))
          refine ixAt (v := .ref a) h8 (by rw [ezs]; show atI (X i2 :: is.map X) 0 = _; rw [at0]; exact congrArg some hx.symm) ?_
          refine ⟨_, rfl, _, _, rfl, rd8, nt.s, nt.h, nt.len, _, rfl, ixAt hrt8 at1 ⟨_, _, rfl, rd8, nt.s, nt.h, nt.len, rfl, ?_⟩⟩
          refine ⟨_, rfl, iteB (fun _ => ⟨_, rfl, _, _, rfl, rd8, nt.s, nt.h, nt.len, _, rfl, rfl, ?_⟩) fun e => by simp at e⟩
          have ns : decide (V.str (PyData.list [.int 0, .str "more"]).shown = V.str (PyData.list [.int 0]).shown) = false := by decide +kernel
          rw [ns]
          exact q _ (kH6.trans (But.of kx)) (hp6.same kx)
    · obtain ⟨f4, hints⟩ := f a ys rfl ha
      have nra : rt ≠ a := fun e => by
        rw [e, ha] at hrt
        cases hrt
        obtain ⟨i, z⟩ := hints _ List.mem_cons_self
        cases z
      have k46 : Same H4 (upd H5 a (.lst (ys ++ [V.str "more"]))) := fun b o e => by
        rw [upd_ne (ne_of_none e f4)]
        exact k5 _ _ e
      have hrt6 : upd H5 a (.lst (ys ++ [V.str "more"])) rt = some (.lst (.str s :: .ref a :: rest)) := by rw [upd_ne nra]; exact hrt
      generalize upd H5 a (.lst (ys ++ [V.str "more"])) = H6 at kH6 hp6 k46 hrt6
      have ns : decide (V.str s = V.str "house") = false := by
        rcases hs with rfl | rfl <;> decide +kernel
      refine ⟨_, rfl, ixAt hrt6 at0 ⟨rfl, _, rfl, iteB (fun e => by rw [ns] at e; cases e) fun _ => ?_⟩⟩
      refine ⟨_, rfl, _, rfl, _, rfl, _, rfl, bn, rfl, ?_⟩
      dsimp only [tNil]
      refine told_call ((W4.T.mono del_le).mono k46) w5 (k46 _ _ hqa4) (s0.mono k46) (s1.mono k46) (s2.mono k46) fun rt2 h2 x2' rest2 D3 H7 k7 due3 hrt2 rD3 _ => ?_
      obtain rfl := due.det due3
      refine ⟨_, _, rfl, rD3, tm.s, tm.h, tm.len, _, rfl, _, _, rfl, (rD.mono k46).mono k7, tm.s, tm.h, tm.len, rfl, ?_⟩
      rw [decide_eq_true rfl]
      exact q _ (kH6.trans (But.of k7)) (hp6.same k7)
end
end K02

namespace K02
open PySem PySem.Spec PyProof.Rows L2
abbrev sLSpoilt : Stmt := top 42
theorem scLSpoilt : FnScope ["box", "houses", "roads", "kind", "row", "place", "u", "v", "wrong", "head", "tail"] ["box", "houses", "roads"] (defScope sLSpoilt) := ⟨rfl, rfl, rfl, by decide +kernel, rfl, by decide +kernel, by decide +kernel⟩
/-- every item is small data, away from p -/
def Items (H : Hp) (p : Addr) (xs : List V) : Prop := ∀ x ∈ xs, ∃ d, Rdd (del H p) x d ∧ Nc 1 300 d
theorem Items.mono {H H' : Hp} {p : Addr} {xs : List V} (i : Items H p xs) (k : But p H H') : Items H' p xs := fun x hx =>
  let ⟨d, r, n⟩ := i x hx
  ⟨d, r.mono (but_del k), n⟩
theorem Items.sub {H : Hp} {p : Addr} {xs ys : List V} (i : Items H p xs) (s : ∀ y ∈ ys, y ∈ xs) : Items H p ys := fun y hy => i y (s y hy)
theorem Items.app {H : Hp} {p : Addr} {xs ys : List V} (i : Items H p xs) (j : Items H p ys) : Items H p (xs ++ ys) := fun y hy => (List.mem_append.mp hy).elim (i y) (j y)
theorem Items.all {H : Hp} {p : Addr} : ∀ {xs : List V}, Items H p xs → ∃ ds, RddAll (del H p) xs ds ∧ ∀ d ∈ ds, Nc 1 300 d
  | [], _ => ⟨[], .nil, fun _ z => nomatch z⟩
  | x :: xs, i => by
    obtain ⟨d, r, n⟩ := i x List.mem_cons_self
    obtain ⟨ds, rs, ns⟩ := Items.all (xs := xs) fun y hy => i y (List.mem_cons_of_mem _ hy)
    refine ⟨d :: ds, .cons r rs, fun e he => ?_⟩
    rcases List.mem_cons.mp he with rfl | he
    · exact n
    · exact ns e he
theorem Items.rd {H : Hp} {p l : Addr} {xs : List V} (i : Items H p xs) (h : H l = some (.lst xs)) (nl : l ≠ p) (hx : xs.length ≤ 140) : ∃ d, Rdd (del H p) (.ref l) d ∧ Nc 3 60000 d := by
  obtain ⟨ds, r, n⟩ := i.all
  have ln := rdds_len r
  exact ⟨.list ds, .lst (by rw [del_ne nl]; exact h) r, (nc_list n (l := 140) (by omega)).up⟩
theorem mem_cut {xs : List V} {lo hi : Option Int} {x : V} (h : x ∈ cutV xs lo hi) : x ∈ xs := by
  unfold cutV at h
  exact List.mem_of_mem_drop (List.mem_of_mem_take h)
theorem len_cut {xs : List V} {lo hi : Option Int} : (cutV xs lo hi).length ≤ xs.length := by
  unfold cutV
  rw [List.length_take, List.length_drop]
  omega
theorem rd_nc {n : Nat} {rs : List Tm.Road} (ok : Tm.RoadsOk n rs) (h : n ≤ 64) {d : PyData} (m : d ∈ rs.map rd) : Nc 1 300 d := by
  obtain ⟨⟨u, v⟩, hr, rfl⟩ := List.mem_map.mp m
  have := ok.bnd _ hr
  refine (nc_tup (k := 0) (m := 40) (l := 2) (fun e he => ?_) (Nat.le_refl _)).up
  simp only [List.mem_cons, List.not_mem_nil, or_false] at he
  rcases he with rfl | rfl
  · exact nc_nat (by simp only at this; omega)
  · exact nc_nat (by simp only at this; omega)
theorem rdd_items {H : Hp} {p : Addr} {xs : List V} {ds : List PyData} (r : RddAll (del H p) xs ds) (n : ∀ d ∈ ds, Nc 1 300 d) : Items H p xs := by
  intro x hx
  obtain ⟨i, hi, e⟩ := List.mem_iff_getElem.mp hx
  have ln := rdds_len r
  obtain ⟨y, hy, ry⟩ := rdds_get r (List.getElem?_eq_getElem (show i < ds.length by omega))
  rw [List.getElem?_eq_getElem hi, e] at hy
  obtain rfl := Option.some.inj hy
  exact ⟨_, ry, n _ (List.getElem_mem _)⟩
def spSpoilt : Sp := fun vs H Q _ => ∃ (p r : Addr) (n c : Nat) (rs : List Tm.Road), vs = [.ref p, .int n, .ref r] ∧ BoxAt H p c ∧ c + 5 < 1000 ∧ n ≤ 64 ∧ Rdd (del H p) (.ref r) (.list (rs.map rd)) ∧ Tm.RoadsOk n rs ∧
  ∀ v d H', But p H H' → BoxAt H' p (c + 3) → Rdd (del H' p) v d → Nc 3 60000 d → Q v H'
/-- a new value of small data, away from p -/
def tI (S : L2.St → Prop) (p : Addr) (k m : Nat) : TE := fun σ H Q => S σ ∧ (∃ o, H p = some o) ∧ ∀ v H', Same H H' → (∃ d, Rdd (del H' p) v d ∧ Nc k m d) → Q v H'
def tIs (S : L2.St → Prop) (p : Addr) (k m l : Nat) : TA := fun σ H Q => S σ ∧ (∃ o, H p = some o) ∧ ∀ vs H', Same H H' → vs.length = l → (∀ x ∈ vs, ∃ d, Rdd (del H' p) x d ∧ Nc k m d) → Q vs H'
theorem items_of {H : Hp} {p : Addr} {k m : Nat} : ∀ {xs : List V}, (∀ x ∈ xs, ∃ d, Rdd (del H p) x d ∧ Nc k m d) → ∃ ds, RddAll (del H p) xs ds ∧ ∀ d ∈ ds, Nc k m d
  | [], _ => ⟨[], .nil, fun _ z => nomatch z⟩
  | x :: xs, i => by
    obtain ⟨d, r, n⟩ := i x List.mem_cons_self
    obtain ⟨ds, rs, ns⟩ := items_of (xs := xs) fun y hy => i y (List.mem_cons_of_mem _ hy)
    refine ⟨d :: ds, .cons r rs, fun e he => ?_⟩
    rcases List.mem_cons.mp he with rfl | he
    · exact n
    · exact ns e he
section
variable {X : Cx} {S : L2.St → Prop} {p : Addr} {k m l k' m' : Nat} {e : Expr} {es : List Expr} {d : PyData} {pos : Pos}
theorem pa_i0 : PA X [] (tIs S p k m 0) := pa_nil.mono fun σ H Q ⟨_, _, q⟩ => q [] H (Same.refl H) rfl fun _ z => nomatch z
theorem pa_i1 (he : PE X e (tI S p k m)) (h : PA X es (tIs S p k m l)) (hs : starEach (e :: es) X.env = (false, eval e X.env) :: starEach es X.env := by rfl) : PA X (e :: es) (tIs S p k m (l + 1)) := by
  refine (pa_cons he h hs).mono fun σ H Q ⟨s, ⟨o, ho⟩, q⟩ => ⟨s, ⟨o, ho⟩, fun v H1 k1 r1 => ⟨s, ⟨o, k1 _ _ ho⟩, fun vs H2 k2 l2 r2 => q _ H2 (k1.trans k2) (by rw [List.length_cons, l2]) fun x hx => ?_⟩⟩
  rcases List.mem_cons.mp hx with rfl | hx
  · obtain ⟨d, r, n⟩ := r1
    exact ⟨d, r.mono (del_mono k2), n⟩
  · exact r2 x hx
theorem pe_iC {v : V} (h : PE X e (tC v)) (r : ∀ H, Rdd H v d) (n : Nc k m d) : PE X e (tI S p k m) := h.mono fun σ H Q ⟨_, _, q⟩ => q v H (Same.refl H) ⟨d, r _, n⟩
theorem pe_iS {t : TE} (h : PE X e t) (g : ∀ σ H (Q : VK), S σ → (∀ v d, (∀ H, Rdd H v d) → Nc k m d → Q v H) → t σ H Q) : PE X e (tI S p k m) := h.mono fun σ H Q ⟨s, _, q⟩ => g σ H Q s fun v d r n => q v H (Same.refl H) ⟨d, r _, n⟩
theorem pe_iup (h : PE X e (tI S p k m)) (hk : k ≤ k' := by decide) (hm : m ≤ m' := by decide) : PE X e (tI S p k' m') := h.mono fun σ H Q ⟨s, o, q⟩ => ⟨s, o, fun v H' k1 ⟨d, r, n⟩ => q v H' k1 ⟨d, r, n.up hk hm⟩⟩
theorem pe_itup {kk : Nat} (h : PA X es (tIs S p k m l)) (hl : l ≤ 16777216 := by decide) : PE X (.Tuple es kk pos) (tI S p (k + 1) (l * (m + 2) + 3)) := (pe_tup h).mono fun σ H Q ⟨s, ⟨o, ho⟩, q⟩ => ⟨s, ⟨o, ho⟩, fun vs H1 k1 l1 r1 => ⟨two_ln (by omega), fun t ht => by
  obtain ⟨ds, rs, ns⟩ := items_of r1
  exact q _ _ (k1.trans (upd_grow ht)) ⟨.tuple ds, .tup (del_new (k1 _ _ ho) ht) (rs.mono (del_mono (upd_grow ht))), nc_tup ns (by have := rdds_len rs; omega)⟩⟩⟩
theorem pe_ilst (h : PA X es (tIs S p k m l)) (hl : l ≤ 16777216 := by decide) : PE X (.List es pos) (tI S p (k + 1) (l * (m + 2) + 3)) := (pe_lst h).mono fun σ H Q ⟨s, ⟨o, ho⟩, q⟩ => ⟨s, ⟨o, ho⟩, fun vs H1 k1 l1 r1 => ⟨two_ln (by omega), fun t ht => by
  obtain ⟨ds, rs, ns⟩ := items_of r1
  exact q _ _ (k1.trans (upd_grow ht)) ⟨.list ds, .lst (del_new (k1 _ _ ho) ht) (rs.mono (del_mono (upd_grow ht))), nc_list ns (by have := rdds_len rs; omega)⟩⟩⟩
theorem pe_idict0 : PE X (.Dict [] [] pos) (tI S p 1 60) := pe_dnewK.mono fun σ H Q ⟨s, ⟨o, ho⟩, q⟩ a ha =>
  q _ _ (upd_grow ha) ⟨.dict [], .dK (del_new ho ha) .nil .nil, ⟨rfl, rfl, by decide, by decide⟩⟩
end
/-- houses, u and v are small numbers -/
def SSp (σ : L2.St) : Prop := ∃ n u v : Nat, n < 70 ∧ u < 70 ∧ v < 70 ∧ σ[1]? = some (some (.int n)) ∧ σ[6]? = some (some (.int u)) ∧ σ[7]? = some (some (.int v))
theorem ss_n : ∀ σ H (Q : VK), SSp σ → (∀ v d, (∀ H, Rdd H v d) → Nc 0 40 d → Q v H) → tVar 1 σ H Q := fun σ H Q ⟨n, _, _, hn, _, _, s, _, _⟩ q => ⟨_, s, q _ _ (fun _ => .int _) (nc_nat hn)⟩
theorem ss_u : ∀ σ H (Q : VK), SSp σ → (∀ v d, (∀ H, Rdd H v d) → Nc 0 40 d → Q v H) → tVar 6 σ H Q := fun σ H Q ⟨_, u, _, _, hu, _, _, s, _⟩ q => ⟨_, s, q _ _ (fun _ => .int _) (nc_nat hu)⟩
theorem ss_v : ∀ σ H (Q : VK), SSp σ → (∀ v d, (∀ H, Rdd H v d) → Nc 0 40 d → Q v H) → tVar 7 σ H Q := fun σ H Q ⟨_, _, v, _, _, hv, _, _, s⟩ q => ⟨_, s, q _ _ (fun _ => .int _) (nc_nat hv)⟩
theorem ss_m : ∀ σ H (Q : VK), SSp σ → (∀ v d, (∀ H, Rdd H v d) → Nc 0 40 d → Q v H) → Q (.int (-1)) H := fun σ H Q _ q => q _ _ (fun _ => .int _) nc_big.2.2
theorem nc_s1 : Nc 0 40 (.str "1") := by refine ⟨?_, ?_, ?_, ?_⟩ <;> decide +kernel
theorem nc_s0 : Nc 0 40 (.str "") := by refine ⟨?_, ?_, ?_, ?_⟩ <;> decide +kernel
theorem nc_non : Nc 0 40 .none := ⟨rfl, rfl, by decide, by decide⟩
section
variable {P : Program} {w : World} {K : PySem.W.Frag} {mg : Str → Option Value} {base : Heap} {f : Addr} {fd : FuncData}
theorem ok_spoilt (F : Fd K "_law_spoilt_roads" sLSpoilt f fd) (g : mg "_law_spoilt_roads" = some (.ref f)) (B : Bl mg) (o_law_take : Ok P w K mg base CX0 1 "_law_take" sTake ["box", "many"] spDraw1) : Ok P w K mg base CX0 2 "_law_spoilt_roads" sLSpoilt ["box", "houses", "roads"] spSpoilt := by
  refine ⟨f, fd, g, F, F.bindsN fun _ _ _ _ _ _ us hl => match us, hl with | [_, _, _], _ => rfl, F.ok scLSpoilt (fun vs H Q E h => ?_) (fun cdv A outer s H vs Q E hr h => ?_)⟩
  · obtain ⟨p, r, n, c, rs, rfl, _⟩ := h
    rfl
  · have hu : (cxOf CX0 P w K mg base ["box", "houses", "roads", "kind", "row", "place", "u", "v", "wrong", "head", "tail"] "_law_spoilt_roads" (defScope sLSpoilt) f cdv A outer s H E).A.units + 64 < cLine := by
      have z := hr.un
      show (A.deeper _).units + 64 < cLine
      omega
    obtain ⟨p, r, n, c, rs, rfl, hp, hc, n1, hr0, rok, q⟩ := h
    refine ⟨_, (pss_cons (ps_par (i := 3) (j := 4) rfl scLSpoilt.nd rfl rfl (by decide) rfl rfl (pa_cons (pe_o o_law_take (hr.mono (by decide)) (by rfl) (pa_cons (pv 0) (pa_cons pe_int pa_nil))) (pa_cons (pe_callTy call_list_of (by rfl) (B.u "list" (by decide +kernel)) (by decide +kernel) (pa_cons (pv 2) pa_nil)) pa_nil)) rfl)
      (pss_cons (ps_set (i := 5) scLSpoilt.nd rfl (Or.inl rfl) (pe_o o_law_take (hr.mono (by decide)) (by rfl) (pa_cons (pv 0) (pa_cons (pe_callB (call_max2 rfl) (by rfl) (B.u "max" (by decide +kernel)) (by decide +kernel) (pa_cons pe_int (pa_cons (pe_callB call_len (by rfl) (B.u "len" (by decide +kernel)) boot_len (pa_cons (pv 4) pa_nil)) pa_nil))) pa_nil))))
      (pss_cons (ps_asg (pe_ifExp (pt_cmpR (op_neNil hu) (pv 4) (pe_lst pa_nil) (nomark _)) (pe_ix ix_seq (pv 4) (pv 5) fun _ _ => rfl) (pe_tup (pa_cons pe_int (pa_cons pe_int pa_nil)))) (pg_tup rfl (pgs_cons (pg_name (i := 6) scLSpoilt.nd rfl (Or.inl rfl)) (pgs_cons (pg_name (i := 7) scLSpoilt.nd rfl (Or.inl rfl)) pgs_nil))))
      (pss_cons (ps_if (pt_cmpR op_lt (pv 3) pe_int (nomark _))
        (pss_cons (ps_set (i := 8) scLSpoilt.nd rfl (Or.inl rfl) (pe_lst (pa_i1 (S := SSp) (p := p) (pe_iup (k' := 1) (m' := 300) (pe_itup (pa_i1 (pe_iS (pv 7) ss_v) (pa_i1 (pe_iS (pv 6) ss_u) pa_i0)))) (pa_i1 (pe_iup (k' := 1) (m' := 300) (pe_itup (pa_i1 (pe_iS (pv 6) ss_u) (pa_i1 (pe_iS (pv 6) ss_u) pa_i0)))) (pa_i1 (pe_iup (k' := 1) (m' := 300) (pe_itup (pa_i1 (pe_iS (pv 6) ss_u) (pa_i1 (pe_iS (pv 1) ss_n) pa_i0)))) (pa_i1 (pe_iup (k' := 1) (m' := 300) (pe_itup (pa_i1 (pe_iS (pe_un un_neg pe_int) (fun σ H Q s q => ⟨_, rfl, ss_m σ H Q s q⟩)) (pa_i1 (pe_iS (pv 7) ss_v) pa_i0)))) (pa_i1 (pe_iup (k' := 1) (m' := 300) (pe_ilst (pa_i1 (pe_iS (pv 6) ss_u) (pa_i1 (pe_iS (pv 7) ss_v) pa_i0)))) (pa_i1 (pe_iup (k' := 1) (m' := 300) (pe_itup (pa_i1 (pe_iS (pv 6) ss_u) (pa_i1 (pe_iS (pv 7) ss_v) (pa_i1 (pe_iS (pv 7) ss_v) pa_i0))))) (pa_i1 (pe_iup (k' := 1) (m' := 300) (pe_itup (pa_i1 (pe_iS (pv 6) ss_u) pa_i0))) (pa_i1 (pe_iup (k := 0) (m := 40) (k' := 1) (m' := 300) (pe_iC pe_non (fun _ => .non) nc_non)) (pa_i1 (pe_iup (k' := 1) (m' := 300) (pe_itup (pa_i1 (pe_iS (pv 6) ss_u) (pa_i1 (pe_iC (d := .bool true) pe_bl (fun _ => .bl _) (nc_bool _)) pa_i0)))) (pa_i1 (pe_iup (k' := 1) (m' := 300) (pe_itup (pa_i1 (pe_iC (d := .bool false) pe_bl (fun _ => .bl _) (nc_bool _)) (pa_i1 (pe_iS (pv 7) ss_v) pa_i0)))) (pa_i1 (pe_iup (k' := 1) (m' := 300) (pe_itup (pa_i1 (pe_iS (pv 6) ss_u) (pa_i1 (pe_iC (d := .str "1") pe_str (fun _ => .str _) nc_s1) pa_i0)))) pa_i0)))))))))))))
        (pss_one (ps_ret (pe_op op_cat (pe_op op_cat (pe_slice sl_list (pv 4) po_none (po_some (pv 5))) (pe_lst (pa_cons (pe_ix ix_seq (pv 8) (pv 3) fun _ _ => rfl) pa_nil))) (pe_slice sl_list (pv 4) (po_some (pe_op op_add (pv 5) pe_int)) po_none)))))
        pss_nil)
      (pss_cons (ps_if (pt_cmpR op_lt (pv 3) pe_int (nomark _))
        (pss_cons (ps_par (i := 9) (j := 10) rfl scLSpoilt.nd rfl rfl (by decide) rfl rfl (pa_cons (pe_slice sl_list (pv 4) po_none (po_some (pv 5))) (pa_cons (pe_slice sl_list (pv 4) (po_some (pv 5)) po_none) pa_nil)) rfl)
        (pss_one (ps_ret (pe_ix ix_seq (pe_lst (pa_cons (pe_op op_cat (pv 9) (pe_slice sl_list (pv 10) (po_some pe_int) po_none)) (pa_cons (pe_op op_cat (pe_op op_cat (pv 9) (pe_lst (pa_cons (pe_tup (pa_cons (pv 6) (pa_cons (pv 7) pa_nil))) pa_nil))) (pv 10)) (pa_cons (pe_op op_cat (pe_revL (pv 9)) (pv 10)) pa_nil)))) (pe_op op_sub (pv 3) pe_int) fun _ _ => rfl))))
        pss_nil)
      (pss_one (ps_ret (pe_ix ix_seq (pe_lst (pa_i1 (S := SSp) (p := p) (pe_iup (k := 0) (m := 40) (k' := 1) (m' := 300) (pe_iC pe_non (fun _ => .non) nc_non)) (pa_i1 (pe_iup (k := 0) (m := 40) (k' := 1) (m' := 300) (pe_iC (d := .str "") pe_str (fun _ => .str _) nc_s0)) (pa_i1 (pe_iup (k' := 1) (m' := 300) pe_idict0) (pa_i1 (pe_iup (k := 0) (m := 40) (k' := 1) (m' := 300) (pe_iC (d := .int 7) pe_int (fun _ => .int _) (nc_nat (x := 7) (by decide)))) (pa_i1 (pe_iup (k' := 1) (m' := 300) (pe_itup (pa_i1 (pe_iS (pv 6) ss_u) (pa_i1 (pe_iS (pv 7) ss_v) pa_i0)))) pa_i0)))))) (pe_op op_sub (pv 3) pe_int) fun _ _ => rfl)))))))), ?_⟩
    have lr := rok.len
    obtain ⟨xs, hxs, hix⟩ : ∃ xs, del H p r = some (.lst xs) ∧ RddAll (del H p) xs (rs.map rd) := by
      cases hr0 with
      | lst h1 ra => exact ⟨_, h1, ra⟩
    have lx := rdds_len hix
    rw [List.length_map] at lx
    refine ⟨_, rfl, p, 19, c, rfl, hp, by omega, by decide, by decide, fun kind H1 kd0 kd1 k1 hp1 e1 => ?_⟩
    have nrp : r ≠ p := fun e => by rw [e, del_same] at hxs; cases hxs
    refine ⟨_, rfl, r, xs, rfl, .inl (SqL.of (k1 _ _ nrp (del_le _ _ hxs))), fun pl hpl => ?_⟩
    dsimp only [gName, tSeq, gNil, L2.start]
    refine ⟨_, _, rfl, ?_⟩
    have I2 : Items (upd H1 pl (.lst xs)) p xs := (rdd_items hix fun d hd => rd_nc rok n1 hd).mono (k1.trans (But.of (upd_grow hpl)))
    have k2 : But p H (upd H1 pl (.lst xs)) := k1.trans (But.of (upd_grow hpl))
    have hp2 : BoxAt (upd H1 pl (.lst xs)) p (c + 1) := hp1.same (upd_grow hpl)
    have hl2 : upd H1 pl (.lst xs) pl = some (.lst xs) := upd_same
    obtain ⟨ob, hob⟩ := hp1.some
    have nlp : pl ≠ p := (ne_of_none hob hpl).symm
    generalize upd H1 pl (.lst xs) = H2 at I2 k2 hp2 hl2
    refine ⟨_, rfl, _, rfl, _, _, rfl, .inl ⟨_, SqL.of hl2, rfl⟩, _, _, rfl, p, _, _, rfl, hp2, by omega, by split <;> omega, by split <;> omega, fun pi H3 p0 p1 k3 hp3 e3 => ?_⟩
    have k03 := k2.trans k3
    have hl3 := k3 _ _ nlp hl2
    have I3 := I2.mono k3
    obtain ⟨pn, rfl⟩ : ∃ pn : Nat, pi = pn := ⟨pi.toNat, by omega⟩
    have pl1 : xs ≠ [] → pn < xs.length := fun ne => by
      have : 0 < xs.length := List.length_pos_iff.mpr ne
      split at p1 <;> omega
    dsimp only [gName]
    refine tSeq_by (fun σ H' => ∃ u v : Nat, u < 64 ∧ v < 64 ∧ But p H H' ∧ BoxAt H' p (c + 2) ∧ H' pl = some (.lst xs) ∧ Items H' p xs ∧ σ = [some (.ref p), some (.int n), some (.ref r), some (.int kind), some (.ref pl), some (.int pn), some (.int u), some (.int v), none, none, none]) ?_ fun rest => ?_
    · rintro σ H4 ⟨u, v, u1, v1, k4, hp4, hl4, I4, rfl⟩
      have fresh : ∀ {H' : Hp} {a : Addr}, Same H4 H' → H' a = none → a ≠ p := fun k e z => by
        obtain ⟨o, ho⟩ := hp4.some
        rw [z, k _ _ ho] at e
        cases e
      have done : ∀ {H' : Hp} {a : Addr} {ys : List V}, Same H4 H' → H' a = none → Items H' p ys → ys.length ≤ 140 → Q (.ref a) (upd H' a (.lst ys)) := fun {H' a ys} k e i l => by
        have nap := fresh k e
        have ku := upd_grow (o := .lst ys) e
        obtain ⟨d, rd, nd⟩ := (i.mono (But.of ku)).rd (l := a) upd_same nap l
        exact q _ d _ (k4.trans (But.of (k.trans ku))) ((hp4.same (k.trans ku)).up (by omega)) rd nd
      refine ⟨_, rfl, _, _, rfl, rfl, _, rfl, iteB (fun c1 => ?_) fun c1 => ?_⟩
      · have c1 := of_decide_eq_true c1
        obtain ⟨kn, rfl⟩ : ∃ kn : Nat, kind = kn := ⟨kind.toNat, by omega⟩
        refine ⟨⟨n, u, v, by omega, by omega, by omega, rfl, rfl, rfl⟩, hp4.some, fun ws H5 k5 l5 r5 => ⟨two_ln (by omega), fun pw hpw => ?_⟩⟩
        have ka := k5.trans (upd_grow (o := .lst ws) hpw)
        have hw : upd H5 pw (.lst ws) pw = some (.lst ws) := upd_same
        have Iw : Items (upd H5 pw (.lst ws)) p ws := Items.mono (fun x hx => r5 x hx) (But.of (upd_grow hpw))
        generalize upd H5 pw (.lst ws) = H6 at ka hw Iw
        have hk : kn < ws.length := by omega
        refine ⟨_, rfl, _, rfl, _, rfl, pl, xs, rfl, SqL.of (ka _ _ hl4), fun ph hph => ?_⟩
        have kb := ka.trans (upd_grow (o := .lst (cutV xs none (some (pn : Int)))) hph)
        have hh : upd H6 ph (.lst (cutV xs none (some (pn : Int)))) ph = some (.lst (cutV xs none (some (pn : Int)))) := upd_same
        have hw7 := upd_grow (o := .lst (cutV xs none (some (pn : Int)))) hph _ _ hw
        have Iw7 := Iw.mono (But.of (upd_grow (o := .lst (cutV xs none (some (pn : Int)))) hph))
        generalize upd H6 ph (.lst (cutV xs none (some (pn : Int)))) = H7 at kb hh hw7 Iw7
        refine ⟨_, rfl, _, rfl, ixAt hw7 (atI_nat (List.getElem?_eq_getElem hk)) ⟨two_ln (by show 1 ≤ _; decide), fun po hpo => ?_⟩⟩
        have kc := kb.trans (upd_grow (o := .lst [ws[kn]]) hpo)
        have ho : upd H7 po (.lst [ws[kn]]) po = some (.lst [ws[kn]]) := upd_same
        have hh8 := upd_grow (o := .lst [ws[kn]]) hpo _ _ hh
        have Io : Items (upd H7 po (.lst [ws[kn]])) p [ws[kn]] := (Iw7.sub fun y hy => by rw [List.mem_singleton.mp hy]; exact List.getElem_mem hk).mono (But.of (upd_grow hpo))
        generalize upd H7 po (.lst [ws[kn]]) = H8 at kc ho hh8 Io
        have lc := len_cut (xs := xs) (lo := none) (hi := some (pn : Int))
        refine ⟨ph, po, _, _, rfl, rfl, hh8, ho, two_ln (by simp only [List.length_cons, List.length_nil]; omega), fun pc hpc => ?_⟩
        have kd := kc.trans (upd_grow (o := .lst (cutV xs none (some (pn : Int)) ++ [ws[kn]])) hpc)
        have hc9 : upd H8 pc (.lst (cutV xs none (some (pn : Int)) ++ [ws[kn]])) pc = some (.lst (cutV xs none (some (pn : Int)) ++ [ws[kn]])) := upd_same
        have Io9 := Io.mono (But.of (upd_grow (o := .lst (cutV xs none (some (pn : Int)) ++ [ws[kn]])) hpc))
        generalize upd H8 pc (.lst (cutV xs none (some (pn : Int)) ++ [ws[kn]])) = H9 at kd hc9 Io9
        refine ⟨_, rfl, _, rfl, _, _, rfl, rfl, _, rfl, pl, xs, rfl, SqL.of (kd _ _ hl4), fun pt hpt => ?_⟩
        have ke := kd.trans (upd_grow (o := .lst (cutV xs (some ((pn : Int) + 1)) none)) hpt)
        have lc2 := len_cut (xs := xs) (lo := some ((pn : Int) + 1)) (hi := none)
        refine ⟨pc, pt, _, _, rfl, rfl, upd_grow hpt _ _ hc9, upd_same, two_ln (by simp only [List.length_append, List.length_cons, List.length_nil]; omega), fun pr hpr => done ke hpr ?_ (by simp only [List.length_append, List.length_cons, List.length_nil]; omega)⟩
        have I9 := I4.mono (But.of ke)
        exact ((I9.sub fun y hy => mem_cut hy).app (Io9.mono (But.of (upd_grow hpt)))).app (I9.sub fun y hy => mem_cut hy)
      · refine ⟨_, rfl, _, _, rfl, rfl, _, rfl, iteB (fun c2 => ?_) fun c2 => ?_⟩
        · have c1 := of_decide_eq_false c1
          have c2 := of_decide_eq_true c2
          have done2 : ∀ {H' : Hp} {a : Addr} {ys : List V}, Same H4 H' → H' a = some (.lst ys) → a ≠ p → Items H' p ys → ys.length ≤ 140 → Q (.ref a) H' := fun {H' a ys} k e na i l => by
            obtain ⟨d, rd, nd⟩ := i.rd e na l
            exact q _ d _ (k4.trans (But.of k)) ((hp4.same k).up (by omega)) rd nd
          have lc := len_cut (xs := xs) (lo := none) (hi := some (pn : Int))
          have lc2 := len_cut (xs := xs) (lo := some (pn : Int)) (hi := none)
          refine ⟨_, rfl, _, rfl, _, rfl, pl, xs, rfl, SqL.of hl4, fun ph hph => ?_⟩
          have ka := upd_grow (o := .lst (cutV xs none (some (pn : Int)))) hph
          have hh : upd H4 ph (.lst (cutV xs none (some (pn : Int)))) ph = some (.lst (cutV xs none (some (pn : Int)))) := upd_same
          generalize upd H4 ph (.lst (cutV xs none (some (pn : Int)))) = H5 at ka hh
          refine ⟨_, rfl, _, rfl, _, rfl, pl, xs, rfl, SqL.of (ka _ _ hl4), fun pt hpt => ?_⟩
          have kb := ka.trans (upd_grow (o := .lst (cutV xs (some (pn : Int)) none)) hpt)
          have hh6 := upd_grow (o := .lst (cutV xs (some (pn : Int)) none)) hpt _ _ hh
          have ht6 : upd H5 pt (.lst (cutV xs (some (pn : Int)) none)) pt = some (.lst (cutV xs (some (pn : Int)) none)) := upd_same
          generalize upd H5 pt (.lst (cutV xs (some (pn : Int)) none)) = H6 at kb hh6 ht6
          have Ih : ∀ {H'}, Same H4 H' → Items H' p (cutV xs none (some (pn : Int))) := fun k => (I4.mono (But.of k)).sub fun y hy => mem_cut hy
          have It : ∀ {H'}, Same H4 H' → Items H' p (cutV xs (some (pn : Int)) none) := fun k => (I4.mono (But.of k)).sub fun y hy => mem_cut hy
          generalize cutV xs none (some (pn : Int)) = hs at hh6 lc Ih hh
          generalize cutV xs (some (pn : Int)) none = ts at ht6 lc2 It
          clear hh
          refine ⟨_, _, rfl, ?_⟩
          have lt1 := len_cut (xs := ts) (lo := some 1) (hi := none)
          refine ⟨_, rfl, _, rfl, _, rfl, pt, ts, rfl, SqL.of ht6, fun p1 hp1' => ?_⟩
          have kc := upd_grow (o := .lst (cutV ts (some 1) none)) hp1'
          refine ⟨ph, p1, _, _, rfl, rfl, kc _ _ hh6, upd_same, two_ln (by omega), fun pa hpa => ?_⟩
          have kd := kc.trans (upd_grow (o := .lst (hs ++ cutV ts (some 1) none)) hpa)
          have ha7 : upd (upd H6 p1 (.lst (cutV ts (some 1) none))) pa (.lst (hs ++ cutV ts (some 1) none)) pa = some (.lst (hs ++ cutV ts (some 1) none)) := upd_same
          have nap : pa ≠ p := fresh (kb.trans kc) hpa
          have Ia : ∀ {H'}, Same H4 H' → Items H' p (hs ++ cutV ts (some 1) none) := fun k => (Ih k).app ((It k).sub fun y hy => mem_cut hy)
          have la : (hs ++ cutV ts (some 1) none).length ≤ 140 := by rw [List.length_append]; omega
          generalize upd (upd H6 p1 (.lst (cutV ts (some 1) none))) pa (.lst (hs ++ cutV ts (some 1) none)) = H7 at kd ha7
          generalize hs ++ cutV ts (some 1) none = as at ha7 Ia la
          have k7 := kb.trans kd
          refine ⟨_, rfl, _, rfl, _, rfl, two_ln (by show 2 ≤ _; decide), fun pz hpz => ⟨two_ln (by show 1 ≤ _; decide), fun po hpo => ?_⟩⟩
          have ke := (upd_grow (o := .tup [.int u, .int v]) hpz).trans (upd_grow (o := .lst [.ref pz]) hpo)
          have nzp : pz ≠ p := fresh k7 hpz
          have hz8 : upd (upd H7 pz (.tup [.int u, .int v])) po (.lst [.ref pz]) pz = some (.tup [.int u, .int v]) := upd_grow hpo _ _ upd_same
          have ho8 : upd (upd H7 pz (.tup [.int u, .int v])) po (.lst [.ref pz]) po = some (.lst [.ref pz]) := upd_same
          generalize upd (upd H7 pz (.tup [.int u, .int v])) po (.lst [.ref pz]) = H8 at ke hz8 ho8
          have k8 := k7.trans ke
          have Iz : ∀ {H'}, Same H8 H' → Items H' p [.ref pz] := fun k y hy => by
            rw [List.mem_singleton.mp hy]
            refine ⟨.tuple [.int u, .int v], .tup (by rw [del_ne nzp]; exact k _ _ hz8) (.cons (.int _) (.cons (.int _) .nil)), (nc_tup (k := 0) (m := 40) (l := 2) (fun e he => ?_) (Nat.le_refl _)).up⟩
            simp only [List.mem_cons, List.not_mem_nil, or_false] at he
            rcases he with rfl | rfl
            · exact nc_nat (by omega)
            · exact nc_nat (by omega)
          refine ⟨ph, po, _, _, rfl, rfl, ke _ _ (kd _ _ hh6), ho8, two_ln (by simp only [List.length_cons, List.length_nil]; omega), fun pb0 hpb0 => ?_⟩
          have kf := upd_grow (o := .lst (hs ++ [V.ref pz])) hpb0
          refine ⟨_, rfl, pb0, pt, _, _, rfl, rfl, upd_same, kf _ _ (ke _ _ (kd _ _ ht6)), two_ln (by simp only [List.length_append, List.length_cons, List.length_nil]; omega), fun pb hpb => ?_⟩
          have kg := kf.trans (upd_grow (o := .lst (hs ++ [V.ref pz] ++ ts)) hpb)
          have hb9 : upd (upd H8 pb0 (.lst (hs ++ [V.ref pz]))) pb (.lst (hs ++ [V.ref pz] ++ ts)) pb = some (.lst (hs ++ [V.ref pz] ++ ts)) := upd_same
          have nbp : pb ≠ p := fresh (k8.trans kf) hpb
          generalize upd (upd H8 pb0 (.lst (hs ++ [V.ref pz]))) pb (.lst (hs ++ [V.ref pz] ++ ts)) = H9 at kg hb9
          have k9 := k8.trans kg
          have Ib : ∀ {H'}, Same H9 H' → Items H' p (hs ++ [V.ref pz] ++ ts) := fun k => ((Ih (k9.trans k)).app (Iz (kg.trans k))).app (It (k9.trans k))
          have lb : (hs ++ [V.ref pz] ++ ts).length ≤ 140 := by simp only [List.length_append, List.length_cons, List.length_nil]; omega
          generalize hs ++ [V.ref pz] ++ ts = bs at hb9 Ib lb
          refine ⟨_, rfl, ph, hs, rfl, SqL.of (kg _ _ (ke _ _ (kd _ _ hh6))), fun pv hpv => ⟨_, rfl, pv, pt, _, _, rfl, rfl, upd_same, upd_grow hpv _ _ (kg _ _ (ke _ _ (kd _ _ ht6))), two_ln (by rw [List.length_reverse]; omega), fun pc hpc => ⟨two_ln (by show 3 ≤ _; decide), fun pL hpL => ?_⟩⟩⟩
          have kh := (upd_grow (o := .lst hs.reverse) hpv).trans (upd_grow (o := .lst (hs.reverse ++ ts)) hpc)
          have ki := kh.trans (upd_grow (o := .lst [.ref pa, .ref pb, .ref pc]) hpL)
          have hcX := upd_grow (o := .lst [.ref pa, .ref pb, .ref pc]) hpL pc _ (upd_same (H := upd H9 pv (.lst hs.reverse)) (o := .lst (hs.reverse ++ ts)))
          have ncp : pc ≠ p := fresh (k9.trans (upd_grow hpv)) hpc
          have hLX := upd_same (H := upd (upd H9 pv (.lst hs.reverse)) pc (.lst (hs.reverse ++ ts))) (a := pL) (o := .lst [.ref pa, .ref pb, .ref pc])
          generalize upd (upd (upd H9 pv (.lst hs.reverse)) pc (.lst (hs.reverse ++ ts))) pL (.lst [.ref pa, .ref pb, .ref pc]) = HX at ki hcX hLX
          have kX := k9.trans ki
          have ga := done2 kX (ki _ _ (kg _ _ (ke _ _ ha7))) nap (Ia kX) la
          have gb := done2 kX (ki _ _ hb9) nbp (Ib ki) lb
          have gc := done2 kX hcX ncp (((Ih kX).sub fun y hy => List.mem_reverse.mp hy).app (It kX)) (by rw [List.length_append, List.length_reverse]; omega)
          refine ⟨_, rfl, _, _, rfl, rfl, ?_⟩
          show rIx K _ (V.int (kind - 11)) _ _
          have three : kind = 11 ∨ kind = 12 ∨ kind = 13 := by omega
          rcases three with rfl | rfl | rfl
          · exact ixAt hLX (atI_nat (j := 0) rfl) ga
          · exact ixAt hLX (atI_nat (j := 1) rfl) gb
          · exact ixAt hLX (atI_nat (j := 2) rfl) gc
        · have c2 := of_decide_eq_false c2
          refine ⟨⟨n, u, v, by omega, by omega, by omega, rfl, rfl, rfl⟩, hp4.some, fun ws H5 k5 l5 r5 => ⟨two_ln (by omega), fun pw hpw => ?_⟩⟩
          obtain ⟨kn, hk⟩ : ∃ kn : Nat, kind - 14 = kn := ⟨(kind - 14).toNat, by omega⟩
          have hkl : kn < ws.length := by omega
          refine ⟨_, rfl, _, _, rfl, rfl, ?_⟩
          show rIx K _ (V.int (kind - 14)) _ _
          rw [hk]
          obtain ⟨d, rd, nd⟩ := r5 _ (List.getElem_mem hkl)
          have ku := k5.trans (upd_grow (o := .lst ws) hpw)
          exact ixAt upd_same (atI_nat (List.getElem?_eq_getElem hkl)) (q _ d _ (k4.trans (But.of ku)) ((hp4.same ku).up (by omega)) (rd.mono (del_mono (upd_grow hpw))) nd.up)
    · refine ⟨_, rfl, two_ln (by show 0 ≤ _; decide), fun pe hpe => ⟨pl, pe, xs, rfl, rfl, SqL.of (upd_grow hpe _ _ hl3), SqL.of upd_same, _, rfl, iteB (fun e => ?_) fun e => ?_⟩⟩
      · have ne : xs ≠ [] := fun z => by rw [z] at e; cases e
        have pnl := pl1 ne
        obtain ⟨x, hx, rx⟩ := rdds_get hix (show (rs.map rd)[pn]? = some (rd rs[pn]) by rw [List.getElem?_map, List.getElem?_eq_getElem (by omega)]; rfl)
        have bi := rok.bnd _ (List.getElem_mem (show pn < rs.length by omega))
        generalize rs[pn] = ro at rx bi
        obtain ⟨u, v⟩ := ro
        unfold rd at rx
        cases rx with
        | @tup pt zs es ht r2 =>
          obtain ⟨y1, y2, rfl, r3, r4⟩ := rdds_two r2
          cases r3
          cases r4
          simp only at bi
          have npt : pt ≠ p := fun e => by rw [e, del_same] at ht; cases ht
          refine ⟨_, rfl, _, rfl, ixAt (upd_grow hpe _ _ hl3) (atI_nat hx) ⟨pt, _, rfl, SqT.of (upd_grow hpe _ _ (k03 _ _ npt (del_le _ _ ht))), rfl, _, _, rfl, _, _, rfl, rfl, ?_⟩⟩
          exact rest _ _ ⟨u, v, by omega, by omega, k03.trans (But.of (upd_grow hpe)), hp3.same (upd_grow hpe), upd_grow hpe _ _ hl3, I3.mono (But.of (upd_grow hpe)), rfl⟩
      · refine ⟨two_ln (by show 2 ≤ _; decide), fun pz hpz => ⟨pz, _, rfl, SqT.of upd_same, rfl, _, _, rfl, _, _, rfl, rfl, ?_⟩⟩
        have kz := (upd_grow (o := .lst []) hpe).trans (upd_grow (o := .tup [.int 0, .int 0]) hpz)
        exact rest _ _ ⟨0, 0, by decide, by decide, k03.trans (But.of kz), hp3.same kz, kz _ _ hl3, I3.mono (But.of kz), rfl⟩
end
end K02

namespace K02
open PySem PySem.Spec PyProof.Rows L2
abbrev sLOther : Stmt := top 43
theorem scLOther : FnScope ["box", "houses", "roads", "place", "u", "v"] ["box", "houses", "roads"] (defScope sLOther) := ⟨rfl, rfl, rfl, by decide +kernel, rfl, by decide +kernel, by decide +kernel⟩
abbrev sLRDue : Stmt := top 44
theorem scLRDue : FnScope ["houses", "roads", "road", "k"] ["houses", "roads"] (defScope sLRDue) := ⟨rfl, rfl, rfl, by decide +kernel, rfl, by decide +kernel, by decide +kernel⟩
def spOther : Sp := fun vs H Q _ => ∃ (p r : Addr) (n c : Nat) (rs : List Tm.Road), vs = [.ref p, .int n, .ref r] ∧ BoxAt H p c ∧ c + 5 < 1000 ∧ n ≤ 64 ∧ Rdd (del H p) (.ref r) (.list (rs.map rd)) ∧ Tm.RoadsOk n rs ∧
  ∀ v d H', But p H H' → BoxAt H' p (c + 3) → Rdd (del H' p) v d → Nc 3 60000 d → Q v H'
section
variable {P : Program} {w : World} {K : PySem.W.Frag} {mg : Str → Option Value} {base : Heap} {f : Addr} {fd : FuncData}
theorem ok_other (F : Fd K "_law_other_road" sLOther f fd) (g : mg "_law_other_road" = some (.ref f)) (B : Bl mg) (o_law_take : Ok P w K mg base CX0 1 "_law_take" sTake ["box", "many"] spDraw1) : Ok P w K mg base CX0 2 "_law_other_road" sLOther ["box", "houses", "roads"] spOther := by
  refine ⟨f, fd, g, F, F.bindsN fun _ _ _ _ _ _ us hl => match us, hl with | [_, _, _], _ => rfl, F.ok scLOther (fun vs H Q E h => ?_) (fun cdv A outer s H vs Q E hr h => ?_)⟩
  · obtain ⟨p, r, n, c, rs, rfl, _⟩ := h
    rfl
  · obtain ⟨p, r, n, c, rs, rfl, hp, hc, n1, hr0, rok, q⟩ := h
    refine ⟨_, (pss_cons (ps_par (i := 3) (j := 4) rfl scLOther.nd rfl rfl (by decide) rfl rfl (pa_cons (pe_o o_law_take (hr.mono (by decide)) (by rfl) (pa_cons (pv 0) (pa_cons (pe_callB (call_max2 rfl) (by rfl) (B.u "max" (by decide +kernel)) (by decide +kernel) (pa_cons pe_int (pa_cons (pe_callB call_len (by rfl) (B.u "len" (by decide +kernel)) boot_len (pa_cons (pv 2) pa_nil)) pa_nil))) pa_nil))) (pa_cons (pe_o o_law_take (hr.mono (by decide)) (by rfl) (pa_cons (pv 0) (pa_cons (pv 1) pa_nil))) pa_nil)) rfl)
      (pss_cons (ps_set (i := 5) scLOther.nd rfl (Or.inl rfl) (pe_op op_mod (pe_op op_add (pe_op op_add (pv 4) pe_int) (pe_o o_law_take (hr.mono (by decide)) (by rfl) (pa_cons (pv 0) (pa_cons (pe_callB (call_max2 rfl) (by rfl) (B.u "max" (by decide +kernel)) (by decide +kernel) (pa_cons pe_int (pa_cons (pe_op op_sub (pv 1) pe_int) pa_nil))) pa_nil)))) (pv 1)))
      (pss_one (ps_ret (pe_callB cr_sortedPO (by rfl) (B.u "sorted" (by decide +kernel)) (by decide +kernel) (pa_cons (pe_op op_cat (pe_op op_cat (pe_slice sl_list (pv 2) po_none (po_some (pv 3))) (pe_slice sl_list (pv 2) (po_some (pe_op op_add (pv 3) pe_int)) po_none)) (pe_lst (pa_cons (pe_tup (pa_cons (pe_callB (call_min2 rfl) (by rfl) (B.u "min" (by decide +kernel)) (by decide +kernel) (pa_cons (pv 4) (pa_cons (pv 5) pa_nil))) (pa_cons (pe_callB (call_max2 rfl) (by rfl) (B.u "max" (by decide +kernel)) (by decide +kernel) (pa_cons (pv 4) (pa_cons (pv 5) pa_nil))) pa_nil))) pa_nil))) pa_nil)))))), ?_⟩
    have lr := rok.len
    obtain ⟨xs, hxs, hix⟩ : ∃ xs, del H p r = some (.lst xs) ∧ RddAll (del H p) xs (rs.map rd) := by
      cases hr0 with
      | lst h1 ra => exact ⟨_, h1, ra⟩
    have lx := rdds_len hix
    rw [List.length_map] at lx
    have nrp : r ≠ p := fun e => by rw [e, del_same] at hxs; cases hxs
    have hxs0 := del_le _ _ hxs
    refine ⟨_, rfl, _, rfl, _, _, rfl, .inl ⟨_, SqL.of hxs0, rfl⟩, _, _, rfl, p, _, c, rfl, hp, by omega, by split <;> omega, by split <;> omega, fun pi H1 p0 p1 k1 hp1 e1 => ?_⟩
    refine ⟨_, rfl, _, rfl, p, n, _, rfl, hp1, by omega, by omega, by omega, fun ui H2 u0 u1 k2 hp2 e2 => ?_⟩
    obtain ⟨pn, rfl⟩ : ∃ pn : Nat, pi = pn := ⟨pi.toNat, by omega⟩
    obtain ⟨u, rfl⟩ : ∃ u : Nat, ui = u := ⟨ui.toNat, by omega⟩
    dsimp only [gName, tSeq, gNil, L2.start]
    refine ⟨_, _, rfl, ?_⟩
    refine ⟨_, rfl, _, _, rfl, rfl, _, rfl, _, rfl, _, _, rfl, rfl, _, _, rfl, p, _, _, rfl, hp2, by omega, by split <;> omega, by split <;> omega, fun di H3 d0 d1 k3 hp3 e3 => ⟨_, _, rfl, rfl, _, rfl, _, _, rfl, rfl, (by show (0 : Int) < (n : Int); omega), ?_⟩⟩
    have v0 : 0 ≤ ((u : Int) + 1 + di) % (n : Int) := Int.emod_nonneg _ (by omega)
    have v1 : ((u : Int) + 1 + di) % (n : Int) < n := Int.emod_lt_of_pos _ (by omega)
    obtain ⟨A, hA, eA⟩ : ∃ A : Nat, A < 64 ∧ (if ((u : Int) + 1 + di) % (n : Int) < u then ((u : Int) + 1 + di) % (n : Int) else (u : Int)) = A := ⟨(if ((u : Int) + 1 + di) % (n : Int) < u then ((u : Int) + 1 + di) % (n : Int) else (u : Int)).toNat, by split <;> omega, by split <;> omega⟩
    obtain ⟨B2, hB, eB⟩ : ∃ B2 : Nat, B2 < 64 ∧ (if ((u : Int) + 1 + di) % (n : Int) > u then ((u : Int) + 1 + di) % (n : Int) else (u : Int)) = B2 := ⟨(if ((u : Int) + 1 + di) % (n : Int) > u then ((u : Int) + 1 + di) % (n : Int) else (u : Int)).toNat, by split <;> omega, by split <;> omega⟩
    have k03 : But p H H3 := k1.trans (k2.trans k3)
    have hx3 := k03 _ _ nrp hxs0
    obtain ⟨ob, hob⟩ := hp3.some
    have fresh : ∀ {H' : Hp} {a : Addr}, Same H3 H' → H' a = none → a ≠ p := fun k e z => by
      rw [z, k _ _ hob] at e
      cases e
    refine ⟨_, rfl, _, rfl, _, rfl, r, xs, rfl, SqL.of hx3, fun ph hph => ⟨_, rfl, _, rfl, _, _, rfl, rfl, _, rfl, r, xs, rfl, SqL.of (upd_grow hph _ _ hx3), fun pt hpt => ?_⟩⟩
    have lc := len_cut (xs := xs) (lo := none) (hi := some (pn : Int))
    have lc2 := len_cut (xs := xs) (lo := some ((pn : Int) + 1)) (hi := none)
    refine ⟨ph, pt, _, _, rfl, rfl, upd_grow hpt _ _ upd_same, upd_same, two_ln (by omega), fun pc hpc => ?_⟩
    have ka := ((upd_grow (o := .lst (cutV xs none (some (pn : Int)))) hph).trans (upd_grow (o := .lst (cutV xs (some ((pn : Int) + 1)) none)) hpt)).trans (upd_grow (o := .lst (cutV xs none (some (pn : Int)) ++ cutV xs (some ((pn : Int) + 1)) none)) hpc)
    have hcc := upd_same (H := upd (upd H3 ph (.lst (cutV xs none (some (pn : Int))))) pt (.lst (cutV xs (some ((pn : Int) + 1)) none))) (a := pc) (o := .lst (cutV xs none (some (pn : Int)) ++ cutV xs (some ((pn : Int) + 1)) none))
    generalize upd (upd (upd H3 ph (.lst (cutV xs none (some (pn : Int))))) pt (.lst (cutV xs (some ((pn : Int) + 1)) none))) pc (.lst (cutV xs none (some (pn : Int)) ++ cutV xs (some ((pn : Int) + 1)) none)) = H4 at ka hcc
    have lcs : (cutV xs none (some (pn : Int)) ++ cutV xs (some ((pn : Int) + 1)) none).length ≤ 128 := by rw [List.length_append]; omega
    have mcs : ∀ y ∈ cutV xs none (some (pn : Int)) ++ cutV xs (some ((pn : Int) + 1)) none, y ∈ xs := fun y hy => (List.mem_append.mp hy).elim mem_cut mem_cut
    generalize cutV xs none (some (pn : Int)) ++ cutV xs (some ((pn : Int) + 1)) none = cs at hcc lcs mcs
    refine ⟨_, rfl, _, rfl, _, _, rfl, _, rfl, _, rfl, _, _, rfl, two_ln (by show 2 ≤ _; decide), fun pz hpz => ⟨two_ln (by show 1 ≤ _; decide), fun po hpo => ?_⟩⟩
    rw [eA, eB] at hpo
    refine ⟨pc, po, cs, [.ref pz], rfl, rfl, upd_grow (by rw [eA, eB]; exact hpo) _ _ (upd_grow hpz _ _ hcc), upd_same, two_ln (by simp only [List.length_cons, List.length_nil]; omega), fun pd hpd => ?_⟩
    rw [eA, eB] at hpd ⊢
    have kb := (ka.trans (upd_grow (o := .tup [.int A, .int B2]) hpz)).trans (upd_grow (o := .lst [.ref pz]) hpo)
    have kc := kb.trans (upd_grow (o := .lst (cs ++ [.ref pz])) hpd)
    have hz : upd (upd (upd H4 pz (.tup [.int A, .int B2])) po (.lst [.ref pz])) pd (.lst (cs ++ [.ref pz])) pz = some (.tup [.int A, .int B2]) := upd_grow hpd _ _ (upd_grow hpo _ _ upd_same)
    have hd : upd (upd (upd H4 pz (.tup [.int A, .int B2])) po (.lst [.ref pz])) pd (.lst (cs ++ [.ref pz])) pd = some (.lst (cs ++ [.ref pz])) := upd_same
    have nzp := fresh ka hpz
    generalize upd (upd (upd H4 pz (.tup [.int A, .int B2])) po (.lst [.ref pz])) pd (.lst (cs ++ [.ref pz])) = H7 at kc hz hd
    have kall := k03.trans (But.of kc)
    have mem : ∀ x ∈ cs ++ [V.ref pz], ∃ t, ∃ a b : Nat, a < 64 ∧ b < 64 ∧ x = .ref t ∧ t ≠ p ∧ H7 t = some (.tup [.int a, .int b]) := fun x hx => by
      rcases List.mem_append.mp hx with hx | hx
      · obtain ⟨i, hi, e⟩ := List.mem_iff_getElem.mp (mcs x hx)
        obtain ⟨y, hy, ry⟩ := rdds_get hix (show (rs.map rd)[i]? = some (rd rs[i]) by rw [List.getElem?_map, List.getElem?_eq_getElem (by omega)]; rfl)
        rw [List.getElem?_eq_getElem hi, e] at hy
        obtain rfl := Option.some.inj hy
        have bi := rok.bnd _ (List.getElem_mem (show i < rs.length by omega))
        generalize rs[i] = ro at ry bi
        obtain ⟨a, b⟩ := ro
        unfold rd at ry
        cases ry with
        | @tup pt zs es ht r2 =>
          obtain ⟨y1, y2, rfl, r3, r4⟩ := rdds_two r2
          cases r3
          cases r4
          simp only at bi
          have npt : pt ≠ p := fun e => by rw [e, del_same] at ht; cases ht
          exact ⟨pt, a, b, by omega, by omega, rfl, npt, kall _ _ npt (del_le _ _ ht)⟩
      · rw [List.mem_singleton.mp hx]
        exact ⟨pz, A, B2, hA, hB, rfl, nzp, hz⟩
    let kf : V → Int × Int := fun x => match x with
      | .ref t => match H7 t with
        | some (.tup [.int a, .int b]) => (a, b)
        | _ => (0, 0)
      | _ => (0, 0)
    refine ⟨pd, cs ++ [.ref pz], kf, rfl, SqL.of hd, fun x hx => ?_, fun ys p' srt stb hp' => ?_⟩
    · obtain ⟨t, a, b, _, _, rfl, _, ht⟩ := mem x hx
      have e : kf (.ref t) = ((a : Int), (b : Int)) := by simp only [kf, ht]
      exact ⟨t, rfl, by rw [e]; exact ht⟩
    · have pm := stb.perm
      have ku := upd_grow (o := .lst ys) hp'
      have it : Items (upd H7 p' (.lst ys)) p ys := fun x hx => by
        obtain ⟨t, a, b, ha, hb, rfl, nt, ht⟩ := mem x (pm.mem_iff.mp hx)
        refine ⟨.tuple [.int a, .int b], .tup (by rw [del_ne nt]; exact ku _ _ ht) (.cons (.int _) (.cons (.int _) .nil)), (nc_tup (k := 0) (m := 40) (l := 2) (fun e he => ?_) (Nat.le_refl _)).up⟩
        simp only [List.mem_cons, List.not_mem_nil, or_false] at he
        rcases he with rfl | rfl
        · exact nc_nat (by omega)
        · exact nc_nat (by omega)
      obtain ⟨d, rdd, nd⟩ := it.rd (l := p') upd_same (fresh kc hp') (by rw [pm.length_eq]; simp only [List.length_append, List.length_cons, List.length_nil]; omega)
      exact q _ d _ (kall.trans (But.of ku)) ((hp3.same (kc.trans ku)).up (by omega)) rdd nd
end
end K02

/-! a >= b of tuples of whole numbers -/
namespace L2
open PySem PySem.Spec PyProof.Rows
theorem rcGe_int (A : Around) (s : Shared) (a : Int) (t : Tok) (c : Int) (u : Tok) (prog : Program) (w : World) (E Q : Value → Shared → Prop) (q : Q (.bool (decide (c ≤ a))) s) : wpAny (model prog w) A (richCompare .GtE (.int a t) (.int c u)) Q E s := PyProof.Rows.ge_int (E := E) q
theorem tuple_ge_ints (l b : Addr) (items items2 : Array Value) (n n2 : Nat) (dd dd2 : Option Addr) (sl sl2 : Array (Option Value)) (ns ms : List Int) (h1 : IntsAre items.toList ns) (h2 : IntsAre items2.toList ms) :
    Meets (Builtin.«tuple.__ge__» { pos := [.ref l, .ref b] }) fun _ R s => s.heap.get? l = some { cls := .type "tuple", dict := dd, data := .seq items n, slots := sl } ∧ s.heap.get? b = some { cls := .type "tuple", dict := dd2, data := .seq items2 n2, slots := sl2 } ∧
      R (.ok (.ret (.bool (!HT.lexLt ns ms)))) s := by
  refine Meets.of_wp fun prog w A R s ⟨g1, g2, q⟩ => ?_
  refine wpAny_bind (wpAny_pure ?_)
  refine wpAny_bind ?_
  refine wpAny_bind (wpAny_typeOf_ref g2 ?_)
  refine wpAny_of_eq AutoSeq1.sub_tuple_tuple ?_
  refine wpAny_ite_false rfl ?_
  refine wpAny_bind (wpAny_tupleItemsOf g1 rfl ?_)
  refine wpAny_bind (wpAny_tupleItemsOf g2 rfl ?_)
  have len : ∀ {vs : List Value} {ns : List Int}, IntsAre vs ns → vs.length = ns.length := fun h => by
    induction h with
    | nil => rfl
    | cons n t _ ih => rw [List.length_cons, List.length_cons, ih]
  have l1 := len h1
  have l2 := len h2
  rw [Array.length_toList] at l1 l2
  refine wpAny_bind (wpAny_forIn_list _ (fun rest b' s' => ∃ (xs ys : List Value) (ns' ms' : List Int), rest = xs.zip ys ∧ IntsAre xs ns' ∧ IntsAre ys ms' ∧ b' = (none, ()) ∧ s' = s ∧ HT.lexLt ns' ms' = HT.lexLt ns ms ∧ ns.length + ms'.length = ms.length + ns'.length) _ ?_ ?_ _ _ ⟨items.toList, items2.toList, ns, ms, rfl, h1, h2, rfl, rfl, rfl, by omega⟩)
  · rintro x rest b' s' ⟨xs, ys, ns', ms', e, i1, i2, rfl, rfl, lx, ln⟩
    cases i1 with
    | nil => cases e
    | cons a t i1 =>
      cases i2 with
      | nil => cases e
      | cons c u i2 =>
        cases e
        obtain ⟨q0, hq, hqe⟩ := HT.eqAt_int A.in1 s' a t c u
        refine wpAny_bind (hq prog w _ _ ?_)
        rw [HT.lexLt_cons] at lx
        cases q0 with
        | true =>
          have e := hqe.mp rfl
          rw [if_pos e] at lx
          exact wpAny_ite_false rfl (wpAny_pure ⟨_, _, _, _, rfl, i1, i2, rfl, rfl, lx, by simp only [List.length_cons] at ln; omega⟩)
        | false =>
          have ne : ¬ a = c := fun z => by have := hqe.mpr z; cases this
          rw [if_neg ne] at lx
          refine wpAny_ite_true rfl (wpAny_bind (wpAny_rule (wpAny_bind (rcGe_int _ _ _ _ _ _ _ _ _ _ (wpAny_bind (wpAny_pure ?_))))))
          refine wpAny_pure ?_
          refine wpAny_pure ⟨_, rfl, ?_⟩
          have e : decide (c ≤ a) = !HT.lexLt ns ms := by
            rw [← lx]
            by_cases z : a < c
            · rw [decide_eq_true z, decide_eq_false (by omega)]; rfl
            · rw [decide_eq_false z, decide_eq_true (by omega)]; rfl
          rw [e]
          exact q
  · rintro b' s' ⟨xs, ys, ns', ms', e, i1, i2, rfl, rfl, lx, ln⟩
    refine wpAny_pure ⟨_, rfl, ?_⟩
    show R (.ok (.ret (.bool (decide (items.size ≥ items2.size))))) s'
    have e2 : decide (items.size ≥ items2.size) = !HT.lexLt ns ms := by
      rw [← lx, l1, l2]
      cases i1 with
      | nil =>
        cases i2 with
        | nil =>
          simp only [List.length_nil] at ln
          rw [decide_eq_true (by omega)]
          rfl
        | cons c u i2 =>
          simp only [List.length_nil, List.length_cons] at ln
          rw [decide_eq_false (by omega)]
          rfl
      | cons a t i1 =>
        cases i2 with
        | nil =>
          simp only [List.length_nil, List.length_cons] at ln
          rw [decide_eq_true (by omega)]
          rfl
        | cons c u i2 => cases e
    rw [e2]
    exact q
def rGeT (K : PySem.W.Frag) : R2 := fun x y H Q => ∃ (a b : Addr) (ns ms : List Int), x = .ref a ∧ y = .ref b ∧ SqT K H a (ns.map V.int) ∧ SqT K H b (ms.map V.int) ∧ Q (.bl (!HT.lexLt ns ms)) H
theorem ints_are : ∀ {ns : List Int} {its : List Value}, Vals (ns.map V.int) its → IntsAre its ns
  | [], _, .nil => .nil
  | n :: ns, _, .cons r t => by
    obtain ⟨t', rfl⟩ : ∃ t, _ = Value.int n t := r
    exact .cons n t' (ints_are t)
theorem op_geT {X : Cx} (hu : X.A.units < cLine) : OpR X (compareOp .GtE) (rGeT X.K) := by
  intro pins s σ H x y v u Q I rx ry h
  obtain ⟨a, b, ns, ms, rfl, rfl, ha, hb, q⟩ := h
  obtain rfl : v = Value.ref a := rx
  obtain rfl : u = Value.ref b := ry
  obtain ⟨i1, r1, p1, _⟩ := I.tuple ha
  obtain ⟨i2, r2, p2, _⟩ := I.tuple hb
  have t1 : s.heap.IsTuple a i1.toArray := p1
  have t2 : s.heap.IsTuple b i2.toArray := p2
  obtain ⟨⟨c1, dd, dt1, sl⟩, g1, e1, n, e2⟩ := id t1
  obtain ⟨⟨c2, dd2, dt2, sl2⟩, g2, e3, n2, e4⟩ := id t2
  simp only at e1 e2 e3 e4
  subst e1 e2 e3 e4
  show wpAny _ _ (richCompare .GtE _ _) _ _ _
  exact richCompare_meets_room t1.typeIs t2.typeIs F.slot_tuple_ge F.entry_tuple_ge (F.args_tuple_ge_2 _ _) (tuple_ge_ints a b i1.toArray i2.toArray n n2 dd dd2 sl sl2 ns ms (by simpa using ints_are r1) (by simpa using ints_are r2))
    ⟨g1, g2, by show Value.bool _ ≠ Value.notImplemented ∧ _; exact ⟨(fun z => by cases z), .bl _, H, I, rfl, q⟩⟩ hu
end L2

namespace K02
open PySem PySem.Spec PyProof.Rows L2
def spRDue : Sp := fun vs H Q _ => ∃ (n : Nat) (v : V) (d : PyData), vs = [.int n, v] ∧ Rdd H v d ∧ Tame d ∧ 1 ≤ n ∧ n ≤ 65 ∧
  ∀ b H', Same H H' → (b = true ↔ ∃ rs, isRoads d rs ∧ Tm.RoadsOk n rs) → Q (.bl b) H'
section
variable {P : Program} {w : World} {K : PySem.W.Frag} {mg : Str → Option Value} {base : Heap} {f : Addr} {fd : FuncData}
theorem ok_rdue (F : Fd K "_law_roads_due" sLRDue f fd) (g : mg "_law_roads_due" = some (.ref f)) (B : Bl mg) (T : KitK K) (o_law_house : Ok P w K mg base CX0 1 "_law_house" sLHouse ["value", "houses"] spLHouse) : Ok P w K mg base CX0 2 "_law_roads_due" sLRDue ["houses", "roads"] spRDue := by
  refine ⟨f, fd, g, F, F.bindsN fun _ _ _ _ _ _ us hl => match us, hl with | [_, _], _ => rfl, F.ok scLRDue (fun vs H Q E h => ?_) (fun cdv A outer s H vs Q E hr h => ?_)⟩
  · obtain ⟨n, v, d, rfl, _⟩ := h
    rfl
  · have hu : (cxOf CX0 P w K mg base ["houses", "roads", "road", "k"] "_law_roads_due" (defScope sLRDue) f cdv A outer s H E).A.units + 64 < cLine := by
      have z := hr.un
      show (A.deeper _).units + 64 < cLine
      omega
    refine ⟨_, (pss_cons (ps_if (pw_or (pt_not (pt_val (pe_callB call_isiT (by rfl) (B.u "isinstance" (by decide +kernel)) boot_isinstance (pa_cons (pv 1) (pa_cons (pe_tup (pa_cons (pe_bltn (by rfl) (B.u "list" (by decide +kernel)) (by decide +kernel) (v := .ty "list") rfl) (pa_cons (pe_bltn (by rfl) (B.u "tuple" (by decide +kernel)) (by decide +kernel) (v := .ty "tuple") rfl) pa_nil))) pa_nil))))) (pw_or1 (pt_cmpR op_ne (pe_callB call_len (by rfl) (B.u "len" (by decide +kernel)) boot_len (pa_cons (pv 1) pa_nil)) (pe_op op_sub (pv 0) pe_int) (nomark _)))).pt
        (pss_one (ps_ret pe_bl))
        pss_nil)
      (pss_cons (ps_for (passes_of rfl) rfl (pi_seq (pv 1)) (pg_name (i := 2) scLRDue.nd rfl (Or.inl rfl))
        (pss_cons (ps_if (pw_or (pt_not (pt_val (pe_callB call_isi (by rfl) (B.u "isinstance" (by decide +kernel)) boot_isinstance (pa_cons (pv 2) (pa_cons (pe_bltn (by rfl) (B.u "tuple" (by decide +kernel)) (by decide +kernel) (v := .ty "tuple") rfl) pa_nil))))) (pw_or1 (pt_cmpR op_ne (pe_callB call_len (by rfl) (B.u "len" (by decide +kernel)) boot_len (pa_cons (pv 2) pa_nil)) pe_int (nomark _)))).pt
          (pss_one (ps_ret pe_bl))
          pss_nil)
        (pss_one (ps_if (pw_or (pt_not (pt_val (pe_o o_law_house (hr.mono (by decide)) (by rfl) (pa_cons (pe_ix ix_seq (pv 2) pe_int fun _ _ => rfl) (pa_cons (pv 0) pa_nil))))) (pw_or (pt_not (pt_val (pe_o o_law_house (hr.mono (by decide)) (by rfl) (pa_cons (pe_ix ix_seq (pv 2) pe_int fun _ _ => rfl) (pa_cons (pv 0) pa_nil))))) (pw_or1 (pt_cmpR op_ge (pe_ix ix_seq (pv 2) pe_int fun _ _ => rfl) (pe_ix ix_seq (pv 2) pe_int fun _ _ => rfl) (nomark _))))).pt
          (pss_one (ps_ret pe_bl))
          pss_nil))))
      (pss_one (ps_ret (pe_cmpR (op_eqD hu) (pe_lc (own := [("k", 3)]) (g := gName 3) rfl scLRDue.nd (pi_range2 (by rfl) (B.u "range" (by decide +kernel)) (pa_cons pe_int (pa_cons (pe_callB call_len (by rfl) (B.u "len" (by decide +kernel)) boot_len (pa_cons (pv 1) pa_nil)) pa_nil))) (blkOk_by (N := ["houses", "roads", "road", "k"]) (sc := defScope sLRDue) (by decide +kernel)) (fun _ _ _ _ _ => (pg_name (i := 3) scLRDue.nd rfl (Or.inl rfl))) (fun _ _ _ _ _ => (pts_one (pt_cmpR (r := rGeT K) (op_geT (by exact hr.units0)) (pe_ix (r := rIx K) ix_seq (pv 1) (pe_op op_sub (pv 3) pe_int) fun _ _ => rfl) (pe_ix (r := rIx K) ix_seq (pv 1) (pv 3) fun _ _ => rfl) (nomark _)))) (fun _ _ _ _ _ => (pv 3))) (pe_lst pa_nil) (nomark _)))))), ?_⟩
    obtain ⟨n, v, d, rfl, r, t, n1, n2, q⟩ := h
    have tu : [V.ty "list", V.ty "tuple"].length ≤ 16777216 := by decide
    refine ⟨_, rfl, two_ln (by decide), fun tp htp => ?_⟩
    have k1 : Same H (upd H tp (.tup [.ty "list", .ty "tuple"])) := upd_grow htp
    refine ⟨v, tp, _, _, _, _, rfl, upd_same, .cons (.ty "list") (.cons (.ty "tuple") .nil), (r.mono k1).tx, T.lt _ (tyd_mem d), _, rfl, ?_⟩
    have el : (decide (tyd d = "list") || decide (tyd d = "tuple")) = listD d := by
      cases d <;> rfl
    rw [el]
    generalize upd H tp (.tup [.ty "list", .ty "tuple"]) = H1 at k1
    refine iteB (fun e => iteT ?_) fun e => ?_
    · -- no row
      refine q _ _ k1 ⟨(fun z => nomatch z), fun ⟨rs, hr, ok⟩ => ?_⟩
      have e := not_t e
      rcases hr with rfl | rfl <;> simp [listD, tyd] at e
    have e := not_f e
    obtain ⟨p, xs, ds, rfl, hp, ra, hd⟩ := row_of r e
    have hp1 := hp.mono k1
    have ra1 := ra.mono k1
    have l := rdds_len ra
    obtain ⟨tl, tm⟩ := tame_len t hd
    refine ⟨_, rfl, _, _, rfl, hp1.len, _, rfl, _, _, rfl, rfl, rfl, _, rfl, iteB (fun e2 => ?_) fun e2 => ?_⟩
    · refine q _ _ k1 ⟨(fun z => nomatch z), fun ⟨rs, hr, ok⟩ => ?_⟩
      have e3 := (isRoads_row hd).mp hr
      have e2 := not_t e2
      have e2 := of_decide_eq_false e2
      refine absurd (congrArg V.int ?_) e2
      have := ok.len
      rw [l, e3, List.length_map]
      omega
    have e2 := not_f e2
    have e2 : ((xs.length : Nat) : Int) = (n : Int) - 1 := V.int.inj (of_decide_eq_true e2)
    refine ⟨_, rfl, p, xs, rfl, hp1.sq, fun J w => ?_⟩
    refine for_it w (fun i σ H' => Same H1 H' ∧ (∀ d ∈ ds.take i, Good n d) ∧ ∃ a : Option V, σ = [some (.int n), some (.ref p), a, none]) ⟨Same.refl _, (fun d hd => by simp at hd), none, rfl⟩ (fun i σ H' _ h => ?_) ?_ ?_
    · rcases hp1 with h1 | h1
      · rw [h1, h.1 _ _ h1]
      · rw [h1, h.1 _ _ h1]
    · rintro i x σ H0 H2 hi ⟨k2, g2, a, rfl⟩ ⟨rfl, hx⟩
      have hdi : i < ds.length := by omega
      obtain ⟨x', hx', rx⟩ := rdds_get (ra1.mono k2) (List.getElem?_eq_getElem hdi)
      rw [hx] at hx'
      obtain rfl : x = x' := Option.some.inj hx'
      have mem : ds[i] ∈ ds := List.getElem_mem hdi
      have bad : ¬ Good n ds[i] → ∀ H', Same H2 H' → Q (.bl false) H' := fun nb H' k => q _ _ (k1.trans (k2.trans k)) ⟨(fun z => nomatch z), fun ⟨rs, hr, ok⟩ => absurd (good_of ((isRoads_row hd).mp hr) ok _ mem) nb⟩
      refine ⟨_, rfl, x, _, _, _, _, rfl, .ty _, rx.tx, T.tt _ (tyd_mem _) "tuple" (by decide), _, rfl, iteB (fun e3 => iteT ?_) fun e3 => ?_⟩
      · refine bad (fun ⟨u, v, z, _⟩ => ?_) _ (Same.refl _)
        rw [z] at e3
        exact absurd e3 (by simp [tyd, rd])
      have e3 := not_f e3
      have e3 : tyd ds[i] = "tuple" := by simpa using e3
      generalize hdd : ds[i] = di at *
      cases rx with
      | @tup pt ys es h r2 =>
        have lys := rdds_len r2
        refine ⟨_, rfl, _, _, rfl, .inr ⟨_, SqT.of h, rfl⟩, rfl, _, rfl, iteB (fun e4 => ?_) fun e4 => ?_⟩
        · refine bad (fun ⟨u, v, z, _⟩ => ?_) _ (Same.refl _)
          have e4 := of_decide_eq_false (not_t e4)
          simp only [rd, PyData.tuple.injEq] at z
          rw [lys, z] at e4
          exact e4 rfl
        have e4 := V.int.inj (of_decide_eq_true (not_f e4))
        have le : es.length = 2 := by omega
        obtain ⟨d1, d2, rfl⟩ : ∃ d1 d2, es = [d1, d2] := match es, le with
          | [a, b], _ => ⟨a, b, rfl⟩
        obtain ⟨y1, y2, rfl, r1, r3⟩ := rdds_two r2
        have i0 : ∀ {Q : VK}, Q y1 H2 → rIx K (.ref pt) (.int 0) H2 Q := fun z => ixTup (SqT.of h) rfl z
        have i1 : ∀ {Q : VK}, Q y2 H2 → rIx K (.ref pt) (.int 1) H2 Q := fun z => ixTup (SqT.of h) rfl z
        refine ⟨_, rfl, i0 ⟨_, rfl, y1, d1, (n : Int), rfl, r1, _, rfl, iteB (fun e4 => iteT ?_) fun e4 => ?_⟩⟩
        · refine bad (fun ⟨u, v, z, h1, h2⟩ => ?_) _ (Same.refl _)
          simp [rd] at z
          rw [z.1, belowD_of (by omega)] at e4
          cases e4
        refine ⟨_, rfl, i1 ⟨_, rfl, y2, d2, (n : Int), rfl, r3, _, rfl, iteB (fun e5 => iteT ?_) fun e5 => ?_⟩⟩
        · refine bad (fun ⟨u, v, z, h1, h2⟩ => ?_) _ (Same.refl _)
          simp [rd] at z
          rw [z.2, belowD_of (by omega)] at e5
          cases e5
        obtain ⟨u, rfl, hu⟩ := belowD_nat (not_f e4)
        obtain ⟨u2, rfl, hu2⟩ := belowD_nat (not_f e5)
        cases r1
        cases r3
        refine ⟨_, rfl, i0 ⟨_, rfl, i1 ⟨_, _, rfl, rfl, _, rfl, iteB (fun e6 => ?_) fun e6 => ?_⟩⟩⟩
        · refine bad (fun ⟨a, b, z, h1, h2⟩ => ?_) _ (Same.refl _)
          simp [rd] at z
          have := of_decide_eq_true e6
          omega
        · refine ⟨k2, fun d hd' => ?_, _, rfl⟩
          rw [List.take_succ_eq_append_getElem hdi] at hd'
          rcases List.mem_append.mp hd' with hd' | hd'
          · exact g2 d hd'
          · have := of_decide_eq_false e6
            simp at hd'
            subst hd'
            rw [hdd]
            exact ⟨u, u2, rfl, by omega, hu2⟩
      | _ => simp [tyd] at e3
    · rintro σ H2 ⟨k2, g2, a, rfl⟩
      have e5 : xs.length = ds.length := l
      rw [e5, List.take_length] at g2
      obtain ⟨rs, rfl, hb⟩ := goods g2
      rw [List.length_map] at l
      have hp2 := hp1.mono k2
      have at_ : ∀ k, k < rs.length → ∃ a, xs[k]? = some (.ref a) ∧ H2 a = some (.tup [.int ((rs.getD k (0, 0)).1 : Nat), .int ((rs.getD k (0, 0)).2 : Nat)]) := by
        intro k hk
        have e : (rs.map rd)[k]? = some (rd (rs.getD k (0, 0))) := by
          rw [List.getElem?_map, List.getElem?_eq_getElem hk, List.getD_eq_getElem?_getD, List.getElem?_eq_getElem hk] <;> rfl
        obtain ⟨x, hx, r⟩ := rdds_get (ra1.mono k2) e
        unfold rd at r
        cases r with
        | tup h r2 =>
          obtain ⟨y, z, rfl, r3, r4⟩ := rdds_two r2
          cases r3
          cases r4
          exact ⟨_, hx, h⟩
      refine ⟨_, rfl, _, _, rfl, hp2.len, _, _, rfl, ⟨by decide, by decide, by omega, by omega⟩, fun D hD => ?_⟩
      have en : (((xs.length : Nat) : Int) - 1).toNat = rs.length - 1 := by omega
      show ∃ W : Nat → Nat → Hp → Prop, _
      rw [en]
      let bp : Nat → Bool := fun i => !Tm.ltR (rs.getD i (0, 0)) (rs.getD (i + 1) (0, 0))
      refine lc_gen (walk_range (lo := 1) (n := rs.length - 1)) bp (fun i y _ => y = .int ((i + 1 : Nat) : Int)) (fun _ _ _ _ _ h => h) hD (by omega) (fun _ _ => True.intro) ?_ ?_
      · rintro i x H3 H4 K1 N1 hi k3 ⟨o, ho⟩ ⟨rfl, rfl⟩ hK hN
        obtain ⟨a1, xa, ha⟩ := at_ i (by omega)
        obtain ⟨b1, xb, hb1⟩ := at_ (i + 1) (by omega)
        have e1 : (1 : Int) + i - 1 = (i : Nat) := by omega
        have e2 : (1 : Int) + i = ((i + 1 : Nat) : Int) := by omega
        have k4 := del_sub k3
        refine ⟨rfl, _, rfl, _, rfl, _, _, rfl, rfl, (hp2.mono k4).ix (by rw [e1]; exact atI_nat xa) ⟨_, rfl, _, rfl, (hp2.mono k4).ix (by rw [e2]; exact atI_nat xb) ?_⟩⟩
        refine ⟨_, _, [((rs.getD i (0, 0)).1 : Int), (rs.getD i (0, 0)).2], [((rs.getD (i + 1) (0, 0)).1 : Int), (rs.getD (i + 1) (0, 0)).2], rfl, rfl, SqT.of (k4 _ _ ha), SqT.of (k4 _ _ hb1), _, rfl, ?_⟩
        rw [ltR_int]
        exact iteB (fun e => ⟨_, rfl, hK e _ _ (Same.refl _) (congrArg V.int e2)⟩) fun e => hN e _ (Same.refl _)
      · intro ys H3 k3 h3 l3 r3
        have eys : ys = natV (((List.range (rs.length - 1)).filter bp).map fun i => i + 1) := by
          have := map_of (F := fun i => V.int ((i + 1 : Nat) : Int)) l3 r3
          rw [this]
          unfold natV
          rw [List.map_map]
          rfl
        subst eys
        refine ⟨two_ln (by decide), fun pe hpe => ?_⟩
        have k4 := del_sub k3
        refine ⟨.list (natD _), .list [], (Rdd.lst (upd_grow hpe _ _ h3) (nat_rdd _)).dp (natD_lay _), .lst (SqL.of upd_same) .nil, natD_shaped _, by decide, ?_⟩
        rw [natD_nil]
        refine q _ _ (k1.trans (k2.trans (k4.trans (upd_grow hpe)))) ?_
        have ee : (((List.range (rs.length - 1)).filter bp).map fun i => i + 1).isEmpty = true ↔ ∀ k, k + 1 < rs.length → Tm.ltR (rs.getD k (0, 0)) (rs.getD (k + 1) (0, 0)) = true := by
          rw [List.isEmpty_iff, List.map_eq_nil_iff, List.filter_eq_nil_iff]
          constructor
          · intro h k hk
            have := h k (List.mem_range.mpr (by omega))
            simpa [bp] using this
          · intro h k hk
            have := h k (by have := List.mem_range.mp hk; omega)
            simp only [bp, this]
            decide
        rw [ee]
        constructor
        · intro h
          exact ⟨rs, (isRoads_row hd).mpr rfl, by omega, hb, asc_of h⟩
        · rintro ⟨qs, hq, ok⟩
          have := rds_inj ((isRoads_row hd).mp hq)
          subst this
          exact of_asc ok.asc
end
end K02

namespace K02
open PySem PySem.Spec PyProof.Rows L2
abbrev sLBuilt : Stmt := top 45
theorem scLBuilt : FnScope ["houses", "roads", "by_name", "handed", "many", "good", "due", "reached", "lost", "k", "tree", "e"] ["houses", "roads", "by_name"] (defScope sLBuilt) := ⟨rfl, rfl, rfl, by decide +kernel, rfl, by decide +kernel, by decide +kernel⟩
/-- what is handed: a new list with the items, or the very value -/
def Cp (Ho H : Hp) (x : V) (d : PyData) : Prop := (∃ b xs ds, x = .ref b ∧ d = .list ds ∧ H b = some (.lst xs) ∧ RddAll Ho xs ds ∧ Ho b = none) ∨ (tyd d ≠ "list" ∧ Rdd Ho x d)
theorem Cp.rd {Ho H : Hp} {x : V} {d : PyData} (c : Cp Ho H x d) (k : Same Ho H) : Rdd H x d := by
  rcases c with ⟨b, xs, ds, rfl, rfl, h, r, _⟩ | ⟨_, r⟩
  · exact .lst h (r.mono k)
  · exact r.mono k
theorem Cp.mono {Ho H H' : Hp} {x : V} {d : PyData} (c : Cp Ho H x d) (k : Same H H') : Cp Ho H' x d := by
  rcases c with ⟨b, xs, ds, rfl, rfl, h, r, f⟩ | c
  · exact .inl ⟨b, xs, ds, rfl, rfl, k _ _ h, r, f⟩
  · exact .inr c
theorem nc_more {k m : Nat} : ∀ {ds : List PyData}, Nc (k + 1) m (.list ds) → Nc (k + 1) (m + 100) (.list (ds ++ [.str "more"])) := by
  intro ds n
  obtain ⟨a, s, h, w⟩ := n
  have key : ∀ ds : List PyData, (ascAll ds = true → ascAll (ds ++ [.str "more"]) = true) ∧ (PyData.showableAll ds = true → PyData.showableAll (ds ++ [.str "more"]) = true) ∧ PyData.depthAll (ds ++ [.str "more"]) ≤ PyData.depthAll ds ∧ wtAll (ds ++ [.str "more"]) ≤ wtAll ds + 100 := by
    intro ds
    induction ds with
    | nil => exact ⟨fun _ => by decide +kernel, fun _ => rfl, by decide, by decide +kernel⟩
    | cons d ds ih =>
      obtain ⟨i1, i2, i3, i4⟩ := ih
      simp only [List.cons_append, ascAll, PyData.showableAll, PyData.depthAll, wtAll, Bool.and_eq_true]
      exact ⟨fun z => ⟨z.1, i1 z.2⟩, fun z => ⟨z.1, i2 z.2⟩, by omega, by omega⟩
  obtain ⟨k1, k2, k3, k4⟩ := key ds
  simp only [asc] at a
  simp only [PyData.showable] at s
  simp only [PyData.depth] at h
  simp only [wt] at w
  exact ⟨by simp only [asc]; exact k1 a, by simp only [PyData.showable]; exact k2 s, by simp only [PyData.depth]; omega, by simp only [wt]; omega⟩
/-- the clause for what was handed -/
def TsG (K : PySem.W.Frag) (C : Str) (i : Nat) (w : Str) (a : Addr) (cls : Value) (d : Option Addr) : TS := fun D σ H => ∃ (Ho : Hp) (x : V) (dx : PyData) (dd : Addr), σ[i]? = some (some x) ∧ σ[6]? = some (some (.str w)) ∧ σ[11]? = some (some (.ref a)) ∧ cls = .ref (He.ga K C) ∧ d = some dd ∧ H dd = some (.xd [("given", x)]) ∧
  Cp Ho H x dx ∧ Nc 3 60000 dx ∧ Same Ho H ∧ ∀ H', Same Ho H' → D.rt (.bl true) H'
def TsN (K : PySem.W.Frag) (a : Addr) (cls : Value) (d : Option Addr) : TS := fun D σ H => ∃ (h : Nat) (ls : List Nat) (lo dd : Addr), σ[6]? = some (some (.str "tree")) ∧ σ[8]? = some (some (.ref lo)) ∧ σ[11]? = some (some (.ref a)) ∧ H lo = some (.lst (natV (h :: ls))) ∧ h < 70 ∧
  cls = .ref (He.ga K "NotJoined") ∧ d = some dd ∧ H dd = some (.xd [("house", .int h)]) ∧ ∀ H', Same H H' → D.rt (.bl true) H'
def spBuilt : Sp := fun vs H Q _ => ∃ (vh vr : V) (dh dr : PyData) (bn : Bool), vs = [vh, vr, .bl bn] ∧ Rdd H vh dh ∧ Rdd H vr dr ∧ Nc 3 60000 dh ∧ Nc 3 60000 dr ∧ ∀ H', Same H H' → Q (.bl true) H'
/-- what is due, and who is lost -/
inductive Cs (dh dr : PyData) : Str → List Nat → Prop
  | houses (h : ¬ ∃ n : Nat, dh = .int n ∧ 1 ≤ n ∧ n ≤ 64) : Cs dh dr "houses" []
  | roads {n : Nat} (h : dh = .int n) (h1 : 1 ≤ n) (h2 : n ≤ 64) (no : ¬ ∃ rs, isRoads dr rs ∧ Tm.RoadsOk n rs) : Cs dh dr "roads" []
  | tree {n : Nat} {rs : List Tm.Road} {b : Tm.B} (h : dh = .int n) (h1 : 1 ≤ n) (h2 : n ≤ 64) (r : isRoads dr rs) (ok : Tm.RoadsOk n rs) (d : Tm.Dfs (Tm.near rs) none [(0, 0)] [0] b) : Cs dh dr "tree" ((List.range n).filter fun i => decide (i ∉ Tm.keys b))
theorem isRoads_one {d : PyData} {rs qs : List Tm.Road} (h : isRoads d rs) (k : isRoads d qs) : rs = qs := by
  rcases h with rfl | rfl <;> rcases k with k | k <;> first | (cases k; done) | skip
  · exact rds_inj (PyData.list.inj k)
  · exact rds_inj (PyData.tuple.inj k)
/-- two texts are equal -/
def rNe' (x y : V) (H : Hp) (Q : VK) : Prop := scal x y = true ∧ Q (.bl (decide (x = y))) H
section
variable {P : Program} {w : World} {K : PySem.W.Frag} {mg : Str → Option Value} {base : Heap} {f : Addr} {fd fdI : FuncData}
theorem ok_built (F : Fd K "_law_built_right" sLBuilt f fd) (g : mg "_law_built_right" = some (.ref f)) (B : Bl mg) (Tk : KitK K) (C : TreeK K mg) (hsy : ∃ o, K.lookup sysModules = some o) (FI : Md K "__init__" "Tree.__init__" sTInit (MT K "__init__") fdI)
    (oI : FnOk P w K mg base (L2N.CX P w) 3 (MT K "__init__") fdI ["self", "houses", "roads"] (spInit K)) (E1 : ErrK K mg "InvalidHouses") (E2 : ErrK K mg "InvalidRoads") (E3 : ErrK K mg "NotJoined")
    (n1 : PySem.W.findIn K (.ref (He.ga K "InvalidHouses")) "given" = some none) (n2 : PySem.W.findIn K (.ref (He.ga K "InvalidRoads")) "given" = some none) (n3 : PySem.W.findIn K (.ref (He.ga K "NotJoined")) "house" = some none)
    (x21 : PySem.W.exmOne K (.ref (He.ga K "InvalidRoads")) (.ref (He.ga K "InvalidHouses")) = some false) (x31 : PySem.W.exmOne K (.ref (He.ga K "NotJoined")) (.ref (He.ga K "InvalidHouses")) = some false) (x32 : PySem.W.exmOne K (.ref (He.ga K "NotJoined")) (.ref (He.ga K "InvalidRoads")) = some false)
    (o_law_house : Ok P w K mg base CX0 1 "_law_house" sLHouse ["value", "houses"] spLHouse) (o_law_roads_due : Ok P w K mg base CX0 2 "_law_roads_due" sLRDue ["houses", "roads"] spRDue) (o_law_near : Ok P w K mg base CX0 1 "_law_near" sLNear ["houses", "roads"] spLNear)
    (o_law_toward : Ok P w K mg base CX0 1 "_law_toward" sTowd ["near", "goal"] spTowd) : OkG P w K mg base 6 "_law_built_right" sLBuilt ["houses", "roads", "by_name"] spBuilt := by
  refine ⟨f, fd, g, F, F.bindsN fun _ _ _ _ _ _ us hl => match us, hl with | [_, _, _], _ => rfl, F.okG scLBuilt (fun vs H Q E h => ?_) (fun cdv A outer s H vs Q hgd hr h => ?_)⟩
  · obtain ⟨vh, vr, dh, dr, bn, rfl, _⟩ := h
    rfl
  · have hu : (cxOf CX0 P w K mg base ["houses", "roads", "by_name", "handed", "many", "good", "due", "reached", "lost", "k", "tree", "e"] "_law_built_right" (defScope sLBuilt) f cdv A outer s H noE).A.units + 64 < cLine := by
      have z := hr.un
      show (A.deeper _).units + 64 < cLine
      omega
    refine ⟨_, pss_cons (ps_set (i := 3) scLBuilt.nd rfl (Or.inl rfl) (pe_ifExp (pt_val (pe_callB call_isi (by rfl) (B.u "isinstance" (by decide +kernel)) boot_isinstance (pa_cons (pv 1) (pa_cons (pe_bltn (by rfl) (B.u "list" (by decide +kernel)) (by decide +kernel) (v := .ty "list") rfl) pa_nil)))) (pe_callTy call_list_of (by rfl) (B.u "list" (by decide +kernel)) (by decide +kernel) (pa_cons (pv 1) pa_nil)) (pv 1))) (pss_cons (ps_set (i := 4) scLBuilt.nd rfl (Or.inl rfl) (pe_ifExp (pt_val (pe_callB call_isi (by rfl) (B.u "isinstance" (by decide +kernel)) boot_isinstance (pa_cons (pv 0) (pa_cons (pe_bltn (by rfl) (B.u "list" (by decide +kernel)) (by decide +kernel) (v := .ty "list") rfl) pa_nil)))) (pe_callTy call_list_of (by rfl) (B.u "list" (by decide +kernel)) (by decide +kernel) (pa_cons (pv 0) pa_nil)) (pv 0))) (pss_cons (ps_set (i := 5) scLBuilt.nd rfl (Or.inl rfl) (pe_and (pe_o o_law_house (hr.mono (by decide)) (by rfl) (pa_cons (pv 0) (pa_cons pe_int pa_nil))) (pe_one (pe_cmpR op_gt (pv 0) pe_int (nomark _))))) (pss_cons (ps_set (i := 6) scLBuilt.nd rfl (Or.inl rfl) (pe_ifExp (pt_not (pt_val (pv 5))) pe_str (pe_ifExp (pt_val (pe_o o_law_roads_due (hr.mono (by decide)) (by rfl) (pa_cons (pv 0) (pa_cons (pv 1) pa_nil)))) pe_str pe_str))) (pss_cons (ps_set (i := 7) scLBuilt.nd rfl (Or.inr rfl) (pe_ifExp (pt_cmpR op_eq (pv 6) pe_str (nomark _)) (pe_o o_law_toward (hr.mono (by decide)) (by rfl) (pa_cons (pe_o o_law_near (hr.mono (by decide)) (by rfl) (pa_cons (pv 0) (pa_cons (pv 1) pa_nil))) (pa_cons pe_int pa_nil))) (pe_lst pa_nil))) (pss_cons (ps_setLc (i := 8) (own := [("k", 9)]) (g := gName 9) rfl scLBuilt.nd rfl rfl (sw_true rfl rfl rfl (by decide +kernel)) (pi_range1 (by rfl) (B.u "range" (by decide +kernel)) (pa_cons (pe_callB call_len (by rfl) (B.u "len" (by decide +kernel)) boot_len (pa_cons (pv 7) pa_nil)) pa_nil)) (blkOk_by (N := ["houses", "roads", "by_name", "handed", "many", "good", "due", "reached", "lost", "k", "tree", "e"]) (sc := defScope sLBuilt) (by decide +kernel)) (fun _ _ _ _ _ => (pg_name (i := 9) scLBuilt.nd rfl (Or.inl rfl))) (fun _ _ _ _ _ => (pts_one (pt_cmpR op_isN (pe_ix (r := rIx K) ix_seq (pv 7) (pv 9) fun _ _ => rfl) pe_non (nomark _)))) (fun _ _ _ _ _ => (pv 9)))
      (pss_cons (L2N.ps_try_manyAs (Wout := fun _ _ _ _ => False) (l := [(.ref (He.ga K "InvalidHouses"), 11, TsG K "InvalidHouses" 4 "houses"), (.ref (He.ga K "InvalidRoads"), 11, TsG K "InvalidRoads" 3 "roads"), (.ref (He.ga K "NotJoined"), 11, TsN K)]) rfl rfl scLBuilt.nd takes_none
        (fun W pn xe tk _ => (pss_one (ps_set (i := 10) scLBuilt.nd rfl (Or.inl rfl) (pe_ifExp (pt_val (pv 2)) (pe_makeSK C.mkT oI (hr.mono (by decide)) (by rfl) C.g (FI.kbn0 1 ["roads", "houses"] (pick [0, 2, 1]) (pick_rel [0, 2, 1]) fun _ _ _ _ _ _ us ws l1 l2 => match us, ws, l1, l2 with | [_], [_, _], _, _ => rfl) (fun σ => L2N.passAt tk σ) (pk_cons (pv 3) (pk_cons (pv 4) pk_nil))) (pe_makeS C.mkT oI (hr.mono (by decide)) (by rfl) C.g (FI.kbn0 3 [] (pick [0, 1, 2]) (pick_rel [0, 1, 2]) fun _ _ _ _ _ _ us ws l1 l2 => match us, ws, l1, l2 with | [_, _, _], [], _, _ => rfl) (fun σ => L2N.passAt tk σ) (pa_cons (pv 4) (pa_cons (pv 3) pa_nil)))))))
        (.cons ⟨by rfl, by decide, .inl E1.g⟩ rfl rfl (fun a oe cls d pn hz hv => ?_) (.cons ⟨by rfl, by decide, .inl E2.g⟩ rfl rfl (fun a oe cls d pn hz hv => ?_) (.cons ⟨by rfl, by decide, .inl E3.g⟩ rfl rfl (fun a oe cls d pn hz hv => ?_) .nil))))
      (pss_cons (ps_if (pw_or (pt_cmpR op_ne (pv 6) pe_str (nomark _)) (pw_or1 (pt_cmpR (op_neNil hu) (pv 8) (pe_lst pa_nil) (nomark _)))).pt
          (pss_one (ps_ret pe_bl))
          pss_nil) (pss_one (ps_ret (pe_cmpR op_eq (pe_callB (call_repr hgd hu hsy) (by rfl) (B.u "repr" (by decide +kernel)) (by decide +kernel) (pa_cons (pe_lst (pa_cons (pe_fld (pv 10) rfl) (pa_cons (pe_fld (pv 10) rfl) pa_nil))) pa_nil)) (pe_callB (call_repr hgd hu hsy) (by rfl) (B.u "repr" (by decide +kernel)) (by decide +kernel) (pa_cons (pe_lst (pa_cons (pv 0) (pa_cons (pe_callTy call_tuple_of (by rfl) (B.u "tuple" (by decide +kernel)) (by decide +kernel) (pa_cons (pv 1) pa_nil)) pa_nil))) pa_nil)) (nomark _))))))))))), ?_⟩
    · have hps : ∀ q ∈ [(a, oe)], q ∈ ((cxOf CX0 P w K mg base ["houses", "roads", "by_name", "handed", "many", "good", "due", "reached", "lost", "k", "tree", "e"] "_law_built_right" (defScope sLBuilt) f cdv A outer s H noE).suite a ((a, oe) :: pn)).pn := fun q hq => by
        rw [List.mem_singleton.mp hq]
        exact List.mem_cons_self
      have hgd : ((cxOf CX0 P w K mg base ["houses", "roads", "by_name", "handed", "many", "good", "due", "reached", "lost", "k", "tree", "e"] "_law_built_right" (defScope sLBuilt) f cdv A outer s H noE).suite a ((a, oe) :: pn)).A.guards = some [] := hgd
      have hu : ((cxOf CX0 P w K mg base ["houses", "roads", "by_name", "handed", "many", "good", "due", "reached", "lost", "k", "tree", "e"] "_law_built_right" (defScope sLBuilt) f cdv A outer s H noE).suite a ((a, oe) :: pn)).A.units + 64 < cLine := hu
      refine pss_mono (pss_cons (ps_if (pt_val (pe_callB call_isi (by rfl) (B.u "isinstance" (by decide +kernel)) boot_isinstance (pa_cons (pv 4) (pa_cons (pe_bltn (by rfl) (B.u "list" (by decide +kernel)) (by decide +kernel) (v := .ty "list") rfl) pa_nil))))
          (pss_one (ps_expr (pe_bm PySem.F.plainAttrs_list PySem.F.slot_list_append PySem.F.type_list_append mt_append (pv 4) (pa_cons pe_str pa_nil))))
          pss_nil)
        (pss_one (ps_ret (pe_and (pe_cmpR op_eq (pv 6) pe_str (nomark _)) (pe_one (pe_cmpR op_eq (pe_callB (call_repr hgd hu hsy) (by rfl) (B.u "repr" (by decide +kernel)) (by decide +kernel) (pa_cons (pe_evF hps (pv 11)) pa_nil)) (pe_callB (call_repr hgd hu hsy) (by rfl) (B.u "repr" (by decide +kernel)) (by decide +kernel) (pa_cons (pv 4) pa_nil)) (nomark _))))))) fun D σ H1 h => ?_
      obtain ⟨Ho, x, dx, dd, hx, hd, he, rfl, rfl, hdd, cp, nx, k, fin⟩ := h
      have ev : ∀ {H'}, H' dd = some (.xd [("given", x)]) → EvP [(a, oe)] H' a (He.ga K "InvalidHouses") dd [("given", x)] := fun e => ⟨.inr ⟨oe, List.mem_cons_self, hz.1, hz.2.1, hv⟩, .inr e⟩
      have rx := cp.rd k
      refine ⟨_, hx, x, _, _, _, _, rfl, .ty _, rx.tx, Tk.tt _ (tyd_mem dx) "list" (by decide), _, rfl, iteB (fun e => ?_) fun e => ?_⟩
      · have e : tyd dx = "list" := by simpa using e
        rcases cp with ⟨b, xs, ds, rfl, rfl, hb, ra, fb⟩ | ⟨z, _⟩
        · have tn := (nc_more nx).tame (by decide) (by decide)
          have lx : xs.length < 16777216 := by
            have h1 := rdds_len ra
            have h2 := wt_len ds
            have h3 := nx.w
            simp only [wt] at h3
            omega
          have nb : dd ≠ b := fun z => by rw [z, hb] at hdd; cases hdd
          have kb : Same Ho (upd H1 b (.lst (xs ++ [V.str "more"]))) := fun c o z => by
            rw [upd_ne (ne_of_none z fb)]
            exact k _ _ z
          have hd2 : upd H1 b (.lst (xs ++ [V.str "more"])) dd = some (.xd [("given", .ref b)]) := by rw [upd_ne nb]; exact hdd
          have rb : Rdd (upd H1 b (.lst (xs ++ [V.str "more"]))) (.ref b) (.list (ds ++ [.str "more"])) := .lst upd_same (rdds_app (ra.mono kb) (.cons (.str _) .nil))
          refine ⟨_, hx, .inl ⟨rfl, _, SqL.of hb⟩, b, xs, _, rfl, rfl, hb, lt_ln lx, ?_⟩
          refine ⟨_, hd, rfl, _, rfl, iteB (fun _ => ?_) fun z => by simp at z⟩
          refine ⟨_, he, a, _, dd, _, _, rfl, ev hd2, E1.X, n1, rfl, _, _, rfl, rb, tn.s, tn.h, tn.len, _, hx, _, _, rfl, rb, tn.s, tn.h, tn.len, rfl, ?_⟩
          rw [decide_eq_true rfl]
          exact fin _ kb
        · exact absurd e z
      · have tn := nx.tame (by decide) (by decide)
        refine ⟨_, hd, rfl, _, rfl, iteB (fun _ => ?_) fun z => by simp at z⟩
        refine ⟨_, he, a, _, dd, _, _, rfl, ev hdd, E1.X, n1, rfl, _, _, rfl, rx, tn.s, tn.h, tn.len, _, hx, _, _, rfl, rx, tn.s, tn.h, tn.len, rfl, ?_⟩
        rw [decide_eq_true rfl]
        exact fin _ k
    · have hps : ∀ q ∈ [(a, oe)], q ∈ ((cxOf CX0 P w K mg base ["houses", "roads", "by_name", "handed", "many", "good", "due", "reached", "lost", "k", "tree", "e"] "_law_built_right" (defScope sLBuilt) f cdv A outer s H noE).suite a ((a, oe) :: pn)).pn := fun q hq => by
        rw [List.mem_singleton.mp hq]
        exact List.mem_cons_self
      have hgd : ((cxOf CX0 P w K mg base ["houses", "roads", "by_name", "handed", "many", "good", "due", "reached", "lost", "k", "tree", "e"] "_law_built_right" (defScope sLBuilt) f cdv A outer s H noE).suite a ((a, oe) :: pn)).A.guards = some [] := hgd
      have hu : ((cxOf CX0 P w K mg base ["houses", "roads", "by_name", "handed", "many", "good", "due", "reached", "lost", "k", "tree", "e"] "_law_built_right" (defScope sLBuilt) f cdv A outer s H noE).suite a ((a, oe) :: pn)).A.units + 64 < cLine := hu
      refine pss_mono (pss_cons (ps_if (pt_val (pe_callB call_isi (by rfl) (B.u "isinstance" (by decide +kernel)) boot_isinstance (pa_cons (pv 3) (pa_cons (pe_bltn (by rfl) (B.u "list" (by decide +kernel)) (by decide +kernel) (v := .ty "list") rfl) pa_nil))))
          (pss_one (ps_expr (pe_bm PySem.F.plainAttrs_list PySem.F.slot_list_append PySem.F.type_list_append mt_append (pv 3) (pa_cons pe_str pa_nil))))
          pss_nil)
        (pss_one (ps_ret (pe_and (pe_cmpR op_eq (pv 6) pe_str (nomark _)) (pe_one (pe_cmpR op_eq (pe_callB (call_repr hgd hu hsy) (by rfl) (B.u "repr" (by decide +kernel)) (by decide +kernel) (pa_cons (pe_evF hps (pv 11)) pa_nil)) (pe_callB (call_repr hgd hu hsy) (by rfl) (B.u "repr" (by decide +kernel)) (by decide +kernel) (pa_cons (pv 3) pa_nil)) (nomark _))))))) fun D σ H1 h => ?_
      obtain ⟨Ho, x, dx, dd, hx, hd, he, rfl, rfl, hdd, cp, nx, k, fin⟩ := h
      have ev : ∀ {H'}, H' dd = some (.xd [("given", x)]) → EvP [(a, oe)] H' a (He.ga K "InvalidRoads") dd [("given", x)] := fun e => ⟨.inr ⟨oe, List.mem_cons_self, hz.1, hz.2.1, hv⟩, .inr e⟩
      have rx := cp.rd k
      refine ⟨_, hx, x, _, _, _, _, rfl, .ty _, rx.tx, Tk.tt _ (tyd_mem dx) "list" (by decide), _, rfl, iteB (fun e => ?_) fun e => ?_⟩
      · have e : tyd dx = "list" := by simpa using e
        rcases cp with ⟨b, xs, ds, rfl, rfl, hb, ra, fb⟩ | ⟨z, _⟩
        · have tn := (nc_more nx).tame (by decide) (by decide)
          have lx : xs.length < 16777216 := by
            have h1 := rdds_len ra
            have h2 := wt_len ds
            have h3 := nx.w
            simp only [wt] at h3
            omega
          have nb : dd ≠ b := fun z => by rw [z, hb] at hdd; cases hdd
          have kb : Same Ho (upd H1 b (.lst (xs ++ [V.str "more"]))) := fun c o z => by
            rw [upd_ne (ne_of_none z fb)]
            exact k _ _ z
          have hd2 : upd H1 b (.lst (xs ++ [V.str "more"])) dd = some (.xd [("given", .ref b)]) := by rw [upd_ne nb]; exact hdd
          have rb : Rdd (upd H1 b (.lst (xs ++ [V.str "more"]))) (.ref b) (.list (ds ++ [.str "more"])) := .lst upd_same (rdds_app (ra.mono kb) (.cons (.str _) .nil))
          refine ⟨_, hx, .inl ⟨rfl, _, SqL.of hb⟩, b, xs, _, rfl, rfl, hb, lt_ln lx, ?_⟩
          refine ⟨_, hd, rfl, _, rfl, iteB (fun _ => ?_) fun z => by simp at z⟩
          refine ⟨_, he, a, _, dd, _, _, rfl, ev hd2, E2.X, n2, rfl, _, _, rfl, rb, tn.s, tn.h, tn.len, _, hx, _, _, rfl, rb, tn.s, tn.h, tn.len, rfl, ?_⟩
          rw [decide_eq_true rfl]
          exact fin _ kb
        · exact absurd e z
      · have tn := nx.tame (by decide) (by decide)
        refine ⟨_, hd, rfl, _, rfl, iteB (fun _ => ?_) fun z => by simp at z⟩
        refine ⟨_, he, a, _, dd, _, _, rfl, ev hdd, E2.X, n2, rfl, _, _, rfl, rx, tn.s, tn.h, tn.len, _, hx, _, _, rfl, rx, tn.s, tn.h, tn.len, rfl, ?_⟩
        rw [decide_eq_true rfl]
        exact fin _ k
    · have hps : ∀ q ∈ [(a, oe)], q ∈ ((cxOf CX0 P w K mg base ["houses", "roads", "by_name", "handed", "many", "good", "due", "reached", "lost", "k", "tree", "e"] "_law_built_right" (defScope sLBuilt) f cdv A outer s H noE).suite a ((a, oe) :: pn)).pn := fun q hq => by
        rw [List.mem_singleton.mp hq]
        exact List.mem_cons_self
      have hgd : ((cxOf CX0 P w K mg base ["houses", "roads", "by_name", "handed", "many", "good", "due", "reached", "lost", "k", "tree", "e"] "_law_built_right" (defScope sLBuilt) f cdv A outer s H noE).suite a ((a, oe) :: pn)).A.guards = some [] := hgd
      have hu : ((cxOf CX0 P w K mg base ["houses", "roads", "by_name", "handed", "many", "good", "due", "reached", "lost", "k", "tree", "e"] "_law_built_right" (defScope sLBuilt) f cdv A outer s H noE).suite a ((a, oe) :: pn)).A.units + 64 < cLine := hu
      refine pss_mono (pss_one (ps_ret (pe_and (pe_cmpR op_eq (pv 6) pe_str (nomark _)) (pe_and (pe_cmpR (op_neNil hu) (pv 8) (pe_lst pa_nil) (nomark _)) (pe_one (pe_cmpR op_eq (pe_callB (call_repr hgd hu hsy) (by rfl) (B.u "repr" (by decide +kernel)) (by decide +kernel) (pa_cons (pe_evF hps (pv 11)) pa_nil)) (pe_callB (call_repr hgd hu hsy) (by rfl) (B.u "repr" (by decide +kernel)) (by decide +kernel) (pa_cons (pe_ix ix_seq (pv 8) pe_int fun _ _ => rfl) pa_nil)) (nomark _))))))) fun D σ H1 h => ?_
      obtain ⟨hh, ls, lo, dd, hd, hl, he, hlo, h70, rfl, rfl, hdd, fin⟩ := h
      have tn : Tame (.int (hh : Int)) := (nc_nat h70).tame
      refine ⟨_, hd, rfl, _, rfl, iteB (fun _ => ?_) fun z => by simp at z⟩
      refine ⟨_, hl, two_ln (by show 0 ≤ _; decide), fun pe hpe => ⟨lo, pe, _, rfl, rfl, SqL.of (upd_grow hpe _ _ hlo), SqL.of upd_same, _, rfl, iteB (fun _ => ?_) fun z => by simp [natV] at z⟩⟩
      refine ⟨_, he, a, _, dd, _, _, rfl, ⟨.inr ⟨oe, List.mem_cons_self, hz.1, hz.2.1, hv⟩, .inr (upd_grow hpe _ _ hdd)⟩, E3.X, n3, rfl, _, _, rfl, .int _, tn.s, tn.h, tn.len, _, hl, ixAt (upd_grow hpe _ _ hlo) at0 ⟨_, _, rfl, .int _, tn.s, tn.h, tn.len, rfl, ?_⟩⟩
      rw [decide_eq_true rfl]
      exact fin _ (upd_grow hpe)
    · obtain ⟨vh, vr, dh, dr, bn, rfl, rh, rr, nh, nr, q⟩ := h
      refine tSeq_by (fun σ H' => ∃ xh, Same H H' ∧ Cp H H' xh dr ∧ σ = [some vh, some vr, some (.bl bn), some xh, none, none, none, none, none, none, none, none]) ?_ fun rest => ?_
      · rintro σ H3 ⟨xh, k3, ch, rfl⟩
        refine tSeq_by (fun σ H' => ∃ xm, Same H H' ∧ Cp H H' xh dr ∧ Cp H H' xm dh ∧ σ = [some vh, some vr, some (.bl bn), some xh, some xm, none, none, none, none, none, none, none]) ?_ fun rest => ?_
        · rintro σ H4 ⟨xm, k4, ch, cm, rfl⟩
          refine tSeq_by (fun σ H' => ∃ gd : Bool, (gd = true ↔ ∃ n : Nat, dh = .int n ∧ 1 ≤ n ∧ n ≤ 64) ∧ H' = H4 ∧ σ = [some vh, some vr, some (.bl bn), some xh, some xm, some (.bl gd), none, none, none, none, none, none]) ?_ fun rest => ?_
          · rintro σ _ ⟨gd, hg, rfl, rfl⟩
            refine tSeq_by (fun σ H' => ∃ due : Str, Same H H' ∧ Cp H H' xh dr ∧ Cp H H' xm dh ∧ ((due = "houses" ∧ ¬ ∃ n : Nat, dh = .int n ∧ 1 ≤ n ∧ n ≤ 64) ∨ ∃ n : Nat, dh = .int n ∧ 1 ≤ n ∧ n ≤ 64 ∧ ((due = "roads" ∧ ¬ ∃ rs, isRoads dr rs ∧ Tm.RoadsOk n rs) ∨ (due = "tree" ∧ ∃ rs, isRoads dr rs ∧ Tm.RoadsOk n rs))) ∧
                σ = [some vh, some vr, some (.bl bn), some xh, some xm, some (.bl gd), some (.str due), none, none, none, none, none]) ?_ fun rest => ?_
            · rintro σ H5 ⟨due, k5, ch, cm, hdue, rfl⟩
              refine tSeq_by (fun σ H' => ∃ (re : Addr) (rv : List V) (ls : List Nat), Same H H' ∧ Cp H H' xh dr ∧ Cp H H' xm dh ∧ Cs dh dr due ls ∧ H' re = some (.lst rv) ∧ rv.length ≤ 64 ∧ ls = ((List.range rv.length).filter fun i => decide (rv[i]? = some .non)) ∧
                  σ = [some vh, some vr, some (.bl bn), some xh, some xm, some (.bl gd), some (.str due), some (.ref re), none, none, none, none]) ?_ fun rest => ?_
              · rintro σ H6 ⟨re, rv, ls, k6, ch, cm, cs, hre, lre, els, rfl⟩
                refine tSeq_by (fun σ H' => ∃ lo : Addr, Same H H' ∧ Cp H H' xh dr ∧ Cp H H' xm dh ∧ H' lo = some (.lst (natV ls)) ∧
                    σ = [some vh, some vr, some (.bl bn), some xh, some xm, some (.bl gd), some (.str due), some (.ref re), some (.ref lo), none, none, none]) ?_ fun rest => ?_
                · rintro σ H7 ⟨lo, k7, ch, cm, hlo, rfl⟩
                  refine tSeq_by (fun σ H' => ∃ (tr : Addr) (n : Nat) (rs : List Tm.Road), Same H H' ∧ TreeAt K H' tr n rs ∧ dh = .int n ∧ isRoads dr rs ∧ due = "tree" ∧ ls = [] ∧ H' lo = some (.lst (natV ls)) ∧
                      σ = [some vh, some vr, some (.bl bn), some xh, some xm, some (.bl gd), some (.str due), some (.ref re), some (.ref lo), none, some (.ref tr), none]) ?_ fun rest => ?_
                  · rintro σ H8 ⟨tr, n, rs, k8, T, rfl, ir, rfl, rfl, hlo8, rfl⟩
                    obtain ⟨dx, rt, nt, g1, g2, g3⟩ := T.ex
                    have t64 := T.le
                    refine ⟨_, rfl, rfl, _, rfl, iteB (fun z => by simp at z) fun _ => ⟨_, rfl, two_ln (by decide), fun pe hpe => ⟨lo, pe, _, rfl, rfl, SqL.of (upd_grow hpe _ _ hlo8), SqL.of upd_same, _, rfl, iteB (fun z => by simp [natV] at z) fun _ => ?_⟩⟩⟩
                    have k9 := k8.trans (upd_grow (o := .lst []) hpe)
                    have g1' := upd_grow (o := .lst []) hpe _ _ g1
                    have g2' := g2.mono (upd_grow (o := .lst []) hpe)
                    generalize upd H8 pe (.lst []) = H9 at k9 g1' g2'
                    cases rh
                    have nd : Nc 3 60000 (.list [.int n, .tuple (rs.map rd)]) := by
                      have a1 : Nc 1 300 (.int (n : Int)) := (nc_nat (by omega)).up
                      have a2 : Nc 2 30000 (.tuple (rs.map rd)) := (nc_tup (k := 1) (m := 300) (l := 64) (fun d hd => rd_nc T.ok t64 hd) (by rw [List.length_map]; have := T.ok.len; omega)).up
                      refine Nc.up (k := 3) (m := 2 * (29000 + 2) + 3) (nc_list (k := 2) (m := 29000) (l := 2) (fun e he => ?_) (Nat.le_refl _))
                      simp only [List.mem_cons, List.not_mem_nil, or_false] at he
                      rcases he with rfl | rfl
                      · exact a1.up
                      · exact (nc_tup (k := 1) (m := 300) (l := 64) (fun d hd => rd_nc T.ok t64 hd) (by rw [List.length_map]; have := T.ok.len; omega)).up
                    have tn := nd.tame (by decide) (by decide)
                    obtain ⟨p, xs, ds, rfl, hp, ra, hds⟩ := row_of rr (by rcases ir with rfl | rfl <;> rfl)
                    obtain rfl := (isRoads_row hds).mp ir
                    refine ⟨_, rfl, _, _, _, _, _, rfl, g1', C.cl, C.nh, rfl, _, rfl, _, _, _, _, _, rfl, g1', C.cl, C.nr, rfl, two_ln (by show 2 ≤ _; decide), fun pa hpa => ?_⟩
                    have ka := upd_grow (o := .lst [.int n, .ref rt]) hpa
                    have ra1 : Rdd (upd H9 pa (.lst [.int n, .ref rt])) (.ref pa) (.list [.int n, .tuple (rs.map rd)]) := .lst upd_same (.cons (.int _) (.cons (g2'.mono ka) .nil))
                    refine ⟨_, _, rfl, ra1, tn.s, tn.h, tn.len, _, rfl, _, rfl, p, xs, rfl, ?_⟩
                    have k10 := k9.trans ka
                    have fin : ∀ {H' : Hp} {pt : Addr}, Same H H' → H' pt = some (.tup xs) → [V.int (n : Int), V.ref pt].length ≤ sizeLine ∧ ∀ pb, H' pb = none → ∃ v d, [V.ref pb] = [v] ∧ Rdd (upd H' pb (.lst [.int n, .ref pt])) v d ∧ d.showable = true ∧ d.depth ≤ 32 ∧ d.shown.length ≤ sizeLine ∧
                        rNe' (V.str (PyData.list [.int n, .tuple (rs.map rd)]).shown) (V.str d.shown) (upd H' pb (.lst [.int n, .ref pt])) Q := fun {H' pt} kk ht => ⟨two_ln (by show 2 ≤ _; decide), fun pb hpb => by
                      have kb := upd_grow (o := .lst [.int n, .ref pt]) hpb
                      refine ⟨_, _, rfl, .lst upd_same (.cons (.int _) (.cons (.tup (kb _ _ ht) (ra.mono (kk.trans kb))) .nil)), tn.s, tn.h, tn.len, rfl, ?_⟩
                      rw [decide_eq_true rfl]
                      exact q _ (kk.trans kb)⟩
                    rcases hp with hp | hp
                    · exact .inl ⟨SqL.of (k10 _ _ hp), fun pt hpt => fin (k10.trans (upd_grow hpt)) upd_same⟩
                    · exact .inr ⟨SqT.of (k10 _ _ hp), fin k10 (k10 _ _ hp)⟩
                  · have md : ∀ {Hm : Hp} {D : Ends} {W : Nat → List Tm.Road → Prop}, D.rt = Q → Same H7 Hm → (∀ (n : Nat) rs, dh = .int n → isRoads dr rs → Tm.RoadsOk n rs → Tm.Joined n rs → due = "tree" → ls = [] → W n rs) →
                        Made K Hm xm xh dh dr (fun cls d H' => L2N.wManyAs K (fun _ _ _ _ => False) D [(.ref (He.ga K "InvalidHouses"), 11, TsG K "InvalidHouses" 4 "houses"), (.ref (He.ga K "InvalidRoads"), 11, TsG K "InvalidRoads" 3 "roads"), (.ref (He.ga K "NotJoined"), 11, TsN K)] cls d
                          [some vh, some vr, some (.bl bn), some xh, some xm, some (.bl gd), some (.str due), some (.ref re), some (.ref lo), none, none, none] H') W := by
                      intro Hm D W eD km hW
                      refine ⟨fun no d H8 k8 h8 => ?_, fun n e1 h1 h2 no d H8 k8 h8 => ?_, fun n rs b hh e1 h1 h2 ir ok df hl hno hall d H8 k8 h8 => ?_, fun n rs e1 h1 h2 ir ok jo => ?_⟩
                      · have kk := k7.trans (km.trans k8)
                        have ed : due = "houses" := by
                          cases cs with
                          | houses _ => rfl
                          | roads e h1 h2 _ => exact absurd ⟨_, e, h1, h2⟩ no
                          | tree e h1 h2 _ _ _ => exact absurd ⟨_, e, h1, h2⟩ no
                        subst ed
                        refine ⟨true, E1.exm, fun _ a ha => ⟨H, xm, dh, d, rfl, rfl, rfl, rfl, rfl, h8, cm.mono (km.trans k8), nh, kk, fun H' k' => ?_⟩, fun z => nomatch z⟩
                        show D.rt _ _
                        rw [eD]
                        exact q _ k'
                      · have kk := k7.trans (km.trans k8)
                        have ed : due = "roads" := by
                          cases cs with
                          | houses z => exact absurd ⟨n, e1, h1, h2⟩ z
                          | roads e h1 h2 _ => rfl
                          | @tree n2 rs b e h1 h2 ir ok _ =>
                            rw [e1] at e
                            have := PyData.int.inj e
                            obtain rfl : n = n2 := by omega
                            exact absurd ⟨rs, ir, ok⟩ no
                        subst ed
                        refine ⟨false, x21, fun z => (nomatch z), fun _ => ⟨true, E2.exm, fun _ a ha => ⟨H, xh, dr, d, rfl, rfl, rfl, rfl, rfl, h8, ch.mono (km.trans k8), nr, kk, fun H' k' => ?_⟩, fun z => nomatch z⟩⟩
                        show D.rt _ _
                        rw [eD]
                        exact q _ k'
                      · have kk := km.trans k8
                        obtain ⟨ed, l2, el⟩ : due = "tree" ∧ ∃ l2, ls = hh :: l2 := by
                          cases cs with
                          | houses z => exact absurd ⟨n, e1, h1, h2⟩ z
                          | @roads n2 e h1 h2 z =>
                            rw [e1] at e
                            have := PyData.int.inj e
                            obtain rfl : n = n2 := by omega
                            exact absurd ⟨rs, ir, ok⟩ z
                          | @tree n2 rs2 b2 e h1 h2 ir2 ok2 df2 =>
                            rw [e1] at e
                            have := PyData.int.inj e
                            obtain rfl : n = n2 := by omega
                            obtain rfl := isRoads_one ir ir2
                            obtain rfl := df.det df2
                            refine ⟨rfl, ?_⟩
                            have hd : (((List.range n).filter fun i => decide (i ∉ Tm.keys b)).head?) = some hh := by
                              rw [List.head?_filter, List.find?_range_eq_some]
                              exact ⟨decide_eq_true hno, List.mem_range.mpr hl, fun j hj => by simp [hall j hj]⟩
                            cases ef : (List.range n).filter fun i => decide (i ∉ Tm.keys b) with
                            | nil => rw [ef] at hd; cases hd
                            | cons i is =>
                              rw [ef] at hd
                              cases hd
                              exact ⟨is, rfl⟩
                        subst ed
                        rw [el] at hlo
                        refine ⟨false, x31, fun z => (nomatch z), fun _ => ⟨false, x32, fun z => (nomatch z), fun _ => ⟨true, E3.exm, fun _ a ha => ⟨hh, l2, lo, d, rfl, rfl, rfl, kk _ _ hlo, by omega, rfl, rfl, h8, fun H' k' => ?_⟩, fun z => nomatch z⟩⟩⟩
                        show D.rt _ _
                        rw [eD]
                        exact q _ (k7.trans (kk.trans k'))
                      · cases cs with
                        | houses z => exact absurd ⟨n, e1, h1, h2⟩ z
                        | @roads n2 e h1 h2 z =>
                          rw [e1] at e
                          have := PyData.int.inj e
                          obtain rfl : n = n2 := by omega
                          exact absurd ⟨rs, ir, ok⟩ z
                        | @tree n2 rs2 b2 e h1 h2 ir2 ok2 df2 =>
                          rw [e1] at e
                          have := PyData.int.inj e
                          obtain rfl : n = n2 := by omega
                          obtain rfl := isRoads_one ir ir2
                          obtain ⟨b, df, lb⟩ := id jo
                          obtain rfl := df.det df2
                          refine hW n rs e1 ir ok jo rfl ?_
                          have G := df.going .start
                          have lt : ∀ h, ∀ x ∈ Tm.near rs h, x < n := fun h x hx => (Tm.near_lt ok.bnd hx).1
                          have al := Tm.all_keys G.g.nodup (G.g.bound h1 lt) (by simpa [Tm.keys] using lb)
                          refine List.filter_eq_nil_iff.mpr fun i hi => ?_
                          simp [al i (List.mem_range.mp hi)]
                    have mk : ∀ {D : Ends} {x dx : Addr}, D.rt = Q → H7 x = none → H7 dx = none → dx ≠ x → (∀ (tr : Addr) H8, (∃ (n : Nat) (rs : List Tm.Road), Same H H8 ∧ TreeAt K H8 tr n rs ∧ dh = .int n ∧ isRoads dr rs ∧ due = "tree" ∧ ls = [] ∧ H8 lo = some (.lst (natV ls))) → D.nx [some vh, some vr, some (.bl bn), some xh, some xm, some (.bl gd), some (.str due), some (.ref re), some (.ref lo), none, some (.ref tr), none] H8) →
                        spInit K [.ref x, xm, xh] (upd (upd H7 dx (.own x)) x (.ins (CT K) dx [])) (fun v H8 => v = .non ∧ D.nx [some vh, some vr, some (.bl bn), some xh, some xm, some (.bl gd), some (.str due), some (.ref re), some (.ref lo), none, some (.ref x), none] H8)
                          (fun cls d H' => L2N.wManyAs K (fun _ _ _ _ => False) D [(.ref (He.ga K "InvalidHouses"), 11, TsG K "InvalidHouses" 4 "houses"), (.ref (He.ga K "InvalidRoads"), 11, TsG K "InvalidRoads" 3 "roads"), (.ref (He.ga K "NotJoined"), 11, TsN K)] cls d
                          [some vh, some vr, some (.bl bn), some xh, some xm, some (.bl gd), some (.str due), some (.ref re), some (.ref lo), none, none, none] H') := by
                      intro D x dx eD hx hdx ne hnx
                      have hx2 : upd H7 dx (.own x) x = none := by rw [upd_ne ne.symm]; exact hx
                      have km : Same H7 (upd (upd H7 dx (.own x)) x (.ins (CT K) dx [])) := (upd_grow hdx).trans (upd_grow hx2)
                      refine ⟨x, dx, xm, xh, dh, dr, rfl, upd_same, ((cm.mono km).rd (k7.trans km)), ((ch.mono km).rd (k7.trans km)), nr.tame (by decide) (by decide), md eD km fun n rs e1 ir ok jo ed el H8 k8 T => ⟨rfl, hnx x H8 ⟨n, rs, fun b o e => ?_, T, e1, ir, ed, el, ?_⟩⟩⟩
                      · have nb : b ≠ x := ne_of_none (k7 _ _ e) hx
                        exact k8 _ _ nb (km _ _ (k7 _ _ e))
                      · exact k8 _ _ (ne_of_none hlo hx) (km _ _ hlo)
                    refine ⟨_, rfl, bn, rfl, ?_⟩
                    cases bn with
                    | true => exact iteT ⟨_, rfl, _, rfl, rfl, rfl, fun x dx hx hdx ne => mk rfl hx hdx ne fun tr H8 ⟨n, rs, h⟩ => rest _ _ ⟨tr, n, rs, h.1, h.2.1, h.2.2.1, h.2.2.2.1, h.2.2.2.2.1, h.2.2.2.2.2.1, h.2.2.2.2.2.2, rfl⟩⟩
                    | false => exact iteF ⟨_, rfl, _, rfl, rfl, rfl, fun x dx hx hdx ne => mk rfl hx hdx ne fun tr H8 ⟨n, rs, h⟩ => rest _ _ ⟨tr, n, rs, h.1, h.2.1, h.2.2.1, h.2.2.2.1, h.2.2.2.2.1, h.2.2.2.2.2.1, h.2.2.2.2.2.2, rfl⟩⟩
                · refine ⟨_, rfl, _, _, rfl, .inl ⟨_, SqL.of hre, rfl⟩, _, rfl, by omega, by omega, fun D hD => ?_⟩
                  let bp : Nat → Bool := fun i => decide (rv[i]? = some .non)
                  refine lc_gen walk_range bp (fun i y _ => y = .int (i : Int)) (fun _ _ _ _ _ h => h) hD (by omega) (fun _ _ => True.intro) ?_ ?_
                  · rintro i x H8 H9 K1 N1 hi k8 ⟨o, ho⟩ ⟨rfl, rfl⟩ hK hN
                    have hi : i < rv.length := by omega
                    have e1 : (0 : Int) + i = (i : Nat) := by omega
                    have e : bp i = decide (rv[i] = V.non) := by
                      show decide (rv[i]? = some .non) = _
                      rw [List.getElem?_eq_getElem hi]
                      apply decide_eq_decide.mpr
                      simp
                    refine ⟨rfl, _, rfl, _, rfl, ixAt (v := rv[i]) (del_sub k8 _ _ hre) (by rw [e1]; exact atI_nat (List.getElem?_eq_getElem hi)) ⟨rfl, _, rfl, iteB (fun c => ⟨_, rfl, hK (e.trans c) _ _ (Same.refl _) (congrArg V.int e1)⟩) fun c => hN (e.trans c) _ (Same.refl _)⟩⟩
                  · intro ys H8 k8 h8 l8 r8
                    have en : ((rv.length : Int)).toNat = rv.length := by omega
                    have eys : ys = natV ls := by
                      have := map_of (F := fun i => V.int ((i : Nat) : Int)) l8 r8
                      rw [this, els]
                      rfl
                    have kx := del_sub k8
                    exact rest _ _ ⟨D, k6.trans kx, ch.mono kx, cm.mono kx, by rw [← eys]; exact h8, rfl⟩
              · refine ⟨_, rfl, rfl, _, rfl, iteB (fun e => ?_) fun e => ?_⟩
                · have e : due = "tree" := V.str.inj (of_decide_eq_true e)
                  rcases hdue with ⟨rfl, _⟩ | ⟨n, rfl, h1, h2, ⟨rfl, _⟩ | ⟨rfl, rs, ir, ok⟩⟩
                  · exact absurd e (by decide)
                  · exact absurd e (by decide)
                  · cases rh
                    obtain ⟨p, xs, ds, rfl, hp, ra, hds⟩ := row_of rr (by rcases ir with rfl | rfl <;> rfl)
                    obtain rfl := (isRoads_row hds).mp ir
                    refine ⟨_, rfl, _, rfl, n, p, xs, rs, rfl, hp.mono k5, ra.mono k5, ok, h2, fun nt H6 k6 fn rn _ => ⟨nt, n, 0, rs, rfl, rn, ok.bnd, h1, h2, fun d b H7 k7 fd hdf G hd => ?_⟩⟩
                    have kx := k6.trans k7
                    have lf : (foundV n b).length = n := found_len
                    refine rest _ _ ⟨d, foundV n b, _, k5.trans kx, ch.mono kx, cm.mono kx, .tree rfl h1 h2 ir ok hdf, hd, by rw [lf]; exact h2, ?_, rfl⟩
                    rw [lf]
                    refine List.filter_congr fun i hi => decide_eq_decide.mpr ?_
                    have hi := List.mem_range.mp hi
                    have e2 : (foundV n b)[i]? = some (optV (par b i)) := by
                      unfold foundV
                      rw [List.getElem?_map, List.getElem?_eq_getElem (by rw [List.length_range]; exact hi)]
                      simp
                    rw [e2, ← par_none]
                    cases par b i with
                    | none => simp [optV]
                    | some z => simp [optV]
                · have e := of_decide_eq_false e
                  refine ⟨two_ln (by decide), fun pe hpe => rest _ _ ⟨pe, [], [], k5.trans (upd_grow hpe), ch.mono (upd_grow hpe), cm.mono (upd_grow hpe), ?_, upd_same, by decide, rfl, rfl⟩⟩
                  rcases hdue with ⟨rfl, h⟩ | ⟨n, rfl, h1, h2, ⟨rfl, h⟩ | ⟨rfl, _⟩⟩
                  · exact .houses h
                  · exact .roads rfl h1 h2 h
                  · exact absurd rfl e
            · refine ⟨_, rfl, gd, rfl, iteB (fun e => ?_) fun e => ?_⟩
              · have e := not_t e
                subst e
                exact rest _ _ ⟨"houses", k4, ch, cm, .inl ⟨rfl, fun z => by have := hg.mpr z; cases this⟩, rfl⟩
              · have e := not_f e
                obtain ⟨n, rfl, h1, h2⟩ := hg.mp e
                cases rh
                refine ⟨_, rfl, _, rfl, n, vr, dr, rfl, rr.mono k4, nr.tame (by decide) (by decide), h1, by omega, fun b H5 k5 hb => ⟨_, rfl, iteB (fun e => ?_) fun e => ?_⟩⟩
                · exact rest _ _ ⟨"tree", k4.trans k5, ch.mono k5, cm.mono k5, .inr ⟨n, rfl, h1, h2, .inr ⟨rfl, hb.mp e⟩⟩, rfl⟩
                · exact rest _ _ ⟨"roads", k4.trans k5, ch.mono k5, cm.mono k5, .inr ⟨n, rfl, h1, h2, .inl ⟨rfl, fun z => by have := hb.mpr z; rw [e] at this; cases this⟩⟩, rfl⟩
          · refine ⟨_, rfl, vh, dh, 65, rfl, rh.mono k4, _, rfl, iteB (fun e => ?_) fun e => rest _ _ ⟨false, ⟨(fun z => nomatch z), fun ⟨n, e2, h1, h2⟩ => ?_⟩, rfl, rfl⟩⟩
            · obtain ⟨a, ha, rfl, rfl⟩ := int_of (n := 65) rh e
              refine ⟨_, rfl, _, _, rfl, rfl, rest _ _ ⟨_, ?_, rfl, rfl⟩⟩
              constructor
              · intro z
                have := of_decide_eq_true z
                exact ⟨a, rfl, by omega, by omega⟩
              · rintro ⟨n, e2, h1, h2⟩
                have := PyData.int.inj e2
                exact decide_eq_true (by omega)
            · rw [e2] at e
              have := belowD_of (show n < 65 by omega)
              rw [show ((65 : Nat) : Int) = 65 from rfl] at this
              rw [this] at e
              cases e
        · refine ⟨_, rfl, vh, _, _, _, _, rfl, .ty _, (rh.mono k3).tx, Tk.tt _ (tyd_mem dh) "list" (by decide), _, rfl, iteB (fun e => ?_) fun e => ⟨_, rfl, rest _ _ ⟨vh, k3, ch, .inr ⟨by simpa using e, rh⟩, rfl⟩⟩⟩
          have e : tyd dh = "list" := by simpa using e
          cases rh with
          | lst h1 ra => exact ⟨_, rfl, _, _, rfl, .inl (SqL.of (k3 _ _ h1)), fun l hl => rest _ _ ⟨.ref l, k3.trans (upd_grow hl), ch.mono (upd_grow hl), .inl ⟨l, _, _, rfl, rfl, upd_same, ra, fresh_of k3 hl⟩, rfl⟩⟩
          | _ => simp [tyd] at e
      · refine ⟨_, rfl, vr, _, _, _, _, rfl, .ty _, rr.tx, Tk.tt _ (tyd_mem dr) "list" (by decide), _, rfl, iteB (fun e => ?_) fun e => ⟨_, rfl, rest _ _ ⟨vr, Same.refl _, .inr ⟨by simpa using e, rr⟩, rfl⟩⟩⟩
        have e : tyd dr = "list" := by simpa using e
        cases rr with
        | lst h1 ra => exact ⟨_, rfl, _, _, rfl, .inl (SqL.of h1), fun l hl => rest _ _ ⟨.ref l, upd_grow hl, .inl ⟨l, _, _, rfl, rfl, upd_same, ra, hl⟩, rfl⟩⟩
        | _ => simp [tyd] at e
end
end K02

namespace K02
open PySem PySem.Spec PyProof.Rows L2
abbrev sLRefus : Stmt := top 46
theorem scLRefus : FnScope ["box", "houses", "roads", "by_name", "menu", "wrong", "spoilt", "k", "turn"] ["box", "houses", "roads"] (defScope sLRefus) := ⟨rfl, rfl, rfl, by decide +kernel, rfl, by decide +kernel, by decide +kernel⟩
theorem nc_s3 : Nc 0 40 (.str "3") := by refine ⟨?_, ?_, ?_, ?_⟩ <;> decide +kernel
theorem nc_pred {n : Nat} (h : n < 66) : Nc 0 40 (.int ((n : Int) - 1)) := by
  cases n with
  | zero => exact nc_big.2.2
  | succ n =>
    have : ((n + 1 : Nat) : Int) - 1 = (n : Nat) := by omega
    rw [this]
    exact nc_nat (by omega)
def SRf (σ : L2.St) : Prop := ∃ n : Nat, n ≤ 64 ∧ σ[1]? = some (some (.int n))
def spRefus (K : PySem.W.Frag) : Sp := fun vs H Q _ => ∃ (p t nt r : Addr) (n c : Nat) (rs : List Tm.Road), vs = [.ref p, .int n, .ref r] ∧ Wd K H p t nt r n rs c ∧ c + 30 < 1000 ∧ ∀ H', But p H H' → BoxAt H' p (c + 20) → Q (.bl true) H'
section
variable {P : Program} {w : World} {K : PySem.W.Frag} {mg : Str → Option Value} {base : Heap} {f : Addr} {fd : FuncData}
theorem ok_refus (F : Fd K "_law_refusals_right" sLRefus f fd) (g : mg "_law_refusals_right" = some (.ref f)) (B : Bl mg) (o_law_take : Ok P w K mg base CX0 1 "_law_take" sTake ["box", "many"] spDraw1)
    (o_law_spoilt_roads : Ok P w K mg base CX0 2 "_law_spoilt_roads" sLSpoilt ["box", "houses", "roads"] spSpoilt) (o_law_other_road : Ok P w K mg base CX0 2 "_law_other_road" sLOther ["box", "houses", "roads"] spOther)
    (o_law_built_right : OkG P w K mg base 6 "_law_built_right" sLBuilt ["houses", "roads", "by_name"] spBuilt) : OkG P w K mg base 7 "_law_refusals_right" sLRefus ["box", "houses", "roads"] (spRefus K) := by
  refine ⟨f, fd, g, F, F.bindsN fun _ _ _ _ _ _ us hl => match us, hl with | [_, _, _], _ => rfl, F.okG scLRefus (fun vs H Q E h => ?_) (fun cdv A outer s H vs Q hgd hr h => ?_)⟩
  · obtain ⟨p, t, nt, r, n, c, rs, rfl, _⟩ := h
    rfl
  · obtain ⟨p, t, nt, r, n, c, rs, rfl, W, hc, q⟩ := h
    refine ⟨_, (pss_cons (ps_set (i := 3) scLRefus.nd rfl (Or.inl rfl) (pe_cmpR op_eq (pe_o o_law_take (hr.mono (by decide)) (by rfl) (pa_cons (pv 0) (pa_cons pe_int pa_nil))) pe_int (nomark _)))
      (pss_cons (ps_set (i := 4) scLRefus.nd rfl (Or.inl rfl) (pe_lst (pa_i1 (S := SRf) (p := p) (pe_iup (k := 0) (m := 40) (k' := 1) (m' := 300) (pe_iC (d := .int 0) pe_int (fun _ => .int _) (nc_nat (x := 0) (by decide)))) (pa_i1 (pe_iup (k := 0) (m := 40) (k' := 1) (m' := 300) (pe_iC (d := .int 65) pe_int (fun _ => .int _) (nc_nat (x := 65) (by decide)))) (pa_i1 (pe_iup (k := 0) (m := 40) (k' := 1) (m' := 300) (pe_iS (pe_un un_neg pe_int) (fun σ H Q s q => ⟨_, rfl, q _ (.int (-1)) (fun _ => .int _) nc_big.2.2⟩))) (pa_i1 (pe_iup (k := 0) (m := 40) (k' := 1) (m' := 300) (pe_iC pe_non (fun _ => .non) nc_non)) (pa_i1 (pe_iup (k := 0) (m := 40) (k' := 1) (m' := 300) (pe_iC (d := .bool true) pe_bl (fun _ => .bl _) (nc_bool _))) (pa_i1 (pe_iup (k := 0) (m := 40) (k' := 1) (m' := 300) (pe_iC (d := .str "3") pe_str (fun _ => .str _) nc_s3)) (pa_i1 (pe_iup (k' := 1) (m' := 300) (pe_itup (pa_i1 (pe_iC (d := .int 3) pe_int (fun _ => .int _) (nc_nat (x := 3) (by decide))) pa_i0))) (pa_i1 (pe_iup (k' := 1) (m' := 300) (pe_ilst (pa_i1 (pe_iC (d := .int 3) pe_int (fun _ => .int _) (nc_nat (x := 3) (by decide))) pa_i0))) (pa_i1 (pe_iup (k := 0) (m := 40) (k' := 1) (m' := 300) (pe_iS (pe_op op_pow pe_int pe_int) (fun σ H Q s q => ⟨_, _, rfl, rfl, ⟨by decide, by decide, by decide⟩, q _ (.int (10 ^ 19)) (fun _ => .int _) nc_big.1⟩))) (pa_i1 (pe_iup (k := 0) (m := 40) (k' := 1) (m' := 300) (pe_iS (pe_op op_add (pv 1) pe_int) (fun σ H Q ⟨n, hn, s⟩ q => ⟨_, s, _, _, rfl, rfl, q _ (.int ((n + 1 : Nat) : Int)) (fun _ => .int _) (nc_nat (by omega))⟩))) (pa_i1 (pe_iup (k := 0) (m := 40) (k' := 1) (m' := 300) (pe_iS (pe_op op_sub (pv 1) pe_int) (fun σ H Q ⟨n, hn, s⟩ q => ⟨_, s, _, _, rfl, rfl, q _ (.int ((n : Int) - 1)) (fun _ => .int _) (nc_pred (by omega))⟩))) (pa_i1 (pe_iup (k := 0) (m := 40) (k' := 1) (m' := 300) (pe_iS (pe_un un_neg (pe_op op_pow pe_int pe_int)) (fun σ H Q s q => ⟨_, _, rfl, rfl, ⟨by decide, by decide, by decide⟩, _, rfl, q _ (.int (-10 ^ 19)) (fun _ => .int _) nc_big.2.1⟩))) (pa_i1 (pe_iup (k' := 1) (m' := 300) pe_idict0) (pa_i1 (pe_iup (k := 0) (m := 40) (k' := 1) (m' := 300) (pe_iC (d := .int 66) pe_int (fun _ => .int _) (nc_nat (x := 66) (by decide)))) (pa_i1 (pe_iup (k := 0) (m := 40) (k' := 1) (m' := 300) (pe_iC (d := .bool false) pe_bl (fun _ => .bl _) (nc_bool _))) pa_i0)))))))))))))))))
      (pss_cons (ps_set (i := 5) scLRefus.nd rfl (Or.inl rfl) (pe_ix ix_seq (pv 4) (pe_o o_law_take (hr.mono (by decide)) (by rfl) (pa_cons (pv 0) (pa_cons pe_int pa_nil))) fun _ _ => rfl))
      (pss_cons (ps_set (i := 6) scLRefus.nd rfl (Or.inl rfl) (pe_o o_law_spoilt_roads (hr.mono (by decide)) (by rfl) (pa_cons (pv 0) (pa_cons (pv 1) (pa_cons (pv 2) pa_nil)))))
      (pss_cons (ps_if (pw_or (pt_not (pt_val (pe_oG o_law_built_right hgd (hr.mono (by decide)) (by rfl) (pa_cons (pv 1) (pa_cons (pv 6) (pa_cons (pv 3) pa_nil)))))) (pw_or1 (pt_not (pt_val (pe_oG o_law_built_right hgd (hr.mono (by decide)) (by rfl) (pa_cons (pv 5) (pa_cons (pe_callTy call_list_of (by rfl) (B.u "list" (by decide +kernel)) (by decide +kernel) (pa_cons (pv 2) pa_nil)) (pa_cons (pe_not (pv 3)) pa_nil)))))))).pt
        (pss_one (ps_ret pe_bl))
        pss_nil)
      (pss_cons (ps_if (pt_not (pt_val (pe_oG o_law_built_right hgd (hr.mono (by decide)) (by rfl) (pa_cons (pv 5) (pa_cons (pv 6) (pa_cons (pv 3) pa_nil))))))
        (pss_one (ps_ret pe_bl))
        pss_nil)
      (pss_cons (ps_if (pt_not (pt_val (pe_oG o_law_built_right hgd (hr.mono (by decide)) (by rfl) (pa_cons pe_int (pa_cons (pe_lc (own := [("k", 7)]) (g := gName 7) rfl scLRefus.nd (pi_range1 (by rfl) (B.u "range" (by decide +kernel)) (pa_cons pe_int pa_nil)) (blkOk_by (N := ["box", "houses", "roads", "by_name", "menu", "wrong", "spoilt", "k", "turn"]) (sc := defScope sLRefus) (by decide +kernel)) (fun _ _ _ _ _ => (pg_name (i := 7) scLRefus.nd rfl (Or.inl rfl))) (fun _ _ _ _ _ => pts_nil) (fun _ _ _ _ _ => (pe_tup (pa_cons (pv 7) (pa_cons (pe_op op_add (pv 7) pe_int) pa_nil))))) (pa_cons (pv 3) pa_nil))))))
        (pss_one (ps_ret pe_bl))
        pss_nil)
      (pss_cons (ps_for (passes_of rfl) rfl (pi_range1 (by rfl) (B.u "range" (by decide +kernel)) (pa_cons pe_int pa_nil)) (pg_name (i := 8) scLRefus.nd rfl (Or.inl rfl))
        (pss_one (ps_if (pt_not (pt_val (pe_oG o_law_built_right hgd (hr.mono (by decide)) (by rfl) (pa_cons (pv 1) (pa_cons (pe_o o_law_other_road (hr.mono (by decide)) (by rfl) (pa_cons (pv 0) (pa_cons (pv 1) (pa_cons (pv 2) pa_nil)))) (pa_cons (pe_not (pv 3)) pa_nil))))))
          (pss_one (ps_ret pe_bl))
          pss_nil)))
      (pss_one (ps_ret pe_bl)))))))))), ?_⟩
    have h64 := W.T.le
    have lr := W.ok.len
    refine ⟨_, rfl, p, 2, c, rfl, W.B, by omega, by decide, by decide, fun bi H1 b0 b1 k1 hp1 e1 => ⟨rfl, ?_⟩⟩
    generalize decide (V.int bi = V.int 1) = bn
    dsimp only [gName, tSeq, L2.start]
    refine ⟨⟨n, h64, rfl⟩, hp1.some, fun ms H2 k2 l2 r2 => ⟨two_ln (by omega), fun pm hpm => ?_⟩⟩
    have k12 := k2.trans (upd_grow (o := .lst ms) hpm)
    have hm : upd H2 pm (.lst ms) pm = some (.lst ms) := upd_same
    have hp2 : BoxAt (upd H2 pm (.lst ms)) p (c + 1) := hp1.same k12
    have r2' : ∀ x ∈ ms, ∃ d, Rdd (del (upd H2 pm (.lst ms)) p) x d ∧ Nc 1 300 d := fun x hx => let ⟨d, rd, nd⟩ := r2 x hx; ⟨d, rd.mono (del_mono (upd_grow hpm)), nd⟩
    obtain ⟨ob, hob⟩ := hp1.some
    have nmp : pm ≠ p := fun e => by rw [e, k2 _ _ hob] at hpm; cases hpm
    have kH2 : But p H (upd H2 pm (.lst ms)) := k1.trans (But.of k12)
    generalize upd H2 pm (.lst ms) = H3 at hm hp2 r2' kH2
    refine ⟨_, rfl, _, rfl, p, 15, _, rfl, hp2, by omega, by decide, by decide, fun wi H4 w0 w1 k4 hp4 e4 => ?_⟩
    obtain ⟨wn, rfl⟩ : ∃ wn : Nat, wi = wn := ⟨wi.toNat, by omega⟩
    have hw : wn < ms.length := by omega
    refine ixAt (k4 _ _ nmp hm) (atI_nat (List.getElem?_eq_getElem hw)) ?_
    obtain ⟨dw, rw4, nw⟩ : ∃ d, Rdd (del H4 p) ms[wn] d ∧ Nc 1 300 d := let ⟨d, rd, nd⟩ := r2' _ (List.getElem_mem hw); ⟨d, rd.mono (but_del k4), nd⟩
    generalize ms[wn] = xw at rw4
    have kH4 := kH2.trans k4
    have W4 := W.but kH4 hp4
    refine ⟨_, rfl, _, rfl, _, rfl, p, r, n, _, rs, rfl, hp4, by omega, h64, W4.R, W.ok, fun xv ds H5 k5 hp5 rs5 ns => ?_⟩
    have kH5 := kH4.trans k5
    have W5 := W.but kH5 hp5
    have rw5 := rw4.mono (but_del k5)
    have nn : Nc 3 60000 (.int (n : Int)) := (nc_nat (by omega)).up
    have nw3 : Nc 3 60000 dw := nw.up
    have nrs : Nc 3 60000 (.list (rs.map rd)) := (nc_list (k := 1) (m := 300) (l := 64) (fun d hd => rd_nc W.ok h64 hd) (by rw [List.length_map]; omega)).up
    refine ⟨_, rfl, _, rfl, _, rfl, .int n, xv, .int n, ds, bn, rfl, .int _, rs5.mono del_le, nn, ns, fun H6 k6 => ⟨_, rfl, iteF ?_⟩⟩
    have kH6 := kH5.trans (But.of k6)
    obtain ⟨xs, hxs, hix⟩ : ∃ xs, del H5 p r = some (.lst xs) ∧ RddAll (del H5 p) xs (rs.map rd) := by
      cases W5.R with
      | lst h1 ra => exact ⟨_, h1, ra⟩
    have hxs6 := k6 _ _ (del_le _ _ hxs)
    refine ⟨_, rfl, _, rfl, r, xs, rfl, .inl (SqL.of hxs6), fun l hl => ⟨_, rfl, bn, rfl, ?_⟩⟩
    have ku := upd_grow (o := .lst xs) hl
    have rl : Rdd (upd H6 l (.lst xs)) (.ref l) (.list (rs.map rd)) := .lst upd_same ((hix.mono del_le).mono (k6.trans ku))
    refine ⟨xw, .ref l, dw, _, !bn, rfl, (rw5.mono del_le).mono (k6.trans ku), rl, nw3, nrs, fun H7 k7 => ⟨_, rfl, iteF ?_⟩⟩
    have k57 := k6.trans (ku.trans k7)
    refine ⟨_, rfl, _, rfl, _, rfl, xw, xv, dw, ds, bn, rfl, (rw5.mono del_le).mono k57, (rs5.mono del_le).mono k57, nw3, ns, fun H8 k8 => ⟨_, rfl, iteF ?_⟩⟩
    have k58 := k57.trans k8
    refine ⟨_, rfl, by decide, by decide, fun D hD => ?_⟩
    refine lc_gen walk_range (fun _ => true) (fun i y H' => ∃ t, y = .ref t ∧ H' t = some (.tup [.int (i : Nat), .int ((i + 1 : Nat) : Int)])) (fun i y _ _ k ⟨t, a, h⟩ => ⟨t, a, k _ _ h⟩) hD (by decide) (fun _ _ => True.intro) ?_ ?_
    · rintro i x H9 H10 K1 N1 hi k9 ⟨o, ho⟩ ⟨rfl, rfl⟩ hK _
      have e1 : (0 : Int) + i = (i : Nat) := by omega
      have e2 : (0 : Int) + i + 1 = ((i + 1 : Nat) : Int) := by omega
      refine ⟨rfl, _, rfl, _, rfl, _, _, rfl, rfl, two_ln (by show 2 ≤ _; decide), fun t2 ht2 => hK rfl _ _ (upd_grow ht2) ⟨t2, rfl, ?_⟩⟩
      rw [del_new ho ht2]
      exact congrArg some (congrArg HO.tup (congr (congrArg List.cons (congrArg V.int e1)) (congrArg (fun z => [z]) (congrArg V.int e2))))
    · intro ys H9 k9 h9 l9 r9
      rw [filt_all] at l9 r9
      have l9 : ys.length = 64 := l9
      have k59 := k58.trans (del_sub k9)
      let ds9 : List PyData := (List.range 64).map fun i => .tuple [.int (i : Nat), .int ((i + 1 : Nat) : Int)]
      have rd9 : Rdd H9 (.ref D) (.list ds9) := by
        refine .lst h9 (rdds_of (by rw [l9]; simp [ds9]) fun i y d h1 h2 => ?_)
        have lt := (List.getElem?_eq_some_iff.mp h1).1
        have hi : i < 64 := by omega
        obtain ⟨t, rfl, ht⟩ := r9 i i y (by rw [List.getElem?_eq_getElem (by rw [List.length_range]; exact hi)]; simp) h1
        simp only [ds9] at h2
        rw [List.getElem?_map, List.getElem?_eq_getElem (by rw [List.length_range]; exact hi)] at h2
        simp at h2
        subst h2
        exact .tup (del_le _ _ ht) (.cons (.int _) (.cons (.int _) .nil))
      have n9 : Nc 3 60000 (.list ds9) := by
        refine (nc_list (k := 1) (m := 300) (l := 64) (fun d hd => ?_) (by simp [ds9])).up
        simp only [ds9] at hd
        obtain ⟨i, hi, rfl⟩ := List.mem_map.mp hd
        have hi := List.mem_range.mp hi
        refine (nc_tup (k := 0) (m := 40) (l := 2) (fun e he => ?_) (Nat.le_refl _)).up
        simp only [List.mem_cons, List.not_mem_nil, or_false] at he
        rcases he with rfl | rfl
        · exact nc_nat (by omega)
        · exact nc_nat (by omega)
      refine ⟨_, rfl, .int 65, .ref D, .int 65, .list ds9, bn, rfl, .int _, rd9, (nc_nat (x := 65) (by decide)).up, n9, fun H10 k10 => ⟨_, rfl, iteF ?_⟩⟩
      have kHa := kH5.trans (But.of (k59.trans k10))
      have hpa := hp5.same (k59.trans k10)
      refine ⟨_, rfl, by decide, by decide, ?_⟩
      refine for_it (walk_range (lo := 0) (n := 2)) (fun i σ H' => But p H H' ∧ BoxAt H' p (c + 5 + 3 * i) ∧ ∃ (sp : V) (tu : Option V), σ = [some (.ref p), some (.int n), some (.ref r), some (.bl bn), some (.ref pm), some xw, some xv, none, tu]) ⟨kHa, hpa.up (by omega), xv, none, rfl⟩ (fun _ _ _ _ _ => True.intro) ?_ ?_
      · rintro i x σ Ha Hb hi ⟨ka, hpb, _, tu, rfl⟩ ⟨rfl, rfl⟩
        have Wa := W.but ka hpb
        have hi2 : i < 2 := hi
        refine ⟨_, rfl, _, rfl, _, rfl, _, rfl, p, r, n, _, rs, rfl, hpb, by omega, h64, Wa.R, W.ok, fun yv dy Hc kc hpc rc nc => ⟨_, rfl, bn, rfl, ?_⟩⟩
        refine ⟨.int n, yv, .int n, dy, !bn, rfl, .int _, rc.mono del_le, nn, nc, fun Hd kd => ⟨_, rfl, iteF ⟨ka.trans (kc.trans (But.of kd)), (hpc.same kd).up (by omega), xv, _, rfl⟩⟩⟩
      · rintro σ Ha ⟨ka, hpb, _, tu, rfl⟩
        exact q _ ka (hpb.up (by omega))
end
end K02

namespace K02
open PySem PySem.Spec PyProof.Rows L2
abbrev sLPlain : Stmt := top 47
theorem scLPlain : FnScope ["box", "tree", "houses", "roads", "values", "value"] ["box", "tree", "houses", "roads"] (defScope sLPlain) := ⟨rfl, rfl, rfl, by decide +kernel, rfl, by decide +kernel, by decide +kernel⟩
def spPlain (K : PySem.W.Frag) : Sp := fun vs H Q _ => ∃ (p t nt r : Addr) (n c : Nat) (rs : List Tm.Road), vs = [.ref p, .ref t, .int n, .ref r] ∧ Wd K H p t nt r n rs c ∧ c + 30 < 1000 ∧ ∀ H', But p H H' → BoxAt H' p (c + 5) → Q (.bl true) H'
section
variable {P : Program} {w : World} {K : PySem.W.Frag} {mg : Str → Option Value} {base : Heap} {f : Addr} {fd : FuncData}
theorem ok_plain (F : Fd K "_law_plain_right" sLPlain f fd) (g : mg "_law_plain_right" = some (.ref f)) (B : Bl mg) (C : TreeK K mg) (hsy : ∃ o, K.lookup sysModules = some o) (o_law_take : Ok P w K mg base CX0 1 "_law_take" sTake ["box", "many"] spDraw1) (o_law_bad : Ok P w K mg base CX0 2 "_law_bad" sLBad ["box", "houses"] spLBad)
    (o_law_house : Ok P w K mg base CX0 1 "_law_house" sLHouse ["value", "houses"] spLHouse) (ML : OkM P w K mg base CX0 1 "__len__" ["self"] (spLen K)) (MC : OkM P w K mg base CX0 2 "__contains__" ["self", "value"] (spCont K)) : OkG P w K mg base 4 "_law_plain_right" sLPlain ["box", "tree", "houses", "roads"] (spPlain K) := by
  obtain ⟨fL, bL, oL⟩ := ML.ex
  obtain ⟨fC, bC, oC⟩ := MC.ex
  refine ⟨f, fd, g, F, F.bindsN fun _ _ _ _ _ _ us hl => match us, hl with | [_, _, _, _], _ => rfl, F.okG scLPlain (fun vs H Q E h => ?_) (fun cdv A outer s H vs Q hgd hr h => ?_)⟩
  · obtain ⟨p, t, nt, r, n, c, rs, rfl, _⟩ := h
    rfl
  · have hu : (cxOf CX0 P w K mg base ["box", "tree", "houses", "roads", "values", "value"] "_law_plain_right" (defScope sLPlain) f cdv A outer s H noE).A.units + 64 < cLine := by
      have z := hr.un
      show (A.deeper _).units + 64 < cLine
      omega
    refine ⟨_, (pss_cons (ps_if (pt_cmpR op_ne (pe_callB (call_repr hgd hu hsy) (by rfl) (B.u "repr" (by decide +kernel)) (by decide +kernel) (pa_cons (pe_lst (pa_cons (pe_fld (pv 1) rfl) (pa_cons (pe_callB (call_lenO oL bL pass0 (hr.mono (by decide)) C.le C.lef) (by rfl) (B.u "len" (by decide +kernel)) boot_len (pa_cons (pv 1) pa_nil)) (pa_cons (pe_fld (pv 1) rfl) pa_nil)))) pa_nil)) (pe_callB (call_repr hgd hu hsy) (by rfl) (B.u "repr" (by decide +kernel)) (by decide +kernel) (pa_cons (pe_lst (pa_cons (pv 2) (pa_cons (pv 2) (pa_cons (pe_callTy call_tuple_of (by rfl) (B.u "tuple" (by decide +kernel)) (by decide +kernel) (pa_cons (pv 3) pa_nil)) pa_nil)))) pa_nil)) (nomark _))
        (pss_one (ps_ret pe_bl))
        pss_nil)
      (pss_cons (ps_set (i := 4) scLPlain.nd rfl (Or.inl rfl) (pe_lst (pa_cons (pe_o o_law_take (hr.mono (by decide)) (by rfl) (pa_cons (pv 0) (pa_cons (pv 2) pa_nil))) (pa_cons (pe_op op_sub (pv 2) pe_int) (pa_cons (pv 2) (pa_cons (pe_o o_law_bad (hr.mono (by decide)) (by rfl) (pa_cons (pv 0) (pa_cons (pv 2) pa_nil))) (pa_cons (pe_o o_law_bad (hr.mono (by decide)) (by rfl) (pa_cons (pv 0) (pa_cons (pv 2) pa_nil))) (pa_cons pe_bl (pa_cons pe_bl (pa_cons (pe_un un_neg pe_int) pa_nil))))))))))
      (pss_one (ps_ret (pe_cmpR (op_eqD hu) (pe_lc (own := [("value", 5)]) (g := gName 5) rfl scLPlain.nd (pi_list (pv 4)) (blkOk_by (N := ["box", "tree", "houses", "roads", "values", "value"]) (sc := defScope sLPlain) (by decide +kernel)) (fun _ _ _ _ _ => (pg_name (i := 5) scLPlain.nd rfl (Or.inl rfl))) (fun _ _ _ _ _ => (pts_one (pt_cmpR op_ne (pe_cmpR (by exact (op_inO oC bC pass0 (hr.mono (by decide)) C.co C.cof)) (pv 5) (pv 1) (by rfl)) (pe_o o_law_house (hr.mono (by decide)) (by rfl) (pa_cons (pv 5) (pa_cons (pv 2) pa_nil))) (nomark _)))) (fun _ _ _ _ _ => (pv 5))) (pe_lst pa_nil) (nomark _)))))), ?_⟩
    obtain ⟨p, t, nt, r, n, c, rs, rfl, W, hc, q⟩ := h
    have T : TreeAt K H t n rs := W.T.mono del_le
    obtain ⟨dx, rt, nt', g1, g2, g3⟩ := T.ex
    have h64 := T.le
    have lr := W.ok.len
    obtain ⟨xs, hxs, hix⟩ : ∃ xs, del H p r = some (.lst xs) ∧ RddAll (del H p) xs (rs.map rd) := by
      cases W.R with
      | lst h1 ra => exact ⟨_, h1, ra⟩
    have hxs0 := del_le _ _ hxs
    have hix0 := hix.mono del_le
    have nd : Nc 3 60000 (.list [.int n, .int n, .tuple (rs.map rd)]) := by
      refine Nc.up (k := 3) (m := 3 * (19400 + 2) + 3) (nc_list (k := 2) (m := 19400) (l := 3) (fun e he => ?_) (Nat.le_refl _))
      simp only [List.mem_cons, List.not_mem_nil, or_false] at he
      rcases he with rfl | rfl | rfl
      · exact (nc_nat (by omega)).up
      · exact (nc_nat (by omega)).up
      · exact (nc_tup (k := 1) (m := 300) (l := 64) (fun d hd => rd_nc T.ok h64 hd) (by rw [List.length_map]; omega)).up
    have tn := nd.tame (by decide) (by decide)
    refine ⟨_, rfl, _, _, _, _, _, rfl, g1, C.cl, C.nh, rfl, _, rfl, t, dx, _, rfl, g1, t, n, rs, rfl, T, _, rfl, by omega, Int.lt_trans (show (n : Int) < 65 by omega) (by decide), _, rfl, _, _, _, _, _, rfl, g1, C.cl, C.nr, rfl, two_ln (by show 3 ≤ _; decide), fun pa hpa => ?_⟩
    have ka := upd_grow (o := .lst [.int n, .int n, .ref rt]) hpa
    have ra1 : Rdd (upd H pa (.lst [.int n, .int n, .ref rt])) (.ref pa) (.list [.int n, .int n, .tuple (rs.map rd)]) := .lst upd_same (.cons (.int _) (.cons (.int _) (.cons (g2.mono ka) .nil)))
    refine ⟨_, _, rfl, ra1, tn.s, tn.h, tn.len, _, rfl, _, rfl, _, rfl, r, xs, rfl, .inl ⟨SqL.of (ka _ _ hxs0), fun pt hpt => ⟨two_ln (by show 3 ≤ _; decide), fun pb hpb => ?_⟩⟩⟩
    have kb := upd_grow (o := .tup xs) hpt
    have kc := upd_grow (o := .lst [.int n, .int n, .ref pt]) hpb
    refine ⟨_, _, rfl, .lst upd_same (.cons (.int _) (.cons (.int _) (.cons (.tup (kc _ _ upd_same) (hix0.mono (ka.trans (kb.trans kc)))) .nil))), tn.s, tn.h, tn.len, rfl, _, rfl, iteB (fun z => by simp at z) fun _ => ?_⟩
    have k1 := ka.trans (kb.trans kc)
    have hp1 := W.B.same k1
    generalize upd (upd (upd H pa _) pt _) pb _ = H1 at k1 hp1
    have W1 := W.but (But.of k1) hp1
    refine ⟨_, rfl, _, rfl, p, n, _, rfl, hp1, by omega, by omega, by omega, fun a H2 a0 a1 k2 hp2 e2 => ?_⟩
    refine ⟨_, rfl, _, _, rfl, rfl, _, rfl, _, rfl, _, rfl, p, n, _, rfl, hp2, by omega, h64, fun v1 d1 H3 m1 r1 f1 k3 hp3 => ⟨_, rfl, _, rfl, p, n, _, rfl, hp3, by omega, h64, fun v2 d2 H4 m2 r2 f2 k4 hp4 => ⟨_, rfl, two_ln (by show 8 ≤ _; decide), fun pv hpv => ?_⟩⟩⟩
    have ku := upd_grow (o := .lst [.int a, .int ((n : Int) - 1), .int n, v1, v2, .bl true, .bl false, .int (-1)]) hpv
    have k5 : But p H (upd H4 pv (.lst [.int a, .int ((n : Int) - 1), .int n, v1, v2, .bl true, .bl false, .int (-1)])) := (But.of k1).trans (k2.trans (k3.trans (k4.trans (But.of ku))))
    have hp5 := hp4.same ku
    have hv5 : upd H4 pv (.lst [.int a, .int ((n : Int) - 1), .int n, v1, v2, .bl true, .bl false, .int (-1)]) pv = some (.lst [.int a, .int ((n : Int) - 1), .int n, v1, v2, .bl true, .bl false, .int (-1)]) := upd_same
    have r1' := ((r1.mono (but_del k4)).mono del_le).mono ku
    have r2' := (r2.mono del_le).mono ku
    dsimp only [gName]
    generalize upd H4 pv (.lst [.int a, .int ((n : Int) - 1), .int n, v1, v2, .bl true, .bl false, .int (-1)]) = H5 at k5 hp5 hv5 r1' r2' ⊢
    have T5 : TreeAt K H5 t n rs := (W.but k5 hp5).T.mono del_le
    obtain ⟨dx5, rt5, nt5, g5, _, _⟩ := T5.ex
    have each : ∀ x ∈ [V.int a, .int ((n : Int) - 1), .int n, v1, v2, .bl true, .bl false, .int (-1)], ∃ d, Rdd H5 x d := fun x hx => by
      simp only [List.mem_cons, List.not_mem_nil, or_false] at hx
      rcases hx with rfl | rfl | rfl | rfl | rfl | rfl | rfl | rfl
      · exact ⟨_, .int _⟩
      · exact ⟨_, .int _⟩
      · exact ⟨_, .int _⟩
      · exact ⟨_, r1'⟩
      · exact ⟨_, r2'⟩
      · exact ⟨_, .bl _⟩
      · exact ⟨_, .bl _⟩
      · exact ⟨_, .int _⟩
    have lv : [V.int a, .int ((n : Int) - 1), .int n, v1, v2, .bl true, .bl false, .int (-1)].length ≤ 16777215 := by show 8 ≤ _; decide
    generalize [V.int a, .int ((n : Int) - 1), .int n, v1, v2, .bl true, .bl false, .int (-1)] = vals at hv5 each lv
    refine ⟨_, rfl, pv, rfl, ⟨_, SqL.of hv5⟩, fun D hD => ?_⟩
    refine lc_gen walk_list (fun _ => false) (fun _ _ _ => True) (fun _ _ _ _ _ h => h) hD lv (fun H' k => SqL.of (del_sub k _ _ hv5)) ?_ ?_
    · rintro i x H6 H7 K1 N1 hi k6 ⟨o, ho⟩ ⟨rfl, hx⟩ hK hN
      obtain ⟨d, rx⟩ := each x (List.mem_of_getElem? hx)
      have kx := del_sub k6
      refine ⟨rfl, _, rfl, _, rfl, t, dx5, _, rfl, kx _ _ g5, t, n, rs, x, d, rfl, T5.mono kx, rx.mono kx, _, rfl, _, rfl, _, rfl, x, d, (n : Int), rfl, rx.mono kx, rfl, _, rfl, iteB (fun z => by simp at z) fun _ => hN rfl _ (Same.refl _)⟩
    · intro ys H6 k6 h6 l6 r6
      have e : ys = [] := by
        have : ((List.range vals.length).filter fun _ => false) = [] := by simp
        rw [this] at l6
        exact List.length_eq_zero_iff.mp l6
      subst e
      have kx := del_sub k6
      refine ⟨two_ln (by decide), fun pe hpe => ⟨.list [], .list [], .lst (SqL.of (upd_grow hpe _ _ h6)) .nil, .lst (SqL.of upd_same) .nil, by decide, by decide, ?_⟩⟩
      exact q _ (k5.trans (But.of (kx.trans (upd_grow hpe)))) ((hp5.same (kx.trans (upd_grow hpe))).up (by omega))
end
end K02

namespace L2
open PySem PySem.Spec PyProof.Rows
/-- .. the new list told: over what is walked, its test p, its items as R tells; the new list at D is no part of what R speaks of -/
theorem lc_genL {J : It} {n : Nat} {G : Hp → Prop} {Y : Nat → Hp → V → Hp → Prop} (w : Walk J n G Y) {g : TG} {tt : TT} {te : TE} {vs : List Nat} {σ : St} {H : Hp} {D : Addr} {Qd : Hp → Prop} (p : Nat → Bool) (R : Nat → V → Hp → Prop)
    (Rm : ∀ i y H1 H2, Same H1 H2 → R i y H1 → R i y H2) (hD : H D = none) (hn : n ≤ 16777215) (hG : ∀ H', Same H (del H' D) → G H')
    (he : ∀ i x H1 H2 (K : V → Hp → Prop) (N : Hp → Prop), i < n → Same H (del H1 D) → (∃ zs, H1 D = some (.lst zs)) → Y i H1 x H2 → (p i = true → ∀ y H4, Same H1 H4 → R i y (del H4 D) → K y H4) → (p i = false → ∀ H4, Same H1 H4 → N H4) →
      g x (wipe σ vs) H2 fun σ2 H2' => wipe σ2 vs = wipe σ vs ∧ tt σ2 H2' fun b H3 => if b = true then te σ2 H3 K else N H3)
    (q : ∀ (ys : List V) (H' : Hp), Same H (del H' D) → H' D = some (.lst ys) → ys.length = ((List.range n).filter p).length → (∀ (k i : Nat) (y : V), ((List.range n).filter p)[k]? = some i → ys[k]? = some y → R i y (del H' D)) → Qd H') :
    ∃ W : Nat → Nat → Hp → Prop, (∃ m, W 0 m (upd H D (.lst []))) ∧ ∀ i m H, W i m H →
      (J.stop i H ∧ Qd H) ∨ (J.go i H ∧ ∃ Nx : Hp → Prop, (∀ H', Nx H' → ∃ m', m' < m ∧ W (i + 1) m' H') ∧ ∀ x H', J.yld i H x H' → g x (wipe σ vs) H' fun σ2 H2 => wipe σ2 vs = wipe σ vs ∧ tt σ2 H2 fun b H3 =>
        if b = true then te σ2 H3 fun y H4 => ∃ acc, H4 D = some (.lst acc) ∧ acc.length < sizeLine ∧ Nx (upd H4 D (.lst (acc ++ [y]))) else Nx H3) := by
  have step : ∀ i, (List.range (i + 1)).filter p = (List.range i).filter p ++ (if p i = true then [i] else []) := fun i => by
    rw [List.range_succ, List.filter_append]
    by_cases e : p i = true
    · rw [if_pos e, List.filter_cons_of_pos e] <;> rfl
    · rw [if_neg e, List.filter_cons_of_neg e] <;> rfl
  refine lc_it w (fun i H' => Same H (del H' D) ∧ ∃ ys, H' D = some (.lst ys) ∧ ys.length = ((List.range i).filter p).length ∧ ∀ (k j : Nat) (y : V), ((List.range i).filter p)[k]? = some j → ys[k]? = some y → R j y (del H' D)) ?_ (fun i H' _ h => hG H' h.1) ?_ ?_
  · refine ⟨fun b o e => ?_, [], upd_same, rfl, fun k j y h => by simp at h⟩
    rw [del_ne (ne_of_none e hD), upd_ne (ne_of_none e hD)]
    exact e
  · rintro i x H1 H2 hi ⟨k1, ys, h1, l1, r1⟩ hy
    have bound : ((List.range i).filter p).length ≤ i := by
      have := List.length_filter_le p (List.range i)
      rwa [List.length_range] at this
    refine he i x H1 H2 _ _ hi k1 ⟨_, h1⟩ hy (fun e y H4 k4 r4 => ?_) (fun e H4 k4 => ?_)
    · refine ⟨ys, k4 _ _ h1, by rw [l1]; exact lt_ln (by omega), (fun b o z => ?_), _, upd_same, ?_, ?_⟩
      · have z1 := k1 b o z
        have nb : b ≠ D := ne_of_none z hD
        rw [del_ne nb] at z1 ⊢
        rw [upd_ne nb]
        exact k4 _ _ z1
      · rw [step, if_pos e, List.length_append, List.length_append, l1] <;> rfl
      · intro k j y2 hk hy2
        have dd : del (upd H4 D (.lst (ys ++ [y]))) D = del H4 D := by
          funext b
          by_cases nb : b = D
          · rw [nb, del_same, del_same]
          · rw [del_ne nb, del_ne nb, upd_ne nb]
        rw [dd]
        rw [step, if_pos e] at hk
        by_cases c : k < ys.length
        · rw [List.getElem?_append_left (by omega)] at hk
          rw [List.getElem?_append_left c] at hy2
          exact Rm _ _ _ _ (del_mono k4) (r1 k j y2 hk hy2)
        · have lt := (List.getElem?_eq_some_iff.mp hy2).1
          rw [List.length_append] at lt
          have ek : k = ys.length := by
            have : ([y] : List V).length = 1 := rfl
            omega
          subst ek
          rw [List.getElem?_append_right (by omega)] at hk
          rw [List.getElem?_append_right (Nat.le_refl _)] at hy2
          rw [← l1, Nat.sub_self] at hk
          rw [Nat.sub_self] at hy2
          obtain rfl : i = j := by simpa using hk
          obtain rfl : y = y2 := by simpa using hy2
          exact r4
    · refine ⟨(fun b o z => ?_), ys, k4 _ _ h1, ?_, ?_⟩
      · have z1 := k1 b o z
        have nb : b ≠ D := ne_of_none z hD
        rw [del_ne nb] at z1 ⊢
        exact k4 _ _ z1
      · rw [step, if_neg (by rw [e]; exact Bool.false_ne_true), List.append_nil, l1]
      · intro k j y2 hk hy2
        rw [step, if_neg (by rw [e]; exact Bool.false_ne_true), List.append_nil] at hk
        exact Rm _ _ _ _ (del_mono k4) (r1 k j y2 hk hy2)
  · rintro H1 ⟨k1, ys, h1, l1, r1⟩
    exact q ys H1 k1 h1 l1 r1
end L2
namespace K02
open PySem PySem.Spec PyProof.Rows L2
abbrev sLEqual : Stmt := top 48
theorem scLEqual : FnScope ["trees", "worlds", "again", "world", "k", "j", "due", "value"] ["trees", "worlds"] (defScope sLEqual) := ⟨rfl, rfl, rfl, by decide +kernel, rfl, by decide +kernel, by decide +kernel⟩
theorem rds_leqv (rs qs : List Tm.Road) : PyData.eqv (.list (rs.map rd)) (.list (qs.map rd)) = decide (rs = qs) := rds_eqv rs qs
theorem w_eqv {n m : Nat} {rs qs : List Tm.Road} : PyData.eqv (.list [.int n, .list (rs.map rd)]) (.list [.int m, .list (qs.map rd)]) = decide ((n, rs) = (m, qs)) := by
  show ((decide ((n : Int) = m)) && (PyData.eqv (.list (rs.map rd)) (.list (qs.map rd)) && true)) = _
  rw [rds_leqv]
  by_cases h1 : n = m
  · by_cases h2 : rs = qs
    · simp [h1, h2]
    · simp [h1, h2]
  · have : ¬ (n : Int) = m := by omega
    simp [h1, this]
theorem w_shaped {n : Nat} (rs : List Tm.Road) : SeqAt.shaped (.list [.int n, .list (rs.map rd)]) = true := by
  have h := rds_lshaped rs
  have c := rds_lay rs
  unfold SeqAt.shaped at h ⊢
  rw [Bool.and_eq_true] at h ⊢
  refine ⟨?_, ?_⟩
  · show (true && ((PyData.list (rs.map rd)).canLay0 && true)) = true
    rw [c]
    rfl
  · have e : PyData.depthAll (rs.map rd) ≤ 1 := by
      clear h c
      induction rs with
      | nil => exact Nat.zero_le _
      | cons r rs ih =>
        simp only [List.map_cons, PyData.depthAll, PyData.depth, rd]
        omega
    apply decide_eq_true
    simp only [PyData.depth, PyData.depthAll]
    omega
theorem tup_del {H : Hp} {D : Addr} {zs : List V} (hD : H D = some (.lst zs)) {v : V} {ds : List PyData} (r : Rdd H v (.tuple ds)) (each : ∀ x d, d ∈ ds → Rdd H x d → Rdd (del H D) x d) : Rdd (del H D) v (.tuple ds) := by
  cases r with
  | @tup a xs _ h1 ra =>
    have na : a ≠ D := fun e => by rw [e, hD] at h1; cases h1
    refine .tup (by rw [del_ne na]; exact h1) (rdds_of (rdds_len ra) fun i x d hx hd => ?_)
    obtain ⟨y, hy, ry⟩ := rdds_get ra hd
    rw [hx] at hy
    cases hy
    exact each _ _ (List.mem_of_getElem? hd) ry
theorem TreeAt.del {K : PySem.W.Frag} {H : Hp} {D t : Addr} {zs : List V} {n : Nat} {rs : List Tm.Road} (hD : H D = some (.lst zs)) (T : TreeAt K H t n rs) : TreeAt K (del H D) t n rs := by
  obtain ⟨dx, rt, nt, h1, h2, h3⟩ := T.ex
  have i0 : ∀ x d (i : Int), d = .int i → Rdd H x d → Rdd (L2.del H D) x d := fun x d i e r => by
    subst e
    cases r
    exact .int _
  refine ⟨⟨dx, rt, nt, by rw [del_ne (fun e => by rw [e, hD] at h1; cases h1)]; exact h1, tup_del hD h2 fun x d hd r => ?_, tup_del hD h3 fun x d hd r => ?_⟩, T.ok, T.jo, T.le⟩
  · obtain ⟨⟨u, v⟩, _, rfl⟩ := List.mem_map.mp hd
    refine tup_del hD r fun y e he r2 => ?_
    simp only [List.mem_cons, List.not_mem_nil, or_false] at he
    rcases he with rfl | rfl
    · exact i0 _ _ _ rfl r2
    · exact i0 _ _ _ rfl r2
  · obtain ⟨h, _, rfl⟩ := List.mem_map.mp hd
    refine tup_del hD r fun y e he r2 => ?_
    obtain ⟨z, _, rfl⟩ := List.mem_map.mp he
    exact i0 _ _ _ rfl r2
/-- two trees and what they were made of -/
structure Two2 (K : PySem.W.Frag) (H : Hp) (tl wl : Addr) (t w r : Nat → Addr) (n : Nat → Nat) (rs : Nat → List Tm.Road) : Prop where
  tl : H tl = some (.lst [.ref (t 0), .ref (t 1)])
  wl : H wl = some (.lst [.ref (w 0), .ref (w 1)])
  w : ∀ i, i < 2 → H (w i) = some (.lst [.int (n i : Nat), .ref (r i)])
  r : ∀ i, i < 2 → Rdd H (.ref (r i)) (.list ((rs i).map rd))
  T : ∀ i, i < 2 → TreeAt K H (t i) (n i) (rs i)
theorem Two2.mono {K : PySem.W.Frag} {H H' : Hp} {tl wl : Addr} {t w r : Nat → Addr} {n : Nat → Nat} {rs : Nat → List Tm.Road} (W : Two2 K H tl wl t w r n rs) (k : Same H H') : Two2 K H' tl wl t w r n rs :=
  ⟨k _ _ W.tl, k _ _ W.wl, fun i hi => k _ _ (W.w i hi), fun i hi => (W.r i hi).mono k, fun i hi => (W.T i hi).mono k⟩
theorem two_at {a : Nat → Addr} {i : Nat} (h : i < 2) : atI [V.ref (a 0), V.ref (a 1)] (i : Int) = some (.ref (a i)) := by
  match i, h with
  | 0, _ => rfl
  | 1, _ => rfl
def spEqual (K : PySem.W.Frag) : Sp := fun vs H Q _ => ∃ tl wl t w r n rs, vs = [.ref tl, .ref wl] ∧ Two2 K H tl wl t w r n rs ∧ ∀ H', Same H H' → Q (.bl true) H'
/-- Tree(..) of right values -/
theorem made_ok {K : PySem.W.Frag} {H : Hp} {vh vr : V} {dr : PyData} {n : Nat} {rs : List Tm.Road} {E : XK} {W : Nat → List Tm.Road → Prop} (n1 : 1 ≤ n) (n2 : n ≤ 64) (ir : isRoads dr rs) (ok : Tm.RoadsOk n rs) (jo : Tm.Joined n rs) (k : W n rs) : Made K H vh vr (.int n) dr E W := by
  have one : ∀ {m : Nat}, PyData.int (n : Int) = .int m → m = n := fun e => by
    have := PyData.int.inj e
    omega
  refine ⟨fun no => absurd ⟨n, rfl, n1, n2⟩ no, fun m e h1 h2 no => ?_, fun m qs b hh e h1 h2 ir2 ok2 df hl hno _ => ?_, fun m qs e h1 h2 ir2 ok2 jo2 => ?_⟩
  · obtain rfl := one e
    exact absurd ⟨rs, ir, ok⟩ no
  · obtain rfl := one e
    obtain rfl := isRoads_one ir ir2
    obtain ⟨b2, df2, lb⟩ := jo
    obtain rfl := df.det df2
    have G := df.going .start
    have lt : ∀ h, ∀ x ∈ Tm.near rs h, x < m := fun h x hx => (Tm.near_lt ok.bnd hx).1
    exact absurd (Tm.all_keys G.g.nodup (G.g.bound h1 lt) (by simpa [Tm.keys] using lb) hh hl) hno
  · obtain rfl := one e
    obtain rfl := isRoads_one ir ir2
    exact k
section
variable {P : Program} {w : World} {K : PySem.W.Frag} {mg : Str → Option Value} {base : Heap} {f : Addr} {fd fdI : FuncData}
theorem ok_equal (F : Fd K "_law_equal_right" sLEqual f fd) (g : mg "_law_equal_right" = some (.ref f)) (B : Bl mg) (C : TreeK K mg) (FI : Md K "__init__" "Tree.__init__" sTInit (MT K "__init__") fdI)
    (oI : FnOk P w K mg base (L2N.CX P w) 3 (MT K "__init__") fdI ["self", "houses", "roads"] (spInit K)) (ME : OkM P w K mg base CX0 1 "__eq__" ["self", "other"] (spEq K)) : OkG P w K mg base 6 "_law_equal_right" sLEqual ["trees", "worlds"] (spEqual K) := by
  obtain ⟨fE, bE, oE⟩ := ME.ex
  refine ⟨f, fd, g, F, F.bindsN fun _ _ _ _ _ _ us hl => match us, hl with | [_, _], _ => rfl, F.okG scLEqual (fun vs H Q E h => ?_) (fun cdv A outer s H vs Q hgd hr h => ?_)⟩
  · obtain ⟨tl, wl, t, w, r, n, rs, rfl, _⟩ := h
    rfl
  · have hu : (cxOf CX0 P w K mg base ["trees", "worlds", "again", "world", "k", "j", "due", "value"] "_law_equal_right" (defScope sLEqual) f cdv A outer s H noE).A.units + 64 < cLine := by
      have z := hr.un
      show (A.deeper _).units + 64 < cLine
      omega
    refine ⟨_, (pss_cons (ps_setLc (i := 2) (own := [("world", 3)]) (g := gName 3) rfl scLEqual.nd rfl rfl (sw_true rfl rfl rfl (by decide +kernel)) (pi_list (pv 1)) (blkOk_by (N := ["trees", "worlds", "again", "world", "k", "j", "due", "value"]) (sc := defScope sLEqual) (by decide +kernel)) (fun _ _ _ _ _ => (pg_name (i := 3) scLEqual.nd rfl (Or.inl rfl))) (fun _ _ _ _ _ => pts_nil) (fun _ _ _ _ _ => (pe_makeS (E := fun _ => noE) C.mkT oI (hr.mono (by decide)) (by rfl) C.g (FI.kbn0 3 [] (pick [0, 1, 2]) (pick_rel [0, 1, 2]) fun _ _ _ _ _ _ us ws l1 l2 => match us, ws, l1, l2 with | [_, _, _], [], _, _ => rfl) (fun σ => pass_noneN σ) (pa_cons (pe_ix (r := rIx K) ix_seq (pv 3) pe_int fun _ _ => rfl) (pa_cons (pe_callTy (r := rTupOf K) (by exact call_tuple_of) (by rfl) (B.u "tuple" (by decide +kernel)) (by decide +kernel) (pa_cons (pe_ix (r := rIx K) ix_seq (pv 3) pe_int fun _ _ => rfl) pa_nil)) pa_nil)))))
      (pss_cons (ps_for (passes_of rfl) rfl (pi_range1 (by rfl) (B.u "range" (by decide +kernel)) (pa_cons pe_int pa_nil)) (pg_name (i := 4) scLEqual.nd rfl (Or.inl rfl))
        (pss_cons (ps_for (passes_of rfl) rfl (pi_range1 (by rfl) (B.u "range" (by decide +kernel)) (pa_cons pe_int pa_nil)) (pg_name (i := 5) scLEqual.nd rfl (Or.inl rfl))
          (pss_cons (ps_set (i := 6) scLEqual.nd rfl (Or.inl rfl) (pe_cmpR (op_eqD hu) (pe_ix ix_seq (pv 1) (pv 4) fun _ _ => rfl) (pe_ix ix_seq (pv 1) (pv 5) fun _ _ => rfl) (nomark _)))
          (pss_one (ps_if (pw_or (pt_cmpR op_ne (pe_cmpR (op_eqO oE bE pass0 (hr.mono (by decide)) C.eq C.eqf) (pe_ix ix_seq (pv 0) (pv 4) fun _ _ => rfl) (pe_ix ix_seq (pv 2) (pv 5) fun _ _ => rfl) (nomark _)) (pv 6) (nomark _)) (pw_or1 (pt_cmpR op_eq (pe_cmpR (op_neO oE bE pass0 (hr.mono (by decide)) C.eq C.eqf C.ne C.ob) (pe_ix ix_seq (pv 0) (pv 4) fun _ _ => rfl) (pe_ix ix_seq (pv 2) (pv 5) fun _ _ => rfl) (nomark _)) (pv 6) (nomark _)))).pt
            (pss_one (ps_ret pe_bl))
            pss_nil))))
        (pss_one (ps_for (passes_of rfl) rfl (pi_list (pe_lst (pa_cons pe_non (pa_cons pe_int (pa_cons (pe_ix ix_seq (pe_ix ix_seq (pv 1) (pv 4) fun _ _ => rfl) pe_int fun _ _ => rfl) (pa_cons (pe_ix ix_seq (pe_ix ix_seq (pv 1) (pv 4) fun _ _ => rfl) pe_int fun _ _ => rfl) (pa_cons pe_str (pa_cons (pe_tup (pa_cons (pe_ix ix_seq (pe_ix ix_seq (pv 1) (pv 4) fun _ _ => rfl) pe_int fun _ _ => rfl) (pa_cons (pe_callTy call_tuple_of (by rfl) (B.u "tuple" (by decide +kernel)) (by decide +kernel) (pa_cons (pe_ix ix_seq (pe_ix ix_seq (pv 1) (pv 4) fun _ _ => rfl) pe_int fun _ _ => rfl) pa_nil)) pa_nil))) pa_nil)))))))) (pg_name (i := 7) scLEqual.nd rfl (Or.inl rfl))
          (pss_one (ps_if (pw_or (pt_cmpR (op_eqO oE bE pass0 (hr.mono (by decide)) C.eq C.eqf) (pe_ix ix_seq (pv 0) (pv 4) fun _ _ => rfl) (pv 7) (nomark _)) (pw_or1 (pt_not (pt_cmpR (op_neO oE bE pass0 (hr.mono (by decide)) C.eq C.eqf C.ne C.ob) (pe_ix ix_seq (pv 0) (pv 4) fun _ _ => rfl) (pv 7) (nomark _))))).pt
            (pss_one (ps_ret pe_bl))
            pss_nil))))))
      (pss_one (ps_ret pe_bl)))), ?_⟩
    obtain ⟨tl, wl, t, w, r, n, rs, rfl, W, q⟩ := h
    refine ⟨_, rfl, wl, rfl, ⟨_, SqL.of W.wl⟩, fun D hD => ?_⟩
    refine lc_genL walk_list (fun _ => true) (fun i y H' => ∃ a, y = .ref a ∧ TreeAt K H' a (n i) (rs i)) (fun i y _ _ k ⟨a, e, T⟩ => ⟨a, e, T.mono k⟩) hD (by show 2 ≤ _; decide) (fun H' k => SqL.of (del_sub k _ _ W.wl)) ?_ ?_
    · rintro i x H1 H2 K1 N1 hi k1 ⟨zs, hzs⟩ ⟨rfl, hx⟩ hK _
      have hi : i < 2 := hi
      have ex : x = .ref (w i) := by
        match i, hi with
        | 0, _ => exact (Option.some.inj hx).symm
        | 1, _ => exact (Option.some.inj hx).symm
      subst ex
      have kx := del_sub k1
      have W1 := W.mono kx
      obtain ⟨xs, hxs, hix⟩ : ∃ xs, H2 (r i) = some (.lst xs) ∧ RddAll H2 xs ((rs i).map rd) := by
        cases W1.r i hi with
        | lst h1 ra => exact ⟨_, h1, ra⟩
      have lx := rdds_len hix
      rw [List.length_map] at lx
      have T0 := W1.T i hi
      have l0 := T0.ok.len
      refine ⟨rfl, _, rfl, ixAt (v := .int (n i : Nat)) (W1.w i hi) rfl ⟨_, rfl, ixAt (v := .ref (r i)) (W1.w i hi) rfl ⟨r i, xs, rfl, .inl ⟨SqL.of hxs, fun tp htp => ?_⟩⟩⟩⟩
      have ku := upd_grow (o := .tup xs) htp
      refine ⟨rfl, rfl, fun a dx ha hdx ne => ?_⟩
      have ha2 : upd (upd H2 tp (.tup xs)) dx (.own a) a = none := by rw [upd_ne ne.symm]; exact ha
      have km := (upd_grow (o := .own a) hdx).trans (upd_grow (o := .ins (CT K) dx []) ha2)
      have kk := ku.trans km
      have tm : Tame (.tuple ((rs i).map rd)) := (nc_tup (k := 1) (m := 300) (l := 64) (fun d hd => rd_nc T0.ok T0.le hd) (by rw [List.length_map]; have := T0.le; omega)).tame (by decide) (by decide)
      refine ⟨a, dx, .int (n i : Nat), .ref tp, .int (n i : Nat), .tuple ((rs i).map rd), rfl, upd_same, .int _, .tup (km _ _ upd_same) (hix.mono kk), tm, made_ok (by omega) T0.le (.inr rfl) T0.ok T0.jo fun H3 k3 T3 => ⟨rfl, ?_⟩⟩
      have k23 : Same H2 H3 := fun b u e => by
        have z := ku _ _ e
        exact k3 b u (ne_of_none z ha) (kk _ _ e)
      exact hK rfl _ _ k23 ⟨a, rfl, T3.del (k23 _ _ hzs)⟩
    · intro ys H1 k1 h1 l1 r1
      rw [filt_all] at l1 r1
      have l1 : ys.length = 2 := l1
      have kx := del_sub k1
      have W1 := W.mono kx
      obtain ⟨a, ea⟩ : ∃ a : Nat → Addr, ∀ i, i < 2 → ys[i]? = some (.ref (a i)) ∧ TreeAt K H1 (a i) (n i) (rs i) := by
        have each : ∀ i, i < 2 → ∃ a, ys[i]? = some (.ref a) ∧ TreeAt K H1 a (n i) (rs i) := fun i hi => by
          have li : i < ys.length := by omega
          obtain ⟨a, e, T⟩ := r1 i i ys[i] (by
            show (List.range 2)[i]? = some i
            rw [List.getElem?_eq_getElem (by rw [List.length_range]; exact hi)]; simp) (List.getElem?_eq_getElem li)
          exact ⟨a, by rw [List.getElem?_eq_getElem li, e], T.mono del_le⟩
        obtain ⟨a0, e0, T0⟩ := each 0 (by decide)
        obtain ⟨a1, e1, T1⟩ := each 1 (by decide)
        refine ⟨fun i => if i = 0 then a0 else a1, fun i hi => ?_⟩
        match i, hi with
        | 0, _ => exact ⟨e0, T0⟩
        | 1, _ => exact ⟨e1, T1⟩
      dsimp only [gName]
      refine tSeq_by (fun σ H' => Same H H') (fun σ H' k' => q _ k') fun rest => ?_
      refine ⟨_, rfl, by decide, by decide, ?_⟩
      refine for_it (walk_range (lo := 0) (n := 2)) (fun i σ H' => Same H1 H' ∧ ∃ x1 x2 x3 x4 : Option V, σ = [some (.ref tl), some (.ref wl), some (.ref D), none, x1, x2, x3, x4]) ⟨Same.refl _, none, none, none, none, rfl⟩ (fun _ _ _ _ _ => True.intro) ?_ ?_
      · rintro k x σ H2 H3 hk ⟨k2, x1, x2, x3, x4, rfl⟩ ⟨rfl, rfl⟩
        have hk : k < 2 := hk
        have ek : (0 : Int) + k = (k : Nat) := by omega
        dsimp only [gName]
        rw [show V.int ((0 : Int) + k) = V.int ((k : Nat) : Int) from congrArg V.int ek]
        refine tSeq_by (fun σ H' => Same H1 H' ∧ ∃ x1 x2 x3 : Option V, σ = [some (.ref tl), some (.ref wl), some (.ref D), none, some (.int k), x1, x2, x3]) ?_ fun rest2 => ?_
        · rintro σ H4 ⟨k4, x1, x2, x3, rfl⟩
          have W4 := W1.mono k4
          obtain ⟨xs, hxs, hix⟩ : ∃ xs, H4 (r k) = some (.lst xs) ∧ RddAll H4 xs ((rs k).map rd) := by
            cases W4.r k hk with
            | lst h1 ra => exact ⟨_, h1, ra⟩
          refine ⟨_, rfl, _, rfl, ixAt W4.wl (two_at hk) (ixAt (v := .ref (r k)) (W4.w k hk) rfl ⟨_, rfl, _, rfl, ixAt W4.wl (two_at hk) (ixAt (v := .int (n k : Nat)) (W4.w k hk) rfl ⟨_, rfl, _, rfl, ixAt W4.wl (two_at hk) (ixAt (v := .int (n k : Nat)) (W4.w k hk) rfl
            ⟨_, rfl, _, rfl, ixAt W4.wl (two_at hk) (ixAt (v := .ref (r k)) (W4.w k hk) rfl ⟨r k, xs, rfl, .inl ⟨SqL.of hxs, fun pt hpt => ⟨two_ln (by show 2 ≤ _; decide), fun pz hpz => ⟨two_ln (by show 6 ≤ _; decide), fun pv hpv => ?_⟩⟩⟩⟩)⟩)⟩)⟩)⟩
          have ka := upd_grow (o := .tup xs) hpt
          have kb := upd_grow (o := .tup [.int (n k : Nat), .ref pt]) hpz
          have kc := upd_grow (o := .lst [.non, .int 3, .ref (r k), .int (n k : Nat), .str "x", .ref pz]) hpv
          have kk := ka.trans (kb.trans kc)
          have hv := upd_same (H := upd (upd H4 pt (.tup xs)) pz (.tup [.int (n k : Nat), .ref pt])) (a := pv) (o := .lst [.non, .int 3, .ref (r k), .int (n k : Nat), .str "x", .ref pz])
          have each : ∀ x ∈ [V.non, .int 3, .ref (r k), .int (n k : Nat), .str "x", .ref pz], ∃ d, Rdd (upd (upd (upd H4 pt (.tup xs)) pz (.tup [.int (n k : Nat), .ref pt])) pv (.lst [.non, .int 3, .ref (r k), .int (n k : Nat), .str "x", .ref pz])) x d := fun x hx => by
            simp only [List.mem_cons, List.not_mem_nil, or_false] at hx
            rcases hx with rfl | rfl | rfl | rfl | rfl | rfl
            · exact ⟨_, .non⟩
            · exact ⟨_, .int _⟩
            · exact ⟨_, (W4.r k hk).mono kk⟩
            · exact ⟨_, .int _⟩
            · exact ⟨_, .str _⟩
            · exact ⟨_, .tup (kc _ _ upd_same) (.cons (.int _) (.cons (.tup (kc _ _ (kb _ _ upd_same)) (hix.mono kk)) .nil))⟩
          refine ⟨pv, rfl, ⟨_, SqL.of hv⟩, ?_⟩
          generalize upd (upd (upd H4 pt (.tup xs)) pz (.tup [.int (n k : Nat), .ref pt])) pv (.lst [.non, .int 3, .ref (r k), .int (n k : Nat), .str "x", .ref pz]) = H5 at kk hv each
          have k5 := k4.trans kk
          have W5 := W4.mono kk
          refine for_it walk_list (fun i σ H' => Same H5 H' ∧ ∃ x1 x2 x3 : Option V, σ = [some (.ref tl), some (.ref wl), some (.ref D), none, some (.int k), x1, x2, x3]) ⟨Same.refl _, x1, x2, x3, rfl⟩ (fun i σ H' _ h => SqL.of (h.1 _ _ hv)) ?_ ?_
          · rintro i x σ H0 H6 hi ⟨k6, y1, y2, y3, rfl⟩ ⟨rfl, hx⟩
            obtain ⟨d, rx⟩ := each x (List.mem_of_getElem? hx)
            have W6 := W5.mono k6
            obtain ⟨dk, rtk, ntk, gk, _, _⟩ := (W6.T k hk).ex
            have nf := (C.no _ (tyd_mem d)).2
            have rx6 := rx.mono k6
            refine ⟨_, rfl, _, rfl, ixAt W6.tl (two_at hk) ⟨_, rfl, t k, dk, _, rfl, gk, .inl ⟨_, rx6.tx, nf⟩, t k, n k, rs k, x, none, rfl, W6.T k hk, ⟨d, rx6⟩, _, rfl, _, rfl, iteB (fun z => by simp at z) fun _ => ?_⟩⟩
            exact ⟨_, rfl, _, rfl, ixAt W6.tl (two_at hk) ⟨_, rfl, t k, dk, _, rfl, gk, .inl ⟨_, rx6.tx, nf⟩, t k, n k, rs k, x, none, rfl, W6.T k hk, ⟨d, rx6⟩, _, rfl, _, rfl, iteB (fun z => by simp at z) fun _ => ⟨k6, _, _, _, rfl⟩⟩⟩
          · rintro σ H6 ⟨k6, y1, y2, y3, rfl⟩
            exact ⟨k5.trans k6, _, _, _, _, rfl⟩
        · refine ⟨_, rfl, by decide, by decide, ?_⟩
          refine for_it (walk_range (lo := 0) (n := 2)) (fun i σ H' => Same H1 H' ∧ ∃ x1 x2 x3 : Option V, σ = [some (.ref tl), some (.ref wl), some (.ref D), none, some (.int k), x1, x2, x3]) ⟨k2, x2, x3, x4, rfl⟩ (fun _ _ _ _ _ => True.intro) ?_ fun σ H' h => rest2 σ H' h
          rintro j x σ H0 H4 hj ⟨k4, x1, x2, x3, rfl⟩ ⟨rfl, rfl⟩
          have hj : j < 2 := hj
          have ej : (0 : Int) + j = (j : Nat) := by omega
          have W4 := W1.mono k4
          have T4 := (ea j hj).2.mono k4
          have h14 := k4 _ _ h1
          obtain ⟨dk, rtk, ntk, gk, _, _⟩ := (W4.T k hk).ex
          obtain ⟨dj, rtj, ntj, gj, _, _⟩ := T4.ex
          dsimp only [gName]
          rw [show V.int ((0 : Int) + j) = V.int ((j : Nat) : Int) from congrArg V.int ej]
          have wd : ∀ i, i < 2 → Rdd H4 (.ref (w i)) (.list [.int (n i : Nat), .list ((rs i).map rd)]) := fun i hi => .lst (W4.w i hi) (.cons (.int _) (.cons (W4.r i hi) .nil))
          have wc : ∀ i, (PyData.list [.int (n i : Nat), .list ((rs i).map rd)]).canLay0 = true := fun i => SeqAt.canLay_of_shaped (w_shaped _)
          have dd : decide (some (n j, rs j) = some (n k, rs k)) = decide ((n k, rs k) = (n j, rs j)) := by
            apply decide_eq_decide.mpr
            rw [Option.some.injEq]
            exact eq_comm
          refine ⟨_, rfl, _, rfl, ixAt W4.wl (two_at hk) ⟨_, rfl, _, rfl, ixAt W4.wl (two_at hj) ⟨_, _, (wd k hk).dp (wc k), (wd j hj).dp (wc j), w_shaped _, w_shaped _, ?_⟩⟩⟩
          rw [w_eqv]
          have aj : atI ys (j : Int) = some (.ref (a j)) := atI_nat (ea j hj).1
          refine ⟨_, rfl, _, rfl, ixAt W4.tl (two_at hk) ⟨_, rfl, _, rfl, ixAt h14 aj ⟨t k, dk, _, rfl, gk, .inr ⟨a j, dj, _, rfl, gj⟩, t k, n k, rs k, .ref (a j), some (n j, rs j), rfl, W4.T k hk, ⟨a j, rfl, T4⟩, _, rfl, ?_⟩⟩⟩
          rw [dd]
          refine ⟨_, rfl, rfl, _, rfl, iteB (fun z => by simp at z) fun _ => ?_⟩
          refine ⟨_, rfl, _, rfl, ixAt W4.tl (two_at hk) ⟨_, rfl, _, rfl, ixAt h14 aj ⟨t k, dk, _, rfl, gk, .inr ⟨a j, dj, _, rfl, gj⟩, t k, n k, rs k, .ref (a j), some (n j, rs j), rfl, W4.T k hk, ⟨a j, rfl, T4⟩, _, rfl, ?_⟩⟩⟩
          rw [dd]
          refine ⟨_, rfl, rfl, _, rfl, iteB (fun z => ?_) fun _ => ⟨k4, _, _, _, rfl⟩⟩
          have := of_decide_eq_true z
          have := V.bl.inj this
          cases hq : decide ((n k, rs k) = (n j, rs j)) <;> rw [hq] at this <;> cases this
      · rintro σ H2 ⟨k2, x1, x2, x3, x4, rfl⟩
        exact rest [] _ (kx.trans k2)
end
end K02

namespace L2
open PySem PySem.Spec PyProof.Rows
theorem lc_genBL {J : It} {n : Nat} {G : Hp → Prop} {Y : Nat → Hp → V → Hp → Prop} (w : Walk J n G Y) {g : TG} {tt : TT} {te : TE} {vs : List Nat} {σ : St} {H : Hp} {p D : Addr} {o : HO} {Qd : Hp → Prop} (S : Nat → Hp → Prop) (R : Nat → V → Hp → Prop)
    (Rm : ∀ i y H1 H2, Same H1 H2 → R i y H1 → R i y H2) (Sm : ∀ i H1 H2, H1 p = H2 p → S i H1 → S i H2) (hp : H p = some o) (s0 : S 0 H) (hD : H D = none) (hn : n ≤ 16777215) (hG : ∀ H', Same (del H p) (del (del H' D) p) → G H')
    (he : ∀ i x H1 H2 (K : V → Hp → Prop) (N : Hp → Prop), i < n → Same (del H p) (del (del H1 D) p) → (∃ zs, H1 D = some (.lst zs)) → S i H1 → Y i H1 x H2 → (∀ y H4, But p H1 H4 → S (i + 1) H4 → R i y (del (del H4 D) p) → K y H4) →
      g x (wipe σ vs) H2 fun σ2 H2' => wipe σ2 vs = wipe σ vs ∧ tt σ2 H2' fun b H3 => if b = true then te σ2 H3 K else N H3)
    (q : ∀ (ys : List V) (H' : Hp), Same (del H p) (del (del H' D) p) → S n H' → H' D = some (.lst ys) → ys.length = n → (∀ (i : Nat) (y : V), ys[i]? = some y → R i y (del (del H' D) p)) → Qd H') :
    ∃ W : Nat → Nat → Hp → Prop, (∃ m, W 0 m (upd H D (.lst []))) ∧ ∀ i m H, W i m H →
      (J.stop i H ∧ Qd H) ∨ (J.go i H ∧ ∃ Nx : Hp → Prop, (∀ H', Nx H' → ∃ m', m' < m ∧ W (i + 1) m' H') ∧ ∀ x H', J.yld i H x H' → g x (wipe σ vs) H' fun σ2 H2 => wipe σ2 vs = wipe σ vs ∧ tt σ2 H2 fun b H3 =>
        if b = true then te σ2 H3 fun y H4 => ∃ acc, H4 D = some (.lst acc) ∧ acc.length < sizeLine ∧ Nx (upd H4 D (.lst (acc ++ [y]))) else Nx H3) := by
  have nD : p ≠ D := ne_of_none hp hD
  have dd : ∀ {H4 : Hp} {ys : List V}, del (upd H4 D (.lst ys)) D = del H4 D := fun {H4 ys} => by
    funext b
    by_cases nb : b = D
    · rw [nb, del_same, del_same]
    · rw [del_ne nb, del_ne nb, upd_ne nb]
  have bb : ∀ {H1 H4 : Hp}, But p H1 H4 → Same (del (del H1 D) p) (del (del H4 D) p) := fun k b o e => by
    by_cases nb : b = p
    · rw [nb, del_same] at e; cases e
    · rw [del_ne nb] at e ⊢
      by_cases nd : b = D
      · rw [nd, del_same] at e; cases e
      · rw [del_ne nd] at e ⊢
        exact k b o nb e
  refine lc_it w (fun i H' => Same (del H p) (del (del H' D) p) ∧ S i H' ∧ ∃ ys, H' D = some (.lst ys) ∧ ys.length = i ∧ ∀ (j : Nat) (y : V), ys[j]? = some y → R j y (del (del H' D) p)) ?_ (fun i H' _ h => hG H' h.1) ?_ ?_
  · refine ⟨fun b o e => ?_, Sm 0 H _ (by rw [upd_ne nD]) s0, [], upd_same, rfl, fun j y h => by simp at h⟩
    by_cases nb : b = p
    · rw [nb, del_same] at e; cases e
    · rw [del_ne nb] at e ⊢
      rw [del_ne (ne_of_none e hD), upd_ne (ne_of_none e hD)]
      exact e
  · rintro i x H1 H2 hi ⟨k1, s1, ys, h1, l1, r1⟩ hy
    refine he i x H1 H2 _ _ hi k1 ⟨_, h1⟩ s1 hy (fun y H4 k4 s4 r4 => ?_)
    have h4 := k4 D _ nD.symm h1
    refine ⟨ys, h4, by rw [l1]; exact lt_ln (by omega), ?_, Sm _ H4 _ (by rw [upd_ne nD]) s4, _, upd_same, by rw [List.length_append, l1]; rfl, ?_⟩
    · rw [dd]
      exact k1.trans (bb k4)
    · intro j y2 hy2
      rw [dd]
      by_cases c : j < ys.length
      · rw [List.getElem?_append_left c] at hy2
        exact Rm _ _ _ _ (bb k4) (r1 j y2 hy2)
      · have lt := (List.getElem?_eq_some_iff.mp hy2).1
        rw [List.length_append] at lt
        have ek : j = ys.length := by
          have : ([y] : List V).length = 1 := rfl
          omega
        subst ek
        rw [List.getElem?_append_right (Nat.le_refl _), Nat.sub_self] at hy2
        obtain rfl : y = y2 := by simpa using hy2
        rw [l1]
        exact r4
  · rintro H1 ⟨k1, s1, ys, h1, l1, r1⟩
    exact q ys H1 k1 s1 h1 l1 r1

end L2
namespace K02
open PySem PySem.Spec PyProof.Rows L2
abbrev sLCellR : Stmt := top 49
theorem scLCellR : FnScope ["box", "by_name", "sizes", "k", "worlds", "houses", "nears", "world", "trees", "handed", "turn"] ["box"] (defScope sLCellR) := ⟨rfl, rfl, rfl, by decide +kernel, rfl, by decide +kernel, by decide +kernel⟩
abbrev sLaw : Stmt := top 50
theorem scLaw : FnScope ["script", "k"] ["script"] (defScope sLaw) := ⟨rfl, rfl, rfl, by decide +kernel, rfl, by decide +kernel, by decide +kernel⟩
theorem rds_del {H : Hp} {D r : Addr} {zs : List V} {rs : List Tm.Road} (hD : H D = some (.lst zs)) (rr : Rdd H (.ref r) (.list (rs.map rd))) (ne : r ≠ D) : Rdd (del H D) (.ref r) (.list (rs.map rd)) := by
  cases rr with
  | @lst a xs _ h1 ra =>
    refine .lst (by rw [del_ne ne]; exact h1) (rdds_of (rdds_len ra) fun i x d hx hd => ?_)
    obtain ⟨y, hy, ry⟩ := rdds_get ra hd
    rw [hx] at hy
    cases hy
    obtain ⟨⟨u, v⟩, _, rfl⟩ := List.mem_map.mp (List.mem_of_getElem? hd)
    refine tup_del hD ry fun y e he r2 => ?_
    simp only [List.mem_cons, List.not_mem_nil, or_false] at he
    rcases he with rfl | rfl <;> (cases r2; exact .int _)
def spCellR : Sp := fun vs H Q _ => ∃ p : Addr, vs = [.ref p] ∧ BoxAt H p 0 ∧ ∀ H', But p H H' → Q (.bl true) H'
section
variable {P : Program} {w : World} {K : PySem.W.Frag} {mg : Str → Option Value} {base : Heap} {f : Addr} {fd fdI : FuncData}
theorem ok_cellr (F : Fd K "_law_cell_right" sLCellR f fd) (g : mg "_law_cell_right" = some (.ref f)) (B : Bl mg) (C : TreeK K mg) (Tk : KitK K) (FI : Md K "__init__" "Tree.__init__" sTInit (MT K "__init__") fdI)
    (oI : FnOk P w K mg base (L2N.CX P w) 3 (MT K "__init__") fdI ["self", "houses", "roads"] (spInit K)) (o_law_take : Ok P w K mg base CX0 1 "_law_take" sTake ["box", "many"] spDraw1)
    (o_law_roads : Ok P w K mg base CX0 2 "_law_roads" sRoads ["box", "houses"] spRoads) (o_law_near : Ok P w K mg base CX0 1 "_law_near" sLNear ["houses", "roads"] spLNear)
    (o_law_question_right : OkG P w K mg base 7 "_law_question_right" sLQuest ["box", "tree", "near", "roads"] (spQuest K)) (o_law_refusals_right : OkG P w K mg base 7 "_law_refusals_right" sLRefus ["box", "houses", "roads"] (spRefus K))
    (o_law_plain_right : OkG P w K mg base 4 "_law_plain_right" sLPlain ["box", "tree", "houses", "roads"] (spPlain K)) (o_law_equal_right : OkG P w K mg base 6 "_law_equal_right" sLEqual ["trees", "worlds"] (spEqual K)) :
    OkG P w K mg base 8 "_law_cell_right" sLCellR ["box"] spCellR := by
  refine ⟨f, fd, g, F, F.bindsN fun _ _ _ _ _ _ us hl => match us, hl with | [_], _ => rfl, F.okG scLCellR (fun vs H Q E h => ?_) (fun cdv A outer s H vs Q hgd hr h => ?_)⟩
  · obtain ⟨p, rfl, _⟩ := h
    rfl
  · refine ⟨_, (pss_cons (ps_set (i := 1) scLCellR.nd rfl (Or.inl rfl) (pe_cmpR op_eq (pe_o o_law_take (hr.mono (by decide)) (by rfl) (pa_cons (pv 0) (pa_cons pe_int pa_nil))) pe_int (nomark _)))
      (pss_cons (ps_setLc (i := 2) (own := [("k", 3)]) (g := gName 3) rfl scLCellR.nd rfl rfl (sw_true rfl rfl rfl (by decide +kernel)) (pi_range1 (by rfl) (B.u "range" (by decide +kernel)) (pa_cons pe_int pa_nil)) (blkOk_by (N := ["box", "by_name", "sizes", "k", "worlds", "houses", "nears", "world", "trees", "handed", "turn"]) (sc := defScope sLCellR) (by decide +kernel)) (fun _ _ _ _ _ => (pg_name (i := 3) scLCellR.nd rfl (Or.inl rfl))) (fun _ _ _ _ _ => pts_nil) (fun _ _ _ _ _ => (pe_ix (r := rIx K) ix_seq (pe_lst (pa_cons pe_int (pa_cons pe_int (pa_cons (pe_op op_add pe_int (pe_o o_law_take (hr.mono (by decide)) (by rfl) (pa_cons (pv 0) (pa_cons pe_int pa_nil)))) (pa_cons (pe_op op_add pe_int (pe_o o_law_take (hr.mono (by decide)) (by rfl) (pa_cons (pv 0) (pa_cons pe_int pa_nil)))) (pa_cons pe_int pa_nil)))))) (pe_o o_law_take (hr.mono (by decide)) (by rfl) (pa_cons (pv 0) (pa_cons pe_int pa_nil))) fun _ _ => rfl)))
      (pss_cons (ps_setLc (i := 4) (own := [("houses", 5)]) (g := gName 5) rfl scLCellR.nd rfl rfl (sw_true rfl rfl rfl (by decide +kernel)) (pi_list (pv 2)) (blkOk_by (N := ["box", "by_name", "sizes", "k", "worlds", "houses", "nears", "world", "trees", "handed", "turn"]) (sc := defScope sLCellR) (by decide +kernel)) (fun _ _ _ _ _ => (pg_name (i := 5) scLCellR.nd rfl (Or.inl rfl))) (fun _ _ _ _ _ => pts_nil) (fun _ _ _ _ _ => (pe_lst (pa_cons (pv 5) (pa_cons (pe_o o_law_roads (hr.mono (by decide)) (by rfl) (pa_cons (pv 0) (pa_cons (pv 5) pa_nil))) pa_nil)))))
      (pss_cons (ps_setLc (i := 6) (own := [("world", 7)]) (g := gName 7) rfl scLCellR.nd rfl rfl (sw_true rfl rfl rfl (by decide +kernel)) (pi_list (pv 4)) (blkOk_by (N := ["box", "by_name", "sizes", "k", "worlds", "houses", "nears", "world", "trees", "handed", "turn"]) (sc := defScope sLCellR) (by decide +kernel)) (fun _ _ _ _ _ => (pg_name (i := 7) scLCellR.nd rfl (Or.inl rfl))) (fun _ _ _ _ _ => pts_nil) (fun _ _ _ _ _ => (pe_o o_law_near (hr.mono (by decide)) (by rfl) (pa_cons (pe_ix (r := rIx K) ix_seq (pv 7) pe_int fun _ _ => rfl) (pa_cons (pe_ix (r := rIx K) ix_seq (pv 7) pe_int fun _ _ => rfl) pa_nil)))))
      (pss_cons (ps_set (i := 8) scLCellR.nd rfl (Or.inl rfl) (pe_lst pa_nil))
      (pss_cons (ps_for (passes_of rfl) rfl (pi_list (pv 4)) (pg_name (i := 7) scLCellR.nd rfl (Or.inl rfl))
        (pss_cons (ps_set (i := 9) scLCellR.nd rfl (Or.inl rfl) (pe_ifExp (pt_val (pv 1)) (pe_callTy call_list_of (by rfl) (B.u "list" (by decide +kernel)) (by decide +kernel) (pa_cons (pe_ix ix_seq (pv 7) pe_int fun _ _ => rfl) pa_nil)) (pe_callTy call_tuple_of (by rfl) (B.u "tuple" (by decide +kernel)) (by decide +kernel) (pa_cons (pe_ix ix_seq (pv 7) pe_int fun _ _ => rfl) pa_nil))))
        (pss_cons (ps_expr (pe_bm PySem.F.plainAttrs_list PySem.F.slot_list_append PySem.F.type_list_append mt_append (pv 8) (pa_cons (pe_ifExp (pt_val (pv 1)) (pe_makeSK (E := fun _ => noE) C.mkT oI (hr.mono (by decide)) (by rfl) C.g (FI.kbn0 1 ["houses", "roads"] (pick [0, 1, 2]) (pick_rel [0, 1, 2]) fun _ _ _ _ _ _ us ws l1 l2 => match us, ws, l1, l2 with | [_], [_, _], _, _ => rfl) (fun σ => pass_noneN σ) (pk_cons (pe_ix ix_seq (pv 7) pe_int fun _ _ => rfl) (pk_cons (pv 9) pk_nil))) (pe_makeS (E := fun _ => noE) C.mkT oI (hr.mono (by decide)) (by rfl) C.g (FI.kbn0 3 [] (pick [0, 1, 2]) (pick_rel [0, 1, 2]) fun _ _ _ _ _ _ us ws l1 l2 => match us, ws, l1, l2 with | [_, _, _], [], _, _ => rfl) (fun σ => pass_noneN σ) (pa_cons (pe_ix ix_seq (pv 7) pe_int fun _ _ => rfl) (pa_cons (pv 9) pa_nil)))) pa_nil)))
        (pss_one (ps_if (pt_val (pe_callB call_isi (by rfl) (B.u "isinstance" (by decide +kernel)) boot_isinstance (pa_cons (pv 9) (pa_cons (pe_bltn (by rfl) (B.u "list" (by decide +kernel)) (by decide +kernel) (v := .ty "list") rfl) pa_nil))))
          (pss_cons (ps_expr (pe_bm PySem.F.plainAttrs_list PySem.F.slot_list_append PySem.F.type_list_append mt_append (pv 9) (pa_cons (pe_tup (pa_cons pe_int (pa_cons pe_int pa_nil))) pa_nil)))
          (pss_one (ps_asg pe_non (pg_sub (pv 9) pe_int set_list fun _ => rfl))))
          pss_nil)))))
      (pss_cons (ps_for (passes_of rfl) rfl (pi_range1 (by rfl) (B.u "range" (by decide +kernel)) (pa_cons pe_int pa_nil)) (pg_name (i := 10) scLCellR.nd rfl (Or.inl rfl))
        (pss_cons (ps_set (i := 3) scLCellR.nd rfl (Or.inl rfl) (pe_op op_mod (pe_callTy call_int1 (by rfl) (B.u "int" (by decide +kernel)) (by decide +kernel) (pa_cons (pv 10) pa_nil)) pe_int))
        (pss_one (ps_if (pt_not (pt_val (pe_oG o_law_question_right hgd (hr.mono (by decide)) (by rfl) (pa_cons (pv 0) (pa_cons (pe_ix ix_seq (pv 8) (pv 3) fun _ _ => rfl) (pa_cons (pe_ix ix_seq (pv 6) (pv 3) fun _ _ => rfl) (pa_cons (pe_ix ix_seq (pe_ix ix_seq (pv 4) (pv 3) fun _ _ => rfl) pe_int fun _ _ => rfl) pa_nil)))))))
          (pss_one (ps_ret pe_bl))
          pss_nil))))
      (pss_cons (ps_for (passes_of rfl) rfl (pi_range1 (by rfl) (B.u "range" (by decide +kernel)) (pa_cons pe_int pa_nil)) (pg_name (i := 3) scLCellR.nd rfl (Or.inl rfl))
        (pss_cons (ps_if (pt_not (pt_val (pe_oG o_law_refusals_right hgd (hr.mono (by decide)) (by rfl) (pa_cons (pv 0) (pa_cons (pe_ix ix_seq (pe_ix ix_seq (pv 4) (pv 3) fun _ _ => rfl) pe_int fun _ _ => rfl) (pa_cons (pe_ix ix_seq (pe_ix ix_seq (pv 4) (pv 3) fun _ _ => rfl) pe_int fun _ _ => rfl) pa_nil))))))
          (pss_one (ps_ret pe_bl))
          pss_nil)
        (pss_one (ps_if (pt_not (pt_val (pe_oG o_law_plain_right hgd (hr.mono (by decide)) (by rfl) (pa_cons (pv 0) (pa_cons (pe_ix ix_seq (pv 8) (pv 3) fun _ _ => rfl) (pa_cons (pe_ix ix_seq (pe_ix ix_seq (pv 4) (pv 3) fun _ _ => rfl) pe_int fun _ _ => rfl) (pa_cons (pe_ix ix_seq (pe_ix ix_seq (pv 4) (pv 3) fun _ _ => rfl) pe_int fun _ _ => rfl) pa_nil)))))))
          (pss_one (ps_ret pe_bl))
          pss_nil))))
      (pss_one (ps_ret (pe_oG o_law_equal_right hgd (hr.mono (by decide)) (by rfl) (pa_cons (pv 8) (pa_cons (pv 4) pa_nil))))))))))))), ?_⟩
    obtain ⟨p, rfl, hp, q⟩ := h
    refine ⟨_, rfl, p, 2, 0, rfl, hp, by decide, by decide, by decide, fun bi H1 b0 b1 k1 hp1 e1 => ⟨rfl, ?_⟩⟩
    generalize decide (V.int bi = V.int 1) = bn
    dsimp only [gName, L2.start]
    obtain ⟨ob, hob⟩ := hp1.some
    refine tSeq_by (fun σ H' => ∃ (ps : Addr) (n : Nat → Nat), But p H H' ∧ BoxAt H' p 7 ∧ ps ≠ p ∧ H' ps = some (.lst [.int (n 0 : Nat), .int (n 1 : Nat)]) ∧ (∀ i, i < 2 → 1 ≤ n i ∧ n i ≤ 64) ∧ σ = [some (.ref p), some (.bl bn), some (.ref ps), none, none, none, none, none, none, none, none]) ?_ fun rest => ?_
    · rintro σ H2 ⟨ps, n, k2, hp2, nps, hps, hn, rfl⟩
      obtain ⟨ob2, hob2⟩ := hp2.some
      refine tSeq_by (fun σ H' => ∃ (wl : Addr) (w r : Nat → Addr) (rs : Nat → List Tm.Road), But p H H' ∧ BoxAt H' p 300 ∧ del H' p wl = some (.lst [.ref (w 0), .ref (w 1)]) ∧
          (∀ i, i < 2 → del H' p (w i) = some (.lst [.int (n i : Nat), .ref (r i)]) ∧ Rdd (del H' p) (.ref (r i)) (.list ((rs i).map rd)) ∧ Tm.RoadsOk (n i) (rs i) ∧ Tm.Joined (n i) (rs i)) ∧
          σ = [some (.ref p), some (.bl bn), some (.ref ps), none, some (.ref wl), none, none, none, none, none, none]) ?_ fun rest => ?_
      · rintro σ H3 ⟨wl, w, r, rs, k3, hp3, hwl, hw, rfl⟩
        refine tSeq_by (fun σ H' => ∃ (nl : Addr) (nt : Nat → Addr), Same H3 H' ∧ H' nl = some (.lst [.ref (nt 0), .ref (nt 1)]) ∧ (∀ i, i < 2 → Rdd (del H' p) (.ref (nt i)) (nearL (n i) (rs i))) ∧
          σ = [some (.ref p), some (.bl bn), some (.ref ps), none, some (.ref wl), none, some (.ref nl), none, none, none, none]) ?_ fun rest => ?_
        · rintro σ H4 ⟨nl, nt, k4, hnl, hnt, rfl⟩
          obtain ⟨ob3, hob3⟩ := hp3.some
          have nwlp : wl ≠ p := fun e => by rw [e, del_same] at hwl; cases hwl
          have w4 : ∀ i, i < 2 → H4 (w i) = some (.lst [.int (n i : Nat), .ref (r i)]) := fun i hi => k4 _ _ (del_le _ _ (hw i hi).1)
          have hwl4 : H4 wl = some (.lst [.ref (w 0), .ref (w 1)]) := k4 _ _ (del_le _ _ hwl)
          have r4 : ∀ i, i < 2 → Rdd (del H4 p) (.ref (r i)) (.list ((rs i).map rd)) := fun i hi => (hw i hi).2.1.mono (del_mono k4)
          have ok4 : ∀ i, i < 2 → Tm.RoadsOk (n i) (rs i) := fun i hi => (hw i hi).2.2.1
          have jo4 : ∀ i, i < 2 → Tm.Joined (n i) (rs i) := fun i hi => (hw i hi).2.2.2
          have hp4 := hp3.same k4
          refine ⟨two_ln (by decide), fun pt hpt => ?_⟩
          have kt := upd_grow (o := .lst []) hpt
          dsimp only [gName]
          refine tSeq_by (fun σ H' => ∃ (t : Nat → Addr) (a7 a9 : Option V), Same H4 H' ∧ H' pt = some (.lst [.ref (t 0), .ref (t 1)]) ∧ (∀ i, i < 2 → TreeAt K (del H' pt) (t i) (n i) (rs i)) ∧
            σ = [some (.ref p), some (.bl bn), some (.ref ps), none, some (.ref wl), none, some (.ref nl), a7, some (.ref pt), a9, none]) ?_ fun rest => ?_
          · rintro σ H5 ⟨t, a7, a9, k5, hpt5, hT, rfl⟩
            have hp5 := hp4.same k5
            obtain ⟨bx5, hbx5, _⟩ := id hp5
            have nptp : pt ≠ p := fun e => by rw [e, k5 _ _ (k4 _ _ hob3)] at hpt5; rw [e, k4 _ _ hob3] at hpt; cases hpt
            obtain ⟨b4, hb4, _⟩ := id hp4
            have nnl : nl ≠ p := fun e => by
              have z := hnt 0 (by decide)
              rw [e, hb4] at hnl
              obtain ⟨g0, bb, m0, k0, ebx, _⟩ := (show Box 300 b4 from by obtain ⟨b4', h', q'⟩ := hp4; rw [hb4] at h'; cases h'; exact q')
              rw [ebx] at hnl
              cases hnl
            have W5 : ∀ {H' : Hp} {c : Nat}, But p H5 H' → BoxAt H' p c → ∀ i, i < 2 → Wd K H' p (t i) (nt i) (r i) (n i) (rs i) c := fun {H' c} k b i hi =>
              ⟨(((hT i hi).mono del_le).del hbx5).mono (but_del k), (hnt i hi).mono ((del_mono k5).trans (but_del k)), (r4 i hi).mono ((del_mono k5).trans (but_del k)), b⟩
            have nwp : ∀ i, i < 2 → w i ≠ p := fun i hi e => by have z := (hw i hi).1; rw [e, del_same] at z; cases z
            have at_ : ∀ {H' : Hp}, But p H5 H' → H' pt = some (.lst [.ref (t 0), .ref (t 1)]) ∧ H' nl = some (.lst [.ref (nt 0), .ref (nt 1)]) ∧ H' wl = some (.lst [.ref (w 0), .ref (w 1)]) ∧ ∀ i, i < 2 → H' (w i) = some (.lst [.int (n i : Nat), .ref (r i)]) := fun {H'} k =>
              ⟨k _ _ nptp hpt5, k _ _ nnl (k5 _ _ hnl), k _ _ nwlp (k5 _ _ hwl4), fun i hi => k _ _ (nwp i hi) (k5 _ _ (w4 i hi))⟩
            have kH5 : But p H H5 := k3.trans (But.of (k4.trans k5))
            have cat : ∀ {m : Nat}, 0 ≤ m → BoxAt H5 p (300 + m) := fun _ => hp5.up (by omega)
            refine tSeq_by (fun σ H' => But p H5 H' ∧ BoxAt H' p 700 ∧ ∃ a3 a10 : Option V, σ = [some (.ref p), some (.bl bn), some (.ref ps), a3, some (.ref wl), none, some (.ref nl), a7, some (.ref pt), a9, a10]) ?_ fun rest => ?_
            · rintro σ H6 ⟨k6, hp6, a3, a10, rfl⟩
              refine tSeq_by (fun σ H' => But p H5 H' ∧ ∃ a3 a10 : Option V, σ = [some (.ref p), some (.bl bn), some (.ref ps), a3, some (.ref wl), none, some (.ref nl), a7, some (.ref pt), a9, a10]) ?_ fun rest => ?_
              · rintro σ H7 ⟨k7, a3, a10, rfl⟩
                obtain ⟨h1, h2, h3, h4⟩ := at_ k7
                refine ⟨_, rfl, _, rfl, pt, wl, t, w, r, n, rs, rfl, ⟨h1, h3, h4, fun i hi => ((r4 i hi).mono ((del_mono k5).trans (but_del k7))).mono del_le, fun i hi => ((((hT i hi).mono del_le).del hbx5).mono (but_del k7)).mono del_le⟩, fun H8 k8 => q _ (kH5.trans (k7.trans (But.of k8)))⟩
              · refine ⟨_, rfl, by decide, by decide, ?_⟩
                refine for_it (walk_range (lo := 0) (n := 2)) (fun i σ H' => But p H5 H' ∧ BoxAt H' p (700 + 25 * i) ∧ ∃ a3 a10 : Option V, σ = [some (.ref p), some (.bl bn), some (.ref ps), a3, some (.ref wl), none, some (.ref nl), a7, some (.ref pt), a9, a10]) ⟨k6, hp6, a3, a10, rfl⟩ (fun _ _ _ _ _ => True.intro) ?_ ?_
                · rintro i x σ H0 H7 hi ⟨k7, hp7, a3, a10, rfl⟩ ⟨rfl, rfl⟩
                  have hi : i < 2 := hi
                  have ei : (0 : Int) + i = (i : Nat) := by omega
                  obtain ⟨h1, h2, h3, h4⟩ := at_ k7
                  dsimp only [gName]
                  rw [show V.int ((0 : Int) + i) = V.int ((i : Nat) : Int) from congrArg V.int ei]
                  refine ⟨_, rfl, _, rfl, _, rfl, ixAt h3 (two_at hi) (ixAt (v := .int (n i : Nat)) (h4 i hi) rfl ⟨_, rfl, _, rfl, ixAt h3 (two_at hi) (ixAt (v := .ref (r i)) (h4 i hi) rfl ⟨p, t i, nt i, r i, n i, _, rs i, rfl, W5 k7 hp7 i hi, by omega, fun H8 k8 hp8 => ⟨_, rfl, iteF ?_⟩⟩)⟩)⟩
                  have k78 := k7.trans k8
                  obtain ⟨h1, h2, h3, h4⟩ := at_ k78
                  refine ⟨_, rfl, _, rfl, _, rfl, ixAt h1 (two_at hi) ⟨_, rfl, _, rfl, ixAt h3 (two_at hi) (ixAt (v := .int (n i : Nat)) (h4 i hi) rfl ⟨_, rfl, _, rfl, ixAt h3 (two_at hi) (ixAt (v := .ref (r i)) (h4 i hi) rfl ⟨p, t i, nt i, r i, n i, _, rs i, rfl, W5 k78 hp8 i hi, by omega, fun H9 k9 hp9 => ⟨_, rfl, iteF ?_⟩⟩)⟩)⟩⟩
                  exact ⟨k78.trans k9, hp9.up (by omega), _, _, rfl⟩
                · rintro σ H7 ⟨k7, hp7, a3, a10, rfl⟩
                  exact rest _ _ ⟨k7, a3, a10, rfl⟩
            · refine ⟨_, rfl, by decide, by decide, ?_⟩
              refine for_it (walk_range (lo := 0) (n := 16)) (fun i σ H' => But p H5 H' ∧ BoxAt H' p (300 + 25 * i) ∧ ∃ a3 a10 : Option V, σ = [some (.ref p), some (.bl bn), some (.ref ps), a3, some (.ref wl), none, some (.ref nl), a7, some (.ref pt), a9, a10]) ⟨but_refl, hp5, none, none, rfl⟩ (fun _ _ _ _ _ => True.intro) ?_ ?_
              · rintro i x σ H0 H7 hi ⟨k7, hp7, a3, a10, rfl⟩ ⟨rfl, rfl⟩
                have hi : i < 16 := hi
                obtain ⟨kk, hk, ek⟩ : ∃ k : Nat, k < 2 ∧ ((0 : Int) + i) % 2 = k := ⟨i % 2, by omega, by omega⟩
                obtain ⟨h1, h2, h3, h4⟩ := at_ k7
                refine ⟨_, rfl, .inl ⟨_, rfl, _, _, rfl, rfl, by show (0 : Int) < 2; decide, ?_⟩⟩
                dsimp only [gName]
                rw [show V.int (((0 : Int) + i) % 2) = V.int ((kk : Nat) : Int) from congrArg V.int ek]
                refine ⟨_, rfl, _, rfl, _, rfl, ixAt h1 (two_at hk) ⟨_, rfl, _, rfl, ixAt h2 (two_at hk) ⟨_, rfl, _, rfl, ixAt h3 (two_at hk) (ixAt (v := .ref (r kk)) (h4 kk hk) rfl ⟨p, t kk, nt kk, r kk, n kk, _, rs kk, rfl, W5 k7 hp7 kk hk, by omega, fun H8 k8 hp8 => ⟨_, rfl, iteF ⟨k7.trans k8, hp8.up (by omega), _, _, rfl⟩⟩⟩)⟩⟩⟩
              · rintro σ H7 ⟨k7, hp7, a3, a10, rfl⟩
                exact rest _ _ ⟨k7, hp7, a3, a10, rfl⟩
          · refine ⟨_, rfl, wl, rfl, ⟨_, SqL.of (kt _ _ hwl4)⟩, ?_⟩
            refine for_it walk_list (fun i σ H' => Same H4 H' ∧ ∃ (ts : List Addr) (a7 a9 : Option V), ts.length = i ∧ H' pt = some (.lst (ts.map V.ref)) ∧ (∀ j x, ts[j]? = some x → TreeAt K (del H' pt) x (n j) (rs j)) ∧
              σ = [some (.ref p), some (.bl bn), some (.ref ps), none, some (.ref wl), none, some (.ref nl), a7, some (.ref pt), a9, none]) ⟨kt, [], none, none, rfl, upd_same, (fun j x h => by simp at h), rfl⟩ (fun i σ H' _ h => SqL.of (h.1 _ _ hwl4)) ?_ ?_
            · rintro i x σ H0 H5 hi ⟨k5, ts, a7, a9, lts, hts, hT, rfl⟩ ⟨rfl, hx⟩
              have hi : i < 2 := hi
              have ex : x = .ref (w i) := by
                match i, hi with
                | 0, _ => exact (Option.some.inj hx).symm
                | 1, _ => exact (Option.some.inj hx).symm
              subst ex
              have w5 := k5 _ _ (w4 i hi)
              obtain ⟨xs, hxs, hix⟩ : ∃ xs, H5 (r i) = some (.lst xs) ∧ RddAll H5 xs ((rs i).map rd) := by
                cases ((r4 i hi).mono del_le).mono k5 with
                | lst h1 ra => exact ⟨_, h1, ra⟩
              have lx := rdds_len hix
              rw [List.length_map] at lx
              have l64 := (hn i hi).2
              have l0 := (ok4 i hi).len
              dsimp only [gName]
              refine tSeq_by (fun σ H' => ∃ xh dr, Same H5 H' ∧ isRoads dr (rs i) ∧ Rdd H' xh dr ∧ ((∃ b, xh = .ref b ∧ H5 b = none ∧ H' b = some (.lst xs)) ∨ (∃ tp, xh = .ref tp ∧ H' tp = some (.tup xs))) ∧
                σ = [some (.ref p), some (.bl bn), some (.ref ps), none, some (.ref wl), none, some (.ref nl), some (.ref (w i)), some (.ref pt), some xh, none]) ?_ fun rest2 => ?_
              · rintro σ H6 ⟨xh, dr, k6, ir, rx, hd, rfl⟩
                have hts6 := k6 _ _ hts
                refine tSeq_by (fun σ H' => ∃ xa : Addr, But pt H6 H' ∧ H' pt = some (.lst ((ts ++ [xa]).map V.ref)) ∧ TreeAt K (del H' pt) xa (n i) (rs i) ∧
                  σ = [some (.ref p), some (.bl bn), some (.ref ps), none, some (.ref wl), none, some (.ref nl), some (.ref (w i)), some (.ref pt), some xh, none]) ?_ fun rest3 => ?_
                · rintro σ H7 ⟨xa, k7, hts7, T7, rfl⟩
                  have k57 : But pt H5 H7 := fun b o nb e => k7 _ _ nb (k6 _ _ e)
                  have npt : ∀ {b o}, H4 b = some o → b ≠ pt := fun e => ne_of_none e hpt
                  have hT7 : ∀ j x, (ts ++ [xa])[j]? = some x → TreeAt K (del H7 pt) x (n j) (rs j) := fun j x e => by
                    by_cases c : j < ts.length
                    · rw [List.getElem?_append_left c] at e
                      exact (hT j x e).mono (but_del k57)
                    · rw [List.getElem?_append_right (by omega)] at e
                      have lt := (List.getElem?_eq_some_iff.mp e).1
                      have : ([xa] : List Addr).length = 1 := rfl
                      have ej : j = i := by omega
                      subst ej
                      rw [lts, Nat.sub_self] at e
                      have : xa = x := by simpa using e
                      subst this
                      exact T7
                  have k47 : Same H4 H7 := fun b o e => k57 _ _ (npt e) (k5 _ _ e)
                  rcases hd with ⟨b, rfl, fb, hb⟩ | ⟨tp, rfl, htp⟩
                  · have nbp : b ≠ pt := fun e => by rw [e, hts] at fb; cases fb
                    have hb7 := k7 _ _ nbp hb
                    refine ⟨_, rfl, .ref b, _, _, _, _, rfl, .ty _, .base (.lst hb7), Tk.tt "list" (by decide) "list" (by decide), _, rfl, iteT ?_⟩
                    refine ⟨_, rfl, .inl ⟨rfl, _, SqL.of hb7⟩, two_ln (by show 2 ≤ _; decide), fun pz hpz => ?_⟩
                    have kz := upd_grow (o := .tup [.int 0, .int 1]) hpz
                    refine ⟨b, xs, _, rfl, rfl, kz _ _ hb7, lt_ln (by omega), ?_⟩
                    refine ⟨_, rfl, b, _, (0 : Int), 0, rfl, rfl, upd_same, ixN_nat (k := 0) (by simp), ?_⟩
                    have kb : ∀ {c o}, c ≠ b → H7 c = some o → upd (upd (upd H7 pz (.tup [.int 0, .int 1])) b (.lst (xs ++ [V.ref pz]))) b (.lst ((xs ++ [V.ref pz]).set 0 .non)) c = some o := fun {c o} nc e => by
                      rw [upd_ne nc, upd_ne nc]
                      exact kz _ _ e
                    have f4 : H4 b = none := fresh_of k5 fb
                    refine ⟨fun c o e => kb (ne_of_none e f4) (k47 _ _ e), ts ++ [xa], _, _, by rw [List.length_append, lts]; rfl, kb nbp.symm hts7, fun j x e => ?_, rfl⟩
                    refine (TreeAt.del (D := b) (zs := xs) (by rw [del_ne nbp]; exact hb7) (hT7 j x e)).mono fun c o e2 => ?_
                    by_cases c1 : c = b
                    · rw [c1, del_same] at e2; cases e2
                    · rw [del_ne c1] at e2
                      by_cases c2 : c = pt
                      · rw [c2, del_same] at e2; cases e2
                      · rw [del_ne c2] at e2 ⊢
                        exact kb c1 e2
                  · have ntp : tp ≠ pt := fun e => by rw [e, hts6] at htp; cases htp
                    refine ⟨_, rfl, .ref tp, _, _, _, _, rfl, .ty _, .base (.tup (k7 _ _ ntp htp)), Tk.tt "tuple" (by decide) "list" (by decide), _, rfl, iteF ?_⟩
                    exact ⟨k47, ts ++ [xa], _, _, by rw [List.length_append, lts]; rfl, hts7, hT7, rfl⟩
                · have mk : ∀ {vs : List V} {x dx : Addr} {Q2 : Hp → Prop}, vs = [.ref x, .int (n i : Nat), xh] → H6 x = none → H6 dx = none → dx ≠ x → (∀ H', But pt H6 H' → (∃ ys, H' pt = some (.lst (ts.map V.ref)) ∧ ys = ts) → TreeAt K H' x (n i) (rs i) → Q2 H') →
                      spInit K vs (upd (upd H6 dx (.own x)) x (.ins (CT K) dx [])) (fun v H' => v = .non ∧ Q2 H') noE := by
                    intro vs x dx Q2 hvs hx hdx ne k
                    subst hvs
                    have hx2 : upd H6 dx (.own x) x = none := by rw [upd_ne ne.symm]; exact hx
                    have km : Same H6 (upd (upd H6 dx (.own x)) x (.ins (CT K) dx [])) := (upd_grow hdx).trans (upd_grow hx2)
                    have tm : Tame dr := by
                      rcases ir with rfl | rfl
                      · exact (nc_list (k := 1) (m := 300) (l := 64) (fun d hd => rd_nc (ok4 i hi) l64 hd) (by rw [List.length_map]; omega)).tame (by decide) (by decide)
                      · exact (nc_tup (k := 1) (m := 300) (l := 64) (fun d hd => rd_nc (ok4 i hi) l64 hd) (by rw [List.length_map]; omega)).tame (by decide) (by decide)
                    refine ⟨x, dx, .int (n i : Nat), xh, .int (n i : Nat), dr, rfl, upd_same, .int _, rx.mono km, tm, made_ok (by omega) l64 ir (ok4 i hi) (jo4 i hi) fun H7 k7 T7 => ⟨rfl, k H7 (fun b o _ e => ?_) ⟨ts, ?_, rfl⟩ T7⟩⟩
                    · exact k7 _ _ (ne_of_none e hx) (km _ _ e)
                    · exact k7 _ _ (ne_of_none hts6 hx) (km _ _ hts6)
                  have fin : ∀ {x : Addr} {H' : Hp}, But pt H6 H' → H' pt = some (.lst (ts.map V.ref)) → TreeAt K H' x (n i) (rs i) → ∃ xa : Addr, But pt H6 (upd H' pt (.lst (ts.map V.ref ++ [.ref x]))) ∧ upd H' pt (.lst (ts.map V.ref ++ [.ref x])) pt = some (.lst ((ts ++ [xa]).map V.ref)) ∧ TreeAt K (del (upd H' pt (.lst (ts.map V.ref ++ [.ref x]))) pt) xa (n i) (rs i) ∧
                      [some (V.ref p), some (.bl bn), some (.ref ps), none, some (.ref wl), none, some (.ref nl), some (.ref (w i)), some (.ref pt), some xh, none] = [some (.ref p), some (.bl bn), some (.ref ps), none, some (.ref wl), none, some (.ref nl), some (.ref (w i)), some (.ref pt), some xh, none] := fun {x H'} k h T => by
                    refine ⟨x, fun b o nb e => ?_, by rw [upd_same, List.map_append]; rfl, by rw [del_upd_same]; exact T.del h, rfl⟩
                    rw [upd_ne nb]
                    exact k _ _ nb e
                  have w6 := k6 _ _ w5
                  have lt6 : ts.length < 16777216 := by omega
                  refine ⟨_, rfl, .inl ⟨rfl, _, SqL.of hts6⟩, _, rfl, bn, rfl, ?_⟩
                  cases bn with
                  | true => 
                    refine iteT ⟨_, rfl, ixAt (v := .int (n i : Nat)) w6 rfl ⟨_, rfl, rfl, rfl, fun x dx hx hdx ne => ?_⟩⟩
                    dsimp only [tNil]
                    refine mk (by rfl) hx hdx ne fun H' k hh T => ?_
                    obtain ⟨_, h, _⟩ := hh
                    exact ⟨pt, _, _, rfl, rfl, h, lt_ln (by rw [List.length_map]; exact lt6), rest3 _ _ (fin k h T)⟩
                  | false => 
                    refine iteF ⟨_, rfl, ixAt (v := .int (n i : Nat)) w6 rfl ⟨_, rfl, rfl, rfl, fun x dx hx hdx ne => ?_⟩⟩
                    dsimp only [tNil]
                    refine mk (by rfl) hx hdx ne fun H' k hh T => ?_
                    obtain ⟨_, h, _⟩ := hh
                    exact ⟨pt, _, _, rfl, rfl, h, lt_ln (by rw [List.length_map]; exact lt6), rest3 _ _ (fin k h T)⟩
              · refine ⟨_, rfl, bn, rfl, ?_⟩
                cases bn with
                | true =>
                  refine iteT ⟨_, rfl, ixAt (v := .ref (r i)) w5 rfl ⟨r i, xs, rfl, .inl (SqL.of hxs), fun l hl => ?_⟩⟩
                  have ku := upd_grow (o := .lst xs) hl
                  exact rest2 _ _ ⟨.ref l, .list ((rs i).map rd), ku, .inl rfl, .lst upd_same (hix.mono ku), .inl ⟨l, rfl, hl, upd_same⟩, rfl⟩
                | false =>
                  refine iteF ⟨_, rfl, ixAt (v := .ref (r i)) w5 rfl ⟨r i, xs, rfl, .inl ⟨SqL.of hxs, fun l hl => ?_⟩⟩⟩
                  have ku := upd_grow (o := .tup xs) hl
                  exact rest2 _ _ ⟨.ref l, .tuple ((rs i).map rd), ku, .inr rfl, .tup upd_same (hix.mono ku), .inr ⟨l, rfl, upd_same⟩, rfl⟩
            · rintro σ H5 ⟨k5, ts, a7, a9, lts, hts, hT, rfl⟩
              have lts : ts.length = 2 := lts
              obtain ⟨t0, t1, rfl⟩ : ∃ a b, ts = [a, b] := match ts, lts with
                | [a, b], _ => ⟨a, b, rfl⟩
              refine rest _ _ ⟨fun i => if i = 0 then t0 else t1, a7, a9, k5, hts, fun i hi => ?_, rfl⟩
              match i, hi with
              | 0, _ => exact hT 0 t0 rfl
              | 1, _ => exact hT 1 t1 rfl
        · have hwl3 := del_le _ _ hwl
          obtain ⟨ob3, hob3⟩ := hp3.some
          refine ⟨_, rfl, wl, rfl, ⟨_, SqL.of hwl3⟩, fun D hD => ?_⟩
          refine lc_genL walk_list (fun _ => true) (fun i y X => ∃ nt, y = .ref nt ∧ Rdd (del X p) (.ref nt) (nearL (n i) (rs i))) (fun i y _ _ k ⟨nt, e, h⟩ => ⟨nt, e, h.mono (del_mono k)⟩) hD (by show 2 ≤ _; decide) (fun H' k => SqL.of (del_sub k _ _ hwl3)) ?_ ?_
          · rintro i x H4 H5 K1 N1 hi k4 ⟨zs, hzs⟩ ⟨rfl, hx⟩ hK _
            have hi : i < 2 := hi
            have ex : x = .ref (w i) := by
              match i, hi with
              | 0, _ => exact (Option.some.inj hx).symm
              | 1, _ => exact (Option.some.inj hx).symm
            subst ex
            obtain ⟨h1, h2, ok, jo⟩ := hw i hi
            have kx := del_sub k4
            have h1' := kx _ _ (del_le _ _ h1)
            obtain ⟨xs, hxs, hix⟩ : ∃ xs, H5 (r i) = some (.lst xs) ∧ RddAll H5 xs ((rs i).map rd) := by
              cases (h2.mono del_le).mono kx with
              | lst h1 ra => exact ⟨_, h1, ra⟩
            refine ⟨rfl, _, rfl, ixAt (v := .int (n i : Nat)) h1' rfl ⟨_, rfl, ixAt (v := .ref (r i)) h1' rfl ⟨n i, r i, xs, rs i, rfl, .inl hxs, hix, ok, (hn i hi).2, fun nt H6 k6 fn rn rnew => ?_⟩⟩⟩
            refine hK rfl _ _ k6 ⟨nt, rfl, rnew.mono (new_same fun b o e1 e2 => ?_)⟩
            have nb1 : b ≠ D := fun e => by rw [e, hzs] at e1; cases e1
            have nb2 : b ≠ p := fun e => by rw [e, kx _ _ hob3] at e1; cases e1
            rw [del_ne nb2, del_ne nb1]
            exact e2
          · intro ys H4 k4 h4 l4 r4
            rw [filt_all] at l4 r4
            have l4 : ys.length = 2 := l4
            obtain ⟨u0, u1, rfl⟩ : ∃ a b, ys = [a, b] := match ys, l4 with
              | [a, b], _ => ⟨a, b, rfl⟩
            obtain ⟨t0, e0, f0⟩ := r4 0 0 u0 rfl rfl
            obtain ⟨t1, e1, f1⟩ := r4 1 1 u1 rfl rfl
            subst e0 e1
            refine rest _ _ ⟨D, fun i => if i = 0 then t0 else t1, del_sub k4, h4, fun i hi => ?_, rfl⟩
            match i, hi with
            | 0, _ => exact f0.mono (del_mono del_le)
            | 1, _ => exact f1.mono (del_mono del_le)
      · refine ⟨_, rfl, ps, rfl, ⟨_, SqL.of hps⟩, fun D hD => ?_⟩
        have nDp : D ≠ p := (ne_of_none hob2 hD).symm
        have nDps : ps ≠ D := ne_of_none hps hD
        refine lc_genBL (p := p) walk_list (fun i H' => BoxAt H' p (7 + 128 * i)) (fun i y H' => ∃ (w r : Addr) (rs : List Tm.Road), y = .ref w ∧ H' w = some (.lst [.int (n i : Nat), .ref r]) ∧ Rdd H' (.ref r) (.list (rs.map rd)) ∧ Tm.RoadsOk (n i) rs ∧ Tm.Joined (n i) rs)
          (fun i y _ _ k ⟨w, r, rs, e, h, rr, ok, jo⟩ => ⟨w, r, rs, e, k _ _ h, rr.mono k, ok, jo⟩) (fun i H1 H2 e h => h.eq e.symm) hob2 hp2 hD (by show 2 ≤ _; decide) (fun H' k => SqL.of (but_of k _ _ nps hps)) ?_ ?_
        · rintro i x H3 H4 K1 N1 hi k3 ⟨zs, hzs⟩ s3 ⟨rfl, hx⟩ hK
          have hi : i < 2 := hi
          have ex : x = .int (n i : Nat) := by
            match i, hi with
            | 0, _ => exact (Option.some.inj hx).symm
            | 1, _ => exact (Option.some.inj hx).symm
          subst ex
          obtain ⟨h1, h2⟩ := hn i hi
          refine ⟨rfl, _, rfl, _, rfl, _, rfl, p, n i, _, rfl, s3, h1, h2, by omega, fun rs q H5 ok jo k5 hp5 fq nq rr => ⟨two_ln (by show 2 ≤ _; decide), fun pw hpw => ?_⟩⟩
          have hD5 : H5 D = some (.lst zs) := k5 _ _ nDp hzs
          have nqD : q ≠ D := fun e => by rw [e, hzs] at fq; cases fq
          have nwD : pw ≠ D := (ne_of_none hD5 hpw).symm
          obtain ⟨o5, ho5⟩ := hp5.some
          have nwp : pw ≠ p := (ne_of_none ho5 hpw).symm
          have ku := upd_grow (o := .lst [.int (n i : Nat), .ref q]) hpw
          refine hK _ _ (k5.trans (But.of ku)) ((hp5.same ku).up (by omega)) ⟨pw, q, rs, rfl, by rw [del_ne nwp, del_ne nwD, upd_same], ?_, ok, jo⟩
          rw [del_comm]
          exact rds_del (by rw [del_ne nDp]; exact ku _ _ hD5) (rr.mono (del_mono ku)) nqD
        · intro ys H3 k3 s3 h3 l3 r3
          have l3 : ys.length = 2 := l3
          have each : ∀ i, i < 2 → ∃ (w r : Addr) (rs : List Tm.Road), ys[i]? = some (.ref w) ∧ del H3 p w = some (.lst [.int (n i : Nat), .ref r]) ∧ Rdd (del H3 p) (.ref r) (.list (rs.map rd)) ∧ Tm.RoadsOk (n i) rs ∧ Tm.Joined (n i) rs := fun i hi => by
            have li : i < ys.length := by omega
            obtain ⟨w, r, rs, e, h, rr, ok, jo⟩ := r3 i ys[i] (List.getElem?_eq_getElem li)
            have le : Same (del (del H3 D) p) (del H3 p) := del_mono del_le
            exact ⟨w, r, rs, by rw [List.getElem?_eq_getElem li, e], le _ _ h, rr.mono le, ok, jo⟩
          obtain ⟨w0, r0, q0, e0, f0⟩ := each 0 (by decide)
          obtain ⟨w1, r1, q1, e1, f1⟩ := each 1 (by decide)
          have ey : ys = [.ref w0, .ref w1] := by
            match ys, l3, e0, e1 with
            | [a, b], _, e0, e1 =>
              have h0 : a = .ref w0 := Option.some.inj e0
              have h1 : b = .ref w1 := Option.some.inj e1
              rw [h0, h1]
          refine rest _ _ ⟨D, fun i => if i = 0 then w0 else w1, fun i => if i = 0 then r0 else r1, fun i => if i = 0 then q0 else q1, k2.trans (but_of k3), s3.up (by show 7 + 128 * 2 ≤ 300; decide), by rw [del_ne nDp, h3, ey]; rfl, fun i hi => ?_, rfl⟩
          match i, hi with
          | 0, _ => exact f0
          | 1, _ => exact f1
    · refine ⟨_, rfl, by decide, by decide, fun D hD => ?_⟩
      have nDp : D ≠ p := (ne_of_none hob hD).symm
      refine lc_genB (p := p) (walk_range (lo := 0) (n := 2)) (fun i H' => BoxAt H' p (1 + 3 * i)) (fun i y H' => ∃ k : Nat, 1 ≤ k ∧ k ≤ 64 ∧ y = .int k) (fun _ _ _ _ _ h => h) (fun i H1 H2 e h => h.eq e.symm) hob hp1 hD (by decide) (fun _ _ => True.intro) ?_ ?_
      · rintro i x H2 H3 K1 N1 hi k2 ⟨o, ho⟩ s2 ⟨rfl, hx⟩ hK
        have hi : i < 2 := hi
        refine ⟨rfl, _, rfl, p, 5, _, rfl, s2, by omega, by decide, by decide, fun a H4 a0 a1 k4 hp4 e4 => ⟨_, _, rfl, rfl, _, rfl, p, 64, _, rfl, hp4, by omega, by decide, by decide, fun b H5 b0 b1 k5 hp5 e5 => ⟨_, _, rfl, rfl, two_ln (by show 5 ≤ _; decide), fun pl hpl => ?_⟩⟩⟩
        have ku := upd_grow (o := .lst [.int 2, .int 3, .int (1 + a), .int (1 + b), .int 64]) hpl
        refine ⟨_, rfl, p, 5, _, rfl, hp5.same ku, by omega, by decide, by decide, fun d H6 d0 d1 k6 hp7 e6 => ?_⟩
        obtain ⟨o5, ho5⟩ := hp5.some
        have np : pl ≠ p := (ne_of_none ho5 hpl).symm
        have hl := k6 _ _ np (upd_same (H := H5) (a := pl) (o := .lst [.int 2, .int 3, .int (1 + a), .int (1 + b), .int 64]))
        have fin : ∀ m : Int, 1 ≤ m → m ≤ 64 → K1 (.int m) H6 := fun m h1 h2 => hK _ _ (k4.trans (k5.trans ((But.of ku).trans k6))) (hp7.up (by omega)) ⟨m.toNat, by omega, by omega, congrArg V.int (by omega)⟩
        have five : d = 0 ∨ d = 1 ∨ d = 2 ∨ d = 3 ∨ d = 4 := by omega
        rcases five with rfl | rfl | rfl | rfl | rfl
        · exact ixAt hl rfl (fin 2 (by decide) (by decide))
        · exact ixAt hl rfl (fin 3 (by decide) (by decide))
        · exact ixAt hl rfl (fin (1 + a) (by omega) (by omega))
        · exact ixAt hl rfl (fin (1 + b) (by omega) (by omega))
        · exact ixAt hl rfl (fin 64 (by decide) (by decide))
      · intro ys H3 k3 s3 h3 l3 r3
        have l3 : ys.length = 2 := l3
        obtain ⟨u0, u1, rfl⟩ : ∃ a b, ys = [a, b] := match ys, l3 with
          | [a, b], _ => ⟨a, b, rfl⟩
        obtain ⟨n0, a0, b0, e0⟩ := r3 0 u0 rfl
        obtain ⟨n1, a1, b1, e1⟩ := r3 1 u1 rfl
        subst e0 e1
        refine rest _ _ ⟨D, fun i => if i = 0 then n0 else n1, k1.trans (but_of k3), s3, nDp, h3, fun i hi => ?_, rfl⟩
        match i, hi with
        | 0, _ => exact ⟨a0, b0⟩
        | 1, _ => exact ⟨a1, b1⟩
end
end K02

namespace K02
open PySem PySem.Spec PyProof.Rows L2
def spLaw (K : PySem.W.Frag) : Sp := fun vs H Q _ => ∃ (l : Addr) (ns : List Int), vs = [.ref l] ∧ SqL K H l (ns.map V.int) ∧ ∀ H', Q (.bl true) H'
theorem sql_same {K : PySem.W.Frag} {H H' : Hp} {l : Addr} {xs : List V} (h : SqL K H l xs) (k : Same H H') : SqL K H' l xs := by
  rcases h with h | h
  · exact .inl (h.imp (k _ _) fun ⟨o, z⟩ => ⟨o, k _ _ z⟩)
  · exact .inr h
section
variable {P : Program} {w : World} {K : PySem.W.Frag} {mg : Str → Option Value} {base : Heap} {f : Addr} {fd : FuncData}
theorem ok_law (F : Fd K "law" sLaw f fd) (B : Bl mg) (o_law_cell : Ok P w K mg base CX0 1 "_law_cell" sCell ["script", "k"] (spCell K)) (o_law_box : Ok P w K mg base CX0 1 "_law_box" sBox ["great"] spBox)
    (o_law_cell_right : OkG P w K mg base 8 "_law_cell_right" sLCellR ["box"] spCellR) : FnG P w K mg base 9 f fd ["script"] (spLaw K) := by
  refine F.okG scLaw (fun vs H Q E h => ?_) (fun cdv A outer s H vs Q hgd hr h => ?_)
  · obtain ⟨l, ns, rfl, _⟩ := h
    rfl
  · refine ⟨_, (pss_cons (ps_for (passes_of rfl) rfl (pi_range1 (by rfl) (B.u "range" (by decide +kernel)) (pa_cons (pe_callB (call_max2 rfl) (by rfl) (B.u "max" (by decide +kernel)) (by decide +kernel) (pa_cons pe_int (pa_cons (pe_callB (call_min2 rfl) (by rfl) (B.u "min" (by decide +kernel)) (by decide +kernel) (pa_cons pe_int (pa_cons (pe_callB call_len (by rfl) (B.u "len" (by decide +kernel)) boot_len (pa_cons (pv 0) pa_nil)) pa_nil))) pa_nil))) pa_nil)) (pg_name (i := 1) scLaw.nd rfl (Or.inl rfl))
        (pss_one (ps_if (pt_not (pt_val (pe_oG o_law_cell_right hgd (hr.mono (by decide)) (by rfl) (pa_cons (pe_o o_law_box (hr.mono (by decide)) (by rfl) (pa_cons (pe_o o_law_cell (hr.mono (by decide)) (by rfl) (pa_cons (pv 0) (pa_cons (pv 1) pa_nil))) pa_nil)) pa_nil))))
          (pss_one (ps_ret pe_bl))
          pss_nil)))
      (pss_one (ps_ret pe_bl))), ?_⟩
    obtain ⟨l, ns, rfl, hl, q⟩ := h
    refine ⟨_, rfl, _, _, rfl, .inl ⟨_, hl, rfl⟩, _, _, rfl, _, _, rfl, _, rfl, ?_⟩
    generalize hJ : (if (if ((List.map V.int ns).length : Int) < 4 then ((List.map V.int ns).length : Int) else 4) > 2 then (if ((List.map V.int ns).length : Int) < 4 then ((List.map V.int ns).length : Int) else 4) else (2 : Int)) = J
    have j0 : 2 ≤ J := by rw [← hJ]; split <;> omega
    have j1 : J ≤ 4 := by rw [← hJ]; split <;> (try split) <;> omega
    refine ⟨by omega, by omega, ?_⟩
    refine for_it (walk_range (lo := 0) (n := J.toNat)) (fun i σ H' => Same H H' ∧ ∃ a : Option V, σ = [some (.ref l), a]) ⟨Same.refl _, none, rfl⟩ (fun _ _ _ _ _ => True.intro) ?_ ?_
    · rintro i x σ H0 H1 hi ⟨k1, a, rfl⟩ ⟨rfl, rfl⟩
      refine ⟨_, rfl, _, rfl, l, ns, (0 : Int) + i, rfl, sql_same hl k1, by omega, by omega, fun n H2 k2 => ⟨n, rfl, fun p xs hp hb => ?_⟩⟩
      refine ⟨p, rfl, ⟨xs, upd_same, hb⟩, fun H3 k3 => ⟨true, rfl, iteF ⟨k1.trans (k2.trans (fresh_same hp k3)), _, rfl⟩⟩⟩
    · rintro σ H1 ⟨k1, a, rfl⟩
      exact q H1
end
end K02

/-! the law's call, its def one that is called where no repr is under way -/
namespace L2
open PySem PySem.Spec PyProof.Rows
/-- the script's object -/
def scriptO (vs : List Value) : Obj := { cls := .type "list", data := .seq vs.toArray }
/-- what is tracked at the call: at most the script, at a -/
structure Entry (P : Program) (w : World) (K : PySem.W.Frag) (a : Addr) (H : Hp) (h : Heap) : Prop where
  only : Only H
  ok : HOk P w H h
  at_ : ∀ b, H b ≠ none → b = a
  own : H a ≠ none → K.lookup a = none
section
variable {P : Program} {w : World} {K : PySem.W.Frag} {mg mb : Str → Option Value} {k : Nat} {fa a : Addr} {fd : FuncData} {x : Str}
variable {sp : Sp} {z : Shared} {vs : List Value} {ns : List Int} {H : Hp}
theorem Entry.free (e : Entry P w K a H z.heap) (ha : z.heap.get? a = some (scriptO vs)) {b : Addr} (hb : b ≠ a) : H b = none := by
  cases q : H b with
  | none => rfl
  | some u => exact absurd (e.at_ b (by rw [q]; exact fun y => nomatch y)) hb
theorem Entry.base (e : Entry P w K a H z.heap) (KX : K.In z.heap) : K.In (hidT z.heap H) := by
  intro b o h
  refine hidT_get (KX b o h) ?_
  cases q : H b with
  | none => rfl
  | some u =>
    have y : H b ≠ none := by
      rw [q]
      exact fun y => nomatch y
    have i := e.at_ b y
    subst i
    rw [e.own y] at h
    cases h
theorem Entry.keepNs (e : Entry P w K a H z.heap) (ha : z.heap.get? a = some (scriptO vs)) {b : Addr} {m : Str → Option Value} (n : z.heap.Ns b m) : (hidT z.heap H).Ns b m := by
  obtain ⟨o, es, ep, g, d, r⟩ := n
  refine ⟨o, es, ep, hidT_get g (e.free ha fun i => ?_), d, r⟩
  rw [i, ha] at g
  cases g
  cases d
theorem law_coreG (e : Entry P w K a H z.heap) (KX : K.In z.heap) (hns : z.heap.Ns mainGlobals mg) (hb : z.heap.Ns builtinsNs mb)
    (hbb : ∀ y : Str, y ≠ "__name__" → mb y = bootBuiltins y) (hlim : z.heap.NoLimit) (hg : z.gens = #[])
    (ha : z.heap.get? a = some (scriptO vs)) (hr : Room k callerA)
    (F : ∀ base : Heap, K.In base → base.Ns mainGlobals mg → FnG P w K mg base k fa fd [x] sp)
    (hbind : ∀ (s : Shared) (u : Value), BindsTo s fd ⟨[u], []⟩ [(x, u)])
    (hsp : sp [.ref a] H (fun v _ => v = .bl true) noE) :
    codeAny (model P w) callerA (.call (.ref fa) ⟨[.ref a], []⟩)
      (fun r t => r = .ok (.ret (.bool true)) ∧ OldK z.heap t.heap ∧ t.os = z.os ∧ AllBare t.gens) z := by
  have kb := e.base KX
  have main := e.keepNs ha hns
  obtain ⟨mc, c1, c2⟩ := hlim
  have env : Env0 P w K mg (hidT z.heap H) callerA [] z H := by
    refine ⟨rfl, ⟨kb, main, ⟨mb, e.keepNs ha hb, hbb⟩, ⟨mc, e.keepNs ha c1, c2⟩⟩, fun b o y => of_hidT y, ?_, trivial, (fun b y => nomatch y), e.ok, .of_eq hg⟩
    exact Nat.le_of_eq (hidT_size _ _)
  have run := (F _ kb main).run callerA [] z H ⟨[.ref a], []⟩ [.ref a] [.ref a] _ hr rfl env (hbind z (.ref a)) (.cons rfl .nil) hsp
  refine codeAny_mono run fun r t h => ?_
  rcases r with er | fl
  · exact h.elim
  · cases fl with
    | ret u =>
      obtain ⟨v, H2, os, bare, un, ok2, ru, rfl⟩ := h
      have eu : u = Value.bool true := ru
      refine ⟨by rw [eu], OldK.of_keep fun b o y => ?_, os, bare⟩
      by_cases i : H b = none
      · exact un.keep b o y i (fun m => nomatch m) fun m => nomatch m
      · rcases e.only b with j | ⟨ob, ys, j⟩
        · exact absurd j i
        · have o1 := (e.ok b _ j).1
          rw [o1] at y
          cases y
          exact (ok2 b _ (un.frzs b _ _ j)).1
    | next => exact h.elim
    | brk => exact h.elim
    | cont => exact h.elim
/-- the script as one that is tracked -/
def trackO (a : Addr) (vs : List Value) (ns : List Int) : Hp := upd (fun _ => none) a (.frz (scriptO vs) (.lst (ns.map V.int)))
theorem law_callG (KX : K.In z.heap) (hns : z.heap.Ns mainGlobals mg) (hb : z.heap.Ns builtinsNs mb)
    (hbb : ∀ y : Str, y ≠ "__name__" → mb y = bootBuiltins y) (hlim : z.heap.NoLimit) (hg : z.gens = #[])
    (ha : z.heap.get? a = some (scriptO vs)) (hi : IntsAre vs ns) (hl : ns.length ≤ sizeLine) (hr : Room k callerA)
    (F : ∀ base : Heap, K.In base → base.Ns mainGlobals mg → FnG P w K mg base k fa fd [x] sp)
    (hbind : ∀ (s : Shared) (u : Value), BindsTo s fd ⟨[u], []⟩ [(x, u)])
    (hsp : ∀ H : Hp, SqL K H a (ns.map V.int) → sp [.ref a] H (fun v _ => v = .bl true) noE) :
    codeAny (model P w) callerA (.call (.ref fa) ⟨[.ref a], []⟩)
      (fun r t => r = .ok (.ret (.bool true)) ∧ OldK z.heap t.heap ∧ t.os = z.os ∧ AllBare t.gens) z := by
  have rel := vals_ints hi
  cases q : K.lookup a with
  | some o =>
    have g := KX a o q
    rw [ha] at g
    cases g
    have e : Entry P w K a (fun _ => none) z.heap := ⟨fun _ => .inl rfl, (fun b u y => nomatch y), fun b y => absurd rfl y, fun y => absurd rfl y⟩
    refine law_coreG e KX hns hb hbb hlim hg ha hr F hbind (hsp _ (.inr ⟨_, vs.toArray, _, q, rfl, rfl, rfl, ?_, by simpa using rel⟩))
    rw [List.size_toArray, hi.length]
    exact hl
  | none =>
    have e : Entry P w K a (trackO a vs ns) z.heap := by
      refine Entry.mk (fun b => ?_) (fun b u y => ?_) (fun b y => ?_) fun _ => q
      · by_cases i : b = a
        · exact .inr ⟨_, _, by rw [i]; exact upd_same⟩
        · exact .inl (upd_ne i)
      · by_cases i : b = a
        · subst i
          have y2 : some (HO.frz (scriptO vs) (.lst (ns.map V.int))) = some u := upd_same.symm.trans y
          cases y2
          refine ⟨ha, ?_, vs, _, rel, ha⟩
          rw [List.length_map]
          exact hl
        · have y2 : (none : Option HO) = some u := (upd_ne i).symm.trans y
          cases y2
      · by_cases i : b = a
        · exact i
        · exact absurd (upd_ne i) y
    exact law_coreG e KX hns hb hbb hlim hg ha hr F hbind (hsp _ (.inl (.inr ⟨scriptO vs, upd_same⟩)))
end
/-- the end of a law whose def is called where no repr is under way -/
theorem walk_G {l : PySem.W.OpenLaw} {n k : Nat} {q : Program} {loose : List Str} {XP : (Str → Option Value) → Heap → Prop} {YP : World → Heap → Prop} {d : DefRec} {x : Str}
    (hn : l.most = some n) (hn2 : n ≤ sizeLine) (hdf : d.params.defaults = []) (hr : Room k callerA)
    (F : ∀ (w : World) (mg : Str → Option Value) (fa : Addr) (h : Heap), YP w h → h.Ns mainGlobals mg → mg d.name = some (.ref fa) →
      ∃ (K : PySem.W.Frag) (fd : FuncData) (sp : Sp), K.In h ∧ (∀ (s : Shared) (u : Value), BindsTo s fd ⟨[u], []⟩ [(x, u)]) ∧
        (∀ (H : Hp) (a : Addr) (ns : List Int), SqL K H a (ns.map V.int) → sp [.ref a] H (fun v _ => v = .bl true) noE) ∧
        ∀ base : Heap, K.In base → base.Ns mainGlobals mg → FnG l.prog w K mg base k fa fd [x] sp) :
    PySem.W.WalkO q loose XP YP l.row.toRowW d [] (fun f vs => PySem.call f vs) := by
  refine Att.attach_call hn hdf fun w s0 z mg mb fa o pm cd doc a vs ns G Y ho hd hcd hmg hobj hints hlen hg => ?_
  obtain ⟨K, fd, sp, KX, hb, hsp, hF⟩ := F w mg fa _ Y G.T.g hmg
  exact law_callG KX G.T.g G.T.b G.T.builtins G.T.nolimit hg hobj hints (Nat.le_trans hlen hn2) hr hF hb fun H => hsp H a ns
end L2

/-! a head's facts: a check of one's own, the classes of exceptions, sys -/
namespace Ml
open PySem PySem.Spec PyProof.Rows L2 He
/-- the written part: what the module's names reach in n steps, and sys.modules -/
def partG (g : Addr → Option Obj) (n : Nat) : PySem.W.Frag := frG g (sysModules :: asD g n)
def seeM (ck : PySem.W.Frag → Bool) (fa : List Fa) (fn : List DefD) (K : PySem.W.Frag) : AlD := ((obsD fa fn K).1 && ck K, (obsD fa fn K).2)
def hookM (n : Nat) (fa : List Fa) (fn : List DefD) (ck : PySem.W.Frag → Bool) : PySem.W.Hook where
  α := AlD
  obs := fun s => seeM ck fa fn (partG s.heap.get? n)
  val := fun _ => valD fn
  says := fun _ h => ∃ K : PySem.W.Frag, K.In h ∧ seeM ck fa fn K = valD fn
  of := fun _ _ e => ⟨_, frG_in, e⟩
  keeps := fun _ _ _ ⟨K, hK, c⟩ k => ⟨K, PySem.W.Frag.In.keeps hK k, c⟩
theorem see_eq {n : Nat} {fa : List Fa} {fn : List DefD} {ck : PySem.W.Frag → Bool} {g : Addr → Option Obj} {s : Shared} (h : ∀ a, g a = s.heap.get? a) : seeM ck fa fn (partG g n) = (hookM n fa fn ck).obs s := by
  have e : g = s.heap.get? := funext h
  rw [e] <;> rfl
theorem see_ok {ck : PySem.W.Frag → Bool} {fa : List Fa} {fn : List DefD} {K : PySem.W.Frag} (h : seeM ck fa fn K = valD fn) : SaysD fa fn K ∧ ck K = true := by
  have e1 : ((obsD fa fn K).1 && ck K) = true := congrArg (fun z : AlD => z.1) h
  have e2 : (obsD fa fn K).2 = fn.map DefD.val := congrArg (fun z : AlD => z.2) h
  obtain ⟨c1, c2⟩ := ba e1
  exact ⟨Prod.ext c1 e2, c2⟩
/-! ### a class of exceptions with an __init__ of its own -/
def oexB (K : PySem.W.Frag) (C : Addr) : Bool := match K.lookup C with
  | some ⟨.type "type", _, .cls cd, sl⟩ => (match cd.mro, sl.toList with
    | .ref C' :: bm, [_, _, _, _, some (.builtin n), _] => C' == C && (n == "ValueError.__new__" && (!cd.hasDel && (cd.hasDict && PySem.HandSPX.refsVE bm)))
    | _, _ => false)
  | _ => false
theorem oexB_ok {K : PySem.W.Frag} {C : Addr} (q : oexB K C = true) :
    ∃ nm qn N bs bm sn sub ab col dd k0 k1 k2 k3 k5, K.lookup C = some (excClassObj nm qn C N bs bm true sn sub ab col dd k0 k1 k2 k3 k5 "ValueError.__new__") ∧ PySem.HandSPX.refsVE bm = true := by
  unfold oexB at q
  split at q
  case h_2 => cases q
  rename_i dd cd sl ho
  split at q
  case h_2 => cases q
  rename_i C' bm k0 k1 k2 k3 n k5 hm hs
  obtain ⟨q1, q⟩ := ba q
  obtain ⟨q2, q⟩ := ba q
  obtain ⟨q3, q⟩ := ba q
  obtain ⟨q4, q5⟩ := ba q
  have e1 : C' = C := eq_of_beq q1
  have e2 : n = "ValueError.__new__" := eq_of_beq q2
  obtain ⟨nm, bs, mro, ns, qn, hd, sn, sub, ab, col, del⟩ := cd
  have e3 : del = false := by
    cases del with
    | false => rfl
    | true => cases q3
  have e4 : hd = true := q4
  have e5 : mro = .ref C' :: bm := hm
  subst e1 e2 e3 e4 e5
  have e6 : sl = #[k0, k1, k2, k3, some (.builtin "ValueError.__new__"), k5] := by
    obtain ⟨l⟩ := sl
    exact congrArg Array.mk hs
  subst e6
  exact ⟨nm, qn, ns, bs, bm, sn, sub, ab, col, dd, k0, k1, k2, k3, k5, ho, q5⟩
def bO (K : PySem.W.Frag) (C : Addr) (m : Str) (b : String) : Bool := decide (PySem.W.findIn K (.ref C) m = some (some (.builtin b)))
/-- all of it -/
def clsB (K : PySem.W.Frag) (C L : Addr) : Bool :=
  oexB K C && (bO K C "__setattr__" "object.__setattr__" && (decide (PySem.W.subIn K (.ref C) (.type "BaseException") = some true) && (decide (PySem.W.typeIn K (.ref C) = some (.type "type")) && (PySem.W.keepIn K (.ref C) &&
  (bO K C "__getattribute__" "BaseException.__getattribute__" && (decide (PySem.W.findIn K (.ref C) "__getattr__" = some none) && (PySem.W.hasDictIn K C && (bO K C "__class__" "object.__class__" && (decide (PySem.W.mroIn K C (.type "object") = some true) &&
  (decide (PySem.W.findIn K (.ref C) "__init__" = some (some (.ref (ma K C "__init__")))) && (decide (PySem.W.typeIn K (.ref (ma K C "__init__")) = some (.type "function")) && (decide (PySem.W.kitOne K (.ref C) (.ref L) = some true) &&
  (decide (PySem.W.kitOne K (.ref C) (.type "ValueError") = some true) && decide (PySem.W.exmOne K (.ref C) (.ref L) = some true))))))))))))))
/-- what all exceptions rest on -/
def gsB (K : PySem.W.Frag) : Bool := decide (PySem.W.specialIn K (.builtin "object.__class__") "__get__" = some (some (.builtin "getset_descriptor.__get__"))) && decide (PySem.W.takesIn K (.builtin "object.__class__") = some true)
structure ClsI (K : PySem.W.Frag) (C L : Addr) : Prop where
  T : OexC K C
  E : ExcC K C
  X : XfC K C
  iC : PySem.W.findIn K (.ref C) "__init__" = some (some (.ref (ma K C "__init__")))
  tI : PySem.W.typeIn K (.ref (ma K C "__init__")) = some (.type "function")
  lost : PySem.W.kitOne K (.ref C) (.ref L) = some true
  val : PySem.W.kitOne K (.ref C) (.type "ValueError") = some true
  exm : PySem.W.exmOne K (.ref C) (.ref L) = some true
theorem clsB_ok {K : PySem.W.Frag} {C L : Addr} (g : gsB K = true) (h : clsB K C L = true) : ClsI K C L := by
  obtain ⟨g1, g2⟩ := ba g
  obtain ⟨h1, h⟩ := ba h
  obtain ⟨h2, h⟩ := ba h
  obtain ⟨h3, h⟩ := ba h
  obtain ⟨h4, h⟩ := ba h
  obtain ⟨h5, h⟩ := ba h
  obtain ⟨h6, h⟩ := ba h
  obtain ⟨h7, h⟩ := ba h
  obtain ⟨h8, h⟩ := ba h
  obtain ⟨h9, h⟩ := ba h
  obtain ⟨h10, h⟩ := ba h
  obtain ⟨h11, h⟩ := ba h
  obtain ⟨h12, h⟩ := ba h
  obtain ⟨h13, h⟩ := ba h
  obtain ⟨h14, h15⟩ := ba h
  have e3 := of_decide_eq_true h3
  exact ⟨⟨oexB_ok h1, of_decide_eq_true h2, e3, of_decide_eq_true h4, h5⟩,
    ⟨of_decide_eq_true h6, of_decide_eq_true h7, e3, h8, of_decide_eq_true h9, of_decide_eq_true g1, of_decide_eq_true g2, of_decide_eq_true h10⟩,
    ⟨of_decide_eq_true h6, of_decide_eq_true h7, e3, h8⟩, of_decide_eq_true h11, of_decide_eq_true h12, of_decide_eq_true h13, of_decide_eq_true h14, of_decide_eq_true h15⟩
end Ml

namespace K02
open PySem PySem.Spec PyProof.Rows L2 Ml
/-- the __init__ of the class at i -/
def ini (i : Nat) : Stmt := match top i with
  | .ClassDef _ _ _ (s :: _) _ _ _ _ _ _ _ => s
  | s => s
def dC (i : Nat) (x qual : Str) : He.DefD := ⟨(x, some "__init__"), "__init__", qual, defArgs (ini i), defBody (ini i), defScope (ini i), [], []⟩
def dM (k : Nat) (m qual : Str) : He.DefD := ⟨("Tree", some m), m, qual, defArgs (cdef 16 k), defBody (cdef 16 k), defScope (cdef 16 k), [], []⟩
def dF (i : Nat) (x : Str) : He.DefD := ⟨(x, none), x, x, defArgs (top i), defBody (top i), defScope (top i), [], []⟩
abbrev Fi (K : PySem.W.Frag) (i : Nat) (x qual : Str) (fd : FuncData) : Prop := FunD K "__init__" qual (defArgs (ini i)) (defBody (ini i)) (defScope (ini i)) [] [] (He.ma K (He.ga K x) "__init__") fd
section
variable {P : Program} {w : World} {K : PySem.W.Frag} {mg : Str → Option Value} {base : Heap} {fd : FuncData} {x f g qual : Str} {i : Nat}
theorem one_of {q1 q2 q3 q4 : Pos} (F : Fi K i x qual fd) (G : mg x = some (.ref (He.ga K x))) (B : ClsI K (He.ga K x) (He.ga K "LostError")) (no : PySem.W.findIn K (.ref (He.ga K x)) f = some none)
    (S : FnScope ["self", f] ["self", f] (defScope (ini i))) (hb : defBody (ini i) = iB1 f q1 q2 q3 q4) (pf : Plain f) (b1 : KBn K fd ["self", f] 2 [] (fun us _ => us) (fun vs _ => vs))
    (b2 : KBn K fd ["self", f] 1 [f] (fun us ws => us ++ ws) (fun vs zs => vs ++ zs)) : One P w K mg base x f :=
  ⟨G, B.T, B.iC, B.tI, fd, ok_init1 F S hb B.T no pf, b1, b2⟩
theorem two_of {q1 q2 q3 q4 r1 r2 r3 r4 : Pos} (F : Fi K i x qual fd) (G : mg x = some (.ref (He.ga K x))) (B : ClsI K (He.ga K x) (He.ga K "LostError")) (no : PySem.W.findIn K (.ref (He.ga K x)) f = some none) (no2 : PySem.W.findIn K (.ref (He.ga K x)) g = some none)
    (S : FnScope ["self", f, g] ["self", f, g] (defScope (ini i))) (hb : defBody (ini i) = iB2 f g q1 q2 q3 q4 r1 r2 r3 r4) (pf : Plain f) (pg : Plain g)
    (b1 : KBn K fd ["self", f, g] 3 [] (fun us _ => us) (fun vs _ => vs)) (b2 : KBn K fd ["self", f, g] 1 [f, g] (fun us ws => us ++ ws) (fun vs zs => vs ++ zs))
    (b3 : KBn K fd ["self", f, g] 1 [g, f] (fun us ws => us ++ ws.reverse) (fun vs zs => vs ++ zs.reverse)) (b4 : KBn K fd ["self", f, g] 2 [g] (fun us ws => us ++ ws) (fun vs zs => vs ++ zs)) : Two P w K mg base x f g :=
  ⟨G, B.T, B.iC, B.tI, fd, ok_init2 F S hb B.T no no2 pf pg, b1, b2, b3, b4⟩
theorem rel_rev {vs zs : List V} {us ws : List Value} (r : Vals vs us) (q : Vals zs ws) : Vals (vs ++ zs.reverse) (us ++ ws.reverse) := r.append q.rev
theorem o3 (F : Fi K 3 "InvalidHouses" "InvalidHouses.__init__" fd) (G : mg "InvalidHouses" = some (.ref (He.ga K "InvalidHouses"))) (B : ClsI K (He.ga K "InvalidHouses") (He.ga K "LostError")) (no : PySem.W.findIn K (.ref (He.ga K "InvalidHouses")) "given" = some none) : One P w K mg base "InvalidHouses" "given" :=
  one_of F G B no ⟨rfl, rfl, rfl, by decide +kernel, rfl, by decide +kernel, by decide +kernel⟩ rfl ⟨by decide, by decide⟩
    (F.kbn0 2 [] (fun us _ => us) (fun r _ => r) fun _ _ _ _ _ _ us ws l1 l2 => match us, ws, l1, l2 with | [_, _], [], _, _ => rfl)
    (F.kbn0 1 ["given"] (fun us ws => us ++ ws) rel_app fun _ _ _ _ _ _ us ws l1 l2 => match us, ws, l1, l2 with | [_], [_], _, _ => rfl)
theorem o4 (F : Fi K 4 "InvalidRoads" "InvalidRoads.__init__" fd) (G : mg "InvalidRoads" = some (.ref (He.ga K "InvalidRoads"))) (B : ClsI K (He.ga K "InvalidRoads") (He.ga K "LostError")) (no : PySem.W.findIn K (.ref (He.ga K "InvalidRoads")) "given" = some none) : One P w K mg base "InvalidRoads" "given" :=
  one_of F G B no ⟨rfl, rfl, rfl, by decide +kernel, rfl, by decide +kernel, by decide +kernel⟩ rfl ⟨by decide, by decide⟩
    (F.kbn0 2 [] (fun us _ => us) (fun r _ => r) fun _ _ _ _ _ _ us ws l1 l2 => match us, ws, l1, l2 with | [_, _], [], _, _ => rfl)
    (F.kbn0 1 ["given"] (fun us ws => us ++ ws) rel_app fun _ _ _ _ _ _ us ws l1 l2 => match us, ws, l1, l2 with | [_], [_], _, _ => rfl)
theorem o5 (F : Fi K 5 "InvalidHouse" "InvalidHouse.__init__" fd) (G : mg "InvalidHouse" = some (.ref (He.ga K "InvalidHouse"))) (B : ClsI K (He.ga K "InvalidHouse") (He.ga K "LostError")) (no : PySem.W.findIn K (.ref (He.ga K "InvalidHouse")) "given" = some none) : One P w K mg base "InvalidHouse" "given" :=
  one_of F G B no ⟨rfl, rfl, rfl, by decide +kernel, rfl, by decide +kernel, by decide +kernel⟩ rfl ⟨by decide, by decide⟩
    (F.kbn0 2 [] (fun us _ => us) (fun r _ => r) fun _ _ _ _ _ _ us ws l1 l2 => match us, ws, l1, l2 with | [_, _], [], _, _ => rfl)
    (F.kbn0 1 ["given"] (fun us ws => us ++ ws) rel_app fun _ _ _ _ _ _ us ws l1 l2 => match us, ws, l1, l2 with | [_], [_], _, _ => rfl)
theorem o6 (F : Fi K 6 "NotJoined" "NotJoined.__init__" fd) (G : mg "NotJoined" = some (.ref (He.ga K "NotJoined"))) (B : ClsI K (He.ga K "NotJoined") (He.ga K "LostError")) (no : PySem.W.findIn K (.ref (He.ga K "NotJoined")) "house" = some none) : One P w K mg base "NotJoined" "house" :=
  one_of F G B no ⟨rfl, rfl, rfl, by decide +kernel, rfl, by decide +kernel, by decide +kernel⟩ rfl ⟨by decide, by decide⟩
    (F.kbn0 2 [] (fun us _ => us) (fun r _ => r) fun _ _ _ _ _ _ us ws l1 l2 => match us, ws, l1, l2 with | [_, _], [], _, _ => rfl)
    (F.kbn0 1 ["house"] (fun us ws => us ++ ws) rel_app fun _ _ _ _ _ _ us ws l1 l2 => match us, ws, l1, l2 with | [_], [_], _, _ => rfl)
theorem o7 (F : Fi K 7 "NotARoad" "NotARoad.__init__" fd) (G : mg "NotARoad" = some (.ref (He.ga K "NotARoad"))) (B : ClsI K (He.ga K "NotARoad") (He.ga K "LostError")) (no : PySem.W.findIn K (.ref (He.ga K "NotARoad")) "u" = some none)
    (no2 : PySem.W.findIn K (.ref (He.ga K "NotARoad")) "v" = some none) : Two P w K mg base "NotARoad" "u" "v" :=
  two_of F G B no no2 ⟨rfl, rfl, rfl, by decide +kernel, rfl, by decide +kernel, by decide +kernel⟩ rfl ⟨by decide, by decide⟩ ⟨by decide, by decide⟩
    (F.kbn0 3 [] (fun us _ => us) (fun r _ => r) fun _ _ _ _ _ _ us ws l1 l2 => match us, ws, l1, l2 with | [_, _, _], [], _, _ => rfl)
    (F.kbn0 1 ["u", "v"] (fun us ws => us ++ ws) rel_app fun _ _ _ _ _ _ us ws l1 l2 => match us, ws, l1, l2 with | [_], [_, _], _, _ => rfl)
    (F.kbn0 1 ["v", "u"] (fun us ws => us ++ ws.reverse) rel_rev fun _ _ _ _ _ _ us ws l1 l2 => match us, ws, l1, l2 with | [_], [_, _], _, _ => rfl)
    (F.kbn0 2 ["v"] (fun us ws => us ++ ws) rel_app fun _ _ _ _ _ _ us ws l1 l2 => match us, ws, l1, l2 with | [_, _], [_], _, _ => rfl)
end
def fnA : List He.DefD := [dC 3 "InvalidHouses" "InvalidHouses.__init__", dC 4 "InvalidRoads" "InvalidRoads.__init__", dC 5 "InvalidHouse" "InvalidHouse.__init__", dC 6 "NotJoined" "NotJoined.__init__", dC 7 "NotARoad" "NotARoad.__init__", dM 0 "__init__" "Tree.__init__", dM 1 "__len__" "Tree.__len__", dM 2 "__contains__" "Tree.__contains__", dM 3 "__eq__" "Tree.__eq__", dF 9 "is_int", dF 10 "is_below", dF 11 "is_list", dF 12 "is_tuple", dF 13 "is_ascending", dF 17 "are_roads", dF 18 "houses_near"]
def fnB : List He.DefD := [dF 19 "houses_from", dF 20 "check_house", dF 21 "check_road", dF 22 "neighbours", dF 23 "way", dF 24 "on_way", dF 25 "side", dF 26 "foot", dF 28 "_law_cell", dF 29 "_law_box", dF 30 "_law_take", dF 31 "_law_roads", dF 32 "_law_near", dF 33 "_law_toward", dF 34 "_law_way", dF 35 "_law_house"]
def fnC : List He.DefD := [dF 36 "_law_bad", dF 37 "_law_things", dF 38 "_law_told", dF 39 "_law_side", dF 40 "_law_due", dF 41 "_law_question_right", dF 42 "_law_spoilt_roads", dF 43 "_law_other_road", dF 44 "_law_roads_due", dF 45 "_law_built_right", dF 46 "_law_refusals_right", dF 47 "_law_plain_right", dF 48 "_law_equal_right", dF 49 "_law_cell_right", dF 50 "law"]
def fn : List He.DefD := fnA ++ (fnB ++ fnC)
def globA : List Str := ["LostError", "InvalidHouses", "InvalidRoads", "InvalidHouse", "NotJoined", "NotARoad", "Tree", "is_int", "is_below", "is_list", "is_tuple", "is_ascending", "are_roads", "houses_near", "houses_from", "check_house"]
def globB : List Str := ["check_road", "neighbours", "way", "on_way", "side", "foot", "_law_cell", "_law_box", "_law_take", "_law_roads", "_law_near", "_law_toward", "_law_way", "_law_house", "_law_bad", "_law_things"]
def globC : List Str := ["_law_told", "_law_side", "_law_due", "_law_question_right", "_law_spoilt_roads", "_law_other_road", "_law_roads_due", "_law_built_right", "_law_refusals_right", "_law_plain_right", "_law_equal_right", "_law_cell_right", "law"]
def glob : List Str := globA ++ (globB ++ globC)
def free : List Str := bnames
def fa : List He.Fa := .int "MOST_HOUSES" 64 :: (glob.map He.Fa.glo ++ free.map He.Fa.free)
def errs : List Str := ["InvalidHouses", "InvalidRoads", "InvalidHouse", "NotJoined", "NotARoad"]
abbrev kinds : List String := ["int", "bool", "list", "tuple"]
def noat : List (Str × Str) := [("InvalidHouses", "given"), ("InvalidRoads", "given"), ("InvalidHouse", "given"), ("NotJoined", "house"), ("NotARoad", "u"), ("NotARoad", "v"), ("Tree", "houses"), ("Tree", "roads"), ("Tree", "near")]
def exno : List (Str × Str) := [("NotARoad", "InvalidHouse"), ("InvalidRoads", "InvalidHouses"), ("NotJoined", "InvalidHouses"), ("NotJoined", "InvalidRoads")]
def meths : List Str := ["__contains__", "__len__", "__eq__", "__init__"]
/-- the class Tree -/
def treeA (K : PySem.W.Frag) : Bool := PySem.W.plainGet K (CT K) Str.empty && (PySem.W.hasDictIn K (CT K) && (PySem.W.plainOver K (CT K) && (bO K (CT K) "__setattr__" "object.__setattr__" && (PySem.W.makesIn K (CT K) && PySem.W.keepIn K (.ref (CT K))))))
def treeB (K : PySem.W.Frag) : Bool := meths.all (fun m => decide (PySem.W.findIn K (.ref (CT K)) m = some (some (.ref (MT K m)))) && PySem.W.isFn K (.ref (MT K m))) && (bO K (CT K) "__ne__" "object.__ne__" && (decide (PySem.W.subIn K (.ref (CT K)) (.type "object") = some true) &&
  (decide (PySem.W.kitOne K (.ref (CT K)) (.ref (CT K)) = some true) && (tys.all (fun t => decide (PySem.W.kitOne K (.type t) (.ref (CT K)) = some false) && PySem.W.notFirst K (CT K) (.type t)) && (bO K (CT K) "__class__" "object.__class__" &&
  (decide (PySem.W.specialIn K (.builtin "object.__class__") "__get__" = some (some (.builtin "getset_descriptor.__get__"))) && (decide (PySem.W.takesIn K (.builtin "object.__class__") = some true) && decide (PySem.W.mroIn K (CT K) (.type "object") = some true))))))))
/-- what else the head is asked -/
def ck (K : PySem.W.Frag) : Bool := gsB K && (errs.all (fun x => clsB K (He.ga K x) (He.ga K "LostError")) && (noat.all (fun x => decide (PySem.W.findIn K (.ref (He.ga K x.1)) x.2 = some none)) &&
  (errs.all (fun x => decide (PySem.W.exmOne K (.ref (He.ga K x)) (.ref (He.ga K x)) = some true)) && (exno.all (fun x => decide (PySem.W.exmOne K (.ref (He.ga K x.1)) (.ref (He.ga K x.2)) = some false)) &&
  (tys.all (fun t => kinds.all fun u => decide (PySem.W.kitOne K (.type t) (.type u) = some (decide (t = u) || (decide (t = "bool") && decide (u = "int"))))) &&
  (tys.all (fun t => decide (PySem.W.kitAny K (.type t) [.type "list", .type "tuple"] = some (decide (t = "list") || decide (t = "tuple")))) && (treeA K && (treeB K && (K.lookup sysModules).isSome))))))))
theorem fact_of {fa : List He.Fa} {fn : List He.DefD} {K : PySem.W.Frag} (c : He.SaysD fa fn K) {f : He.Fa} (h : f ∈ fa) : f.ok K = true := by
  obtain ⟨i, e⟩ := List.mem_iff_getElem?.mp h
  exact c.fact i e
section
variable {P : Program} {w : World} {K : PySem.W.Frag} {h : Heap} {mg : Str → Option Value}
theorem tree_ok (a : treeA K = true) (b : treeB K = true) (n : ∀ x ∈ noat, PySem.W.findIn K (.ref (He.ga K x.1)) x.2 = some none) (g : mg "Tree" = some (.ref (CT K))) : TreeK K mg := by
  obtain ⟨a1, a⟩ := He.ba a
  obtain ⟨a2, a⟩ := He.ba a
  obtain ⟨a3, a⟩ := He.ba a
  obtain ⟨a4, a⟩ := He.ba a
  obtain ⟨a5, a6⟩ := He.ba a
  obtain ⟨b1, b⟩ := He.ba b
  obtain ⟨b2, b⟩ := He.ba b
  obtain ⟨b3, b⟩ := He.ba b
  obtain ⟨b4, b⟩ := He.ba b
  obtain ⟨b5, b⟩ := He.ba b
  obtain ⟨b6, b⟩ := He.ba b
  obtain ⟨b7, b⟩ := He.ba b
  obtain ⟨b8, b9⟩ := He.ba b
  have M : ∀ {m : Str}, m ∈ meths → PySem.W.findIn K (.ref (CT K)) m = some (some (.ref (MT K m))) ∧ PySem.W.isFn K (.ref (MT K m)) = true := fun hm =>
    have z := He.ba (List.all_eq_true.mp b1 _ hm)
    ⟨of_decide_eq_true z.1, z.2⟩
  have m1 := M (m := "__contains__") (by decide +kernel)
  have m2 := M (m := "__len__") (by decide +kernel)
  have m3 := M (m := "__eq__") (by decide +kernel)
  have m4 := M (m := "__init__") (by decide +kernel)
  exact ⟨g, ⟨a1, a2, a3, of_decide_eq_true a4⟩, n ("Tree", "houses") (by decide +kernel), n ("Tree", "roads") (by decide +kernel), n ("Tree", "near") (by decide +kernel), ⟨a5, m4.1, m4.2, a6⟩, m1.1, m1.2, m2.1, m2.2, m3.1, m3.2, of_decide_eq_true b2, of_decide_eq_true b3, of_decide_eq_true b4,
    fun t ht => ⟨of_decide_eq_true (He.ba (List.all_eq_true.mp b5 _ ht)).1, (He.ba (List.all_eq_true.mp b5 _ ht)).2⟩, of_decide_eq_true b6, of_decide_eq_true b7, of_decide_eq_true b8, of_decide_eq_true b9⟩
theorem facts {f : Addr} (X : K.In h) (G : h.Ns mainGlobals mg) (hfa : mg ("law" : Str) = some (.ref f)) (c : He.SaysD fa fn K) (k : ck K = true) :
    ∃ fd : FuncData, (∀ (s : Shared) (v : Value), BindsTo s fd ⟨[v], []⟩ [("script", v)]) ∧ ∀ base : Heap, K.In base → base.Ns mainGlobals mg → FnG P w K mg base 9 f fd ["script"] (spLaw K) := by
  obtain ⟨k1, k⟩ := He.ba k
  obtain ⟨k2, k⟩ := He.ba k
  obtain ⟨k3, k⟩ := He.ba k
  obtain ⟨k4, k⟩ := He.ba k
  obtain ⟨k5, k⟩ := He.ba k
  obtain ⟨k6, k⟩ := He.ba k
  obtain ⟨k7, k⟩ := He.ba k
  obtain ⟨k8, k⟩ := He.ba k
  obtain ⟨k9, k10⟩ := He.ba k
  have D : ∀ {x : Str}, x ∈ glob → mg x = some (.ref (He.ga K x)) := fun hx => He.glo_ok X G (fact_of c (List.mem_cons_of_mem _ (List.mem_append_left _ (List.mem_map_of_mem hx))))
  have U : ∀ x : Str, x ∈ bnames → mg x = none := fun x hx => He.free_ok X G (fact_of c (List.mem_cons_of_mem _ (List.mem_append_right _ (List.mem_map_of_mem hx))))
  have Bc : ∀ {x : Str}, x ∈ errs → ClsI K (He.ga K x) (He.ga K "LostError") := fun hx => clsB_ok k1 (List.all_eq_true.mp k2 _ hx)
  have N : ∀ x ∈ noat, PySem.W.findIn K (.ref (He.ga K x.1)) x.2 = some none := fun x hx => of_decide_eq_true (List.all_eq_true.mp k3 _ hx)
  have M : ∀ {x : Str}, x ∈ errs → PySem.W.exmOne K (.ref (He.ga K x)) (.ref (He.ga K x)) = some true := fun hx => of_decide_eq_true (List.all_eq_true.mp k4 _ hx)
  have XN : ∀ x ∈ exno, PySem.W.exmOne K (.ref (He.ga K x.1)) (.ref (He.ga K x.2)) = some false := fun x hx => of_decide_eq_true (List.all_eq_true.mp k5 _ hx)
  have T : KitK K := ⟨fun t ht u hu => of_decide_eq_true (List.all_eq_true.mp (List.all_eq_true.mp k6 _ ht) _ hu), fun t ht => of_decide_eq_true (List.all_eq_true.mp k7 _ ht)⟩
  have hsy : ∃ o, K.lookup sysModules = some o := Option.isSome_iff_exists.mp k10
  have B : Bl mg := ⟨U⟩
  have C : TreeK K mg := tree_ok k8 k9 N (D (by decide +kernel))
  have hM := He.int_ok X G (c.fact 0 (f := .int "MOST_HOUSES" 64) rfl)
  have E3 : ErrK K mg "InvalidHouses" := ⟨D (by decide +kernel), M (by decide +kernel), (Bc (x := "InvalidHouses") (by decide +kernel)).X⟩
  have E4 : ErrK K mg "InvalidRoads" := ⟨D (by decide +kernel), M (by decide +kernel), (Bc (x := "InvalidRoads") (by decide +kernel)).X⟩
  have E5 : ErrK K mg "InvalidHouse" := ⟨D (by decide +kernel), M (by decide +kernel), (Bc (x := "InvalidHouse") (by decide +kernel)).X⟩
  have E6 : ErrK K mg "NotJoined" := ⟨D (by decide +kernel), M (by decide +kernel), (Bc (x := "NotJoined") (by decide +kernel)).X⟩
  have E7 : ErrK K mg "NotARoad" := ⟨D (by decide +kernel), M (by decide +kernel), (Bc (x := "NotARoad") (by decide +kernel)).X⟩
  obtain ⟨dI3, FI3⟩ := c.def_ 0 (d := dC 3 "InvalidHouses" "InvalidHouses.__init__") rfl
  obtain ⟨dI4, FI4⟩ := c.def_ 1 (d := dC 4 "InvalidRoads" "InvalidRoads.__init__") rfl
  obtain ⟨dI5, FI5⟩ := c.def_ 2 (d := dC 5 "InvalidHouse" "InvalidHouse.__init__") rfl
  obtain ⟨dI6, FI6⟩ := c.def_ 3 (d := dC 6 "NotJoined" "NotJoined.__init__") rfl
  obtain ⟨dI7, FI7⟩ := c.def_ 4 (d := dC 7 "NotARoad" "NotARoad.__init__") rfl
  obtain ⟨dM0, (FM0 : Md K "__init__" "Tree.__init__" (cdef 16 0) (MT K "__init__") dM0)⟩ := c.def_ 5 (d := dM 0 "__init__" "Tree.__init__") rfl
  obtain ⟨dM1, (FM1 : Md K "__len__" "Tree.__len__" (cdef 16 1) (MT K "__len__") dM1)⟩ := c.def_ 6 (d := dM 1 "__len__" "Tree.__len__") rfl
  obtain ⟨dM2, (FM2 : Md K "__contains__" "Tree.__contains__" (cdef 16 2) (MT K "__contains__") dM2)⟩ := c.def_ 7 (d := dM 2 "__contains__" "Tree.__contains__") rfl
  obtain ⟨dM3, (FM3 : Md K "__eq__" "Tree.__eq__" (cdef 16 3) (MT K "__eq__") dM3)⟩ := c.def_ 8 (d := dM 3 "__eq__" "Tree.__eq__") rfl
  obtain ⟨d9, (F9 : Fd K "is_int" (top 9) (He.ga K "is_int") d9)⟩ := c.def_ 9 (d := dF 9 "is_int") rfl
  have g9 : mg "is_int" = some (.ref (He.ga K "is_int")) := D (by decide +kernel)
  obtain ⟨d10, (F10 : Fd K "is_below" (top 10) (He.ga K "is_below") d10)⟩ := c.def_ 10 (d := dF 10 "is_below") rfl
  have g10 : mg "is_below" = some (.ref (He.ga K "is_below")) := D (by decide +kernel)
  obtain ⟨d11, (F11 : Fd K "is_list" (top 11) (He.ga K "is_list") d11)⟩ := c.def_ 11 (d := dF 11 "is_list") rfl
  have g11 : mg "is_list" = some (.ref (He.ga K "is_list")) := D (by decide +kernel)
  obtain ⟨d12, (F12 : Fd K "is_tuple" (top 12) (He.ga K "is_tuple") d12)⟩ := c.def_ 12 (d := dF 12 "is_tuple") rfl
  have g12 : mg "is_tuple" = some (.ref (He.ga K "is_tuple")) := D (by decide +kernel)
  obtain ⟨d13, (F13 : Fd K "is_ascending" (top 13) (He.ga K "is_ascending") d13)⟩ := c.def_ 13 (d := dF 13 "is_ascending") rfl
  have g13 : mg "is_ascending" = some (.ref (He.ga K "is_ascending")) := D (by decide +kernel)
  obtain ⟨d17, (F17 : Fd K "are_roads" (top 17) (He.ga K "are_roads") d17)⟩ := c.def_ 14 (d := dF 17 "are_roads") rfl
  have g17 : mg "are_roads" = some (.ref (He.ga K "are_roads")) := D (by decide +kernel)
  obtain ⟨d18, (F18 : Fd K "houses_near" (top 18) (He.ga K "houses_near") d18)⟩ := c.def_ 15 (d := dF 18 "houses_near") rfl
  have g18 : mg "houses_near" = some (.ref (He.ga K "houses_near")) := D (by decide +kernel)
  obtain ⟨d19, (F19 : Fd K "houses_from" (top 19) (He.ga K "houses_from") d19)⟩ := c.def_ 16 (d := dF 19 "houses_from") rfl
  have g19 : mg "houses_from" = some (.ref (He.ga K "houses_from")) := D (by decide +kernel)
  obtain ⟨d20, (F20 : Fd K "check_house" (top 20) (He.ga K "check_house") d20)⟩ := c.def_ 17 (d := dF 20 "check_house") rfl
  have g20 : mg "check_house" = some (.ref (He.ga K "check_house")) := D (by decide +kernel)
  obtain ⟨d21, (F21 : Fd K "check_road" (top 21) (He.ga K "check_road") d21)⟩ := c.def_ 18 (d := dF 21 "check_road") rfl
  have g21 : mg "check_road" = some (.ref (He.ga K "check_road")) := D (by decide +kernel)
  obtain ⟨d22, (F22 : Fd K "neighbours" (top 22) (He.ga K "neighbours") d22)⟩ := c.def_ 19 (d := dF 22 "neighbours") rfl
  have g22 : mg "neighbours" = some (.ref (He.ga K "neighbours")) := D (by decide +kernel)
  obtain ⟨d23, (F23 : Fd K "way" (top 23) (He.ga K "way") d23)⟩ := c.def_ 20 (d := dF 23 "way") rfl
  have g23 : mg "way" = some (.ref (He.ga K "way")) := D (by decide +kernel)
  obtain ⟨d24, (F24 : Fd K "on_way" (top 24) (He.ga K "on_way") d24)⟩ := c.def_ 21 (d := dF 24 "on_way") rfl
  have g24 : mg "on_way" = some (.ref (He.ga K "on_way")) := D (by decide +kernel)
  obtain ⟨d25, (F25 : Fd K "side" (top 25) (He.ga K "side") d25)⟩ := c.def_ 22 (d := dF 25 "side") rfl
  have g25 : mg "side" = some (.ref (He.ga K "side")) := D (by decide +kernel)
  obtain ⟨d26, (F26 : Fd K "foot" (top 26) (He.ga K "foot") d26)⟩ := c.def_ 23 (d := dF 26 "foot") rfl
  have g26 : mg "foot" = some (.ref (He.ga K "foot")) := D (by decide +kernel)
  obtain ⟨d28, (F28 : Fd K "_law_cell" (top 28) (He.ga K "_law_cell") d28)⟩ := c.def_ 24 (d := dF 28 "_law_cell") rfl
  have g28 : mg "_law_cell" = some (.ref (He.ga K "_law_cell")) := D (by decide +kernel)
  obtain ⟨d29, (F29 : Fd K "_law_box" (top 29) (He.ga K "_law_box") d29)⟩ := c.def_ 25 (d := dF 29 "_law_box") rfl
  have g29 : mg "_law_box" = some (.ref (He.ga K "_law_box")) := D (by decide +kernel)
  obtain ⟨d30, (F30 : Fd K "_law_take" (top 30) (He.ga K "_law_take") d30)⟩ := c.def_ 26 (d := dF 30 "_law_take") rfl
  have g30 : mg "_law_take" = some (.ref (He.ga K "_law_take")) := D (by decide +kernel)
  obtain ⟨d31, (F31 : Fd K "_law_roads" (top 31) (He.ga K "_law_roads") d31)⟩ := c.def_ 27 (d := dF 31 "_law_roads") rfl
  have g31 : mg "_law_roads" = some (.ref (He.ga K "_law_roads")) := D (by decide +kernel)
  obtain ⟨d32, (F32 : Fd K "_law_near" (top 32) (He.ga K "_law_near") d32)⟩ := c.def_ 28 (d := dF 32 "_law_near") rfl
  have g32 : mg "_law_near" = some (.ref (He.ga K "_law_near")) := D (by decide +kernel)
  obtain ⟨d33, (F33 : Fd K "_law_toward" (top 33) (He.ga K "_law_toward") d33)⟩ := c.def_ 29 (d := dF 33 "_law_toward") rfl
  have g33 : mg "_law_toward" = some (.ref (He.ga K "_law_toward")) := D (by decide +kernel)
  obtain ⟨d34, (F34 : Fd K "_law_way" (top 34) (He.ga K "_law_way") d34)⟩ := c.def_ 30 (d := dF 34 "_law_way") rfl
  have g34 : mg "_law_way" = some (.ref (He.ga K "_law_way")) := D (by decide +kernel)
  obtain ⟨d35, (F35 : Fd K "_law_house" (top 35) (He.ga K "_law_house") d35)⟩ := c.def_ 31 (d := dF 35 "_law_house") rfl
  have g35 : mg "_law_house" = some (.ref (He.ga K "_law_house")) := D (by decide +kernel)
  obtain ⟨d36, (F36 : Fd K "_law_bad" (top 36) (He.ga K "_law_bad") d36)⟩ := c.def_ 32 (d := dF 36 "_law_bad") rfl
  have g36 : mg "_law_bad" = some (.ref (He.ga K "_law_bad")) := D (by decide +kernel)
  obtain ⟨d37, (F37 : Fd K "_law_things" (top 37) (He.ga K "_law_things") d37)⟩ := c.def_ 33 (d := dF 37 "_law_things") rfl
  have g37 : mg "_law_things" = some (.ref (He.ga K "_law_things")) := D (by decide +kernel)
  obtain ⟨d38, (F38 : Fd K "_law_told" (top 38) (He.ga K "_law_told") d38)⟩ := c.def_ 34 (d := dF 38 "_law_told") rfl
  have g38 : mg "_law_told" = some (.ref (He.ga K "_law_told")) := D (by decide +kernel)
  obtain ⟨d39, (F39 : Fd K "_law_side" (top 39) (He.ga K "_law_side") d39)⟩ := c.def_ 35 (d := dF 39 "_law_side") rfl
  have g39 : mg "_law_side" = some (.ref (He.ga K "_law_side")) := D (by decide +kernel)
  obtain ⟨d40, (F40 : Fd K "_law_due" (top 40) (He.ga K "_law_due") d40)⟩ := c.def_ 36 (d := dF 40 "_law_due") rfl
  have g40 : mg "_law_due" = some (.ref (He.ga K "_law_due")) := D (by decide +kernel)
  obtain ⟨d41, (F41 : Fd K "_law_question_right" (top 41) (He.ga K "_law_question_right") d41)⟩ := c.def_ 37 (d := dF 41 "_law_question_right") rfl
  have g41 : mg "_law_question_right" = some (.ref (He.ga K "_law_question_right")) := D (by decide +kernel)
  obtain ⟨d42, (F42 : Fd K "_law_spoilt_roads" (top 42) (He.ga K "_law_spoilt_roads") d42)⟩ := c.def_ 38 (d := dF 42 "_law_spoilt_roads") rfl
  have g42 : mg "_law_spoilt_roads" = some (.ref (He.ga K "_law_spoilt_roads")) := D (by decide +kernel)
  obtain ⟨d43, (F43 : Fd K "_law_other_road" (top 43) (He.ga K "_law_other_road") d43)⟩ := c.def_ 39 (d := dF 43 "_law_other_road") rfl
  have g43 : mg "_law_other_road" = some (.ref (He.ga K "_law_other_road")) := D (by decide +kernel)
  obtain ⟨d44, (F44 : Fd K "_law_roads_due" (top 44) (He.ga K "_law_roads_due") d44)⟩ := c.def_ 40 (d := dF 44 "_law_roads_due") rfl
  have g44 : mg "_law_roads_due" = some (.ref (He.ga K "_law_roads_due")) := D (by decide +kernel)
  obtain ⟨d45, (F45 : Fd K "_law_built_right" (top 45) (He.ga K "_law_built_right") d45)⟩ := c.def_ 41 (d := dF 45 "_law_built_right") rfl
  have g45 : mg "_law_built_right" = some (.ref (He.ga K "_law_built_right")) := D (by decide +kernel)
  obtain ⟨d46, (F46 : Fd K "_law_refusals_right" (top 46) (He.ga K "_law_refusals_right") d46)⟩ := c.def_ 42 (d := dF 46 "_law_refusals_right") rfl
  have g46 : mg "_law_refusals_right" = some (.ref (He.ga K "_law_refusals_right")) := D (by decide +kernel)
  obtain ⟨d47, (F47 : Fd K "_law_plain_right" (top 47) (He.ga K "_law_plain_right") d47)⟩ := c.def_ 43 (d := dF 47 "_law_plain_right") rfl
  have g47 : mg "_law_plain_right" = some (.ref (He.ga K "_law_plain_right")) := D (by decide +kernel)
  obtain ⟨d48, (F48 : Fd K "_law_equal_right" (top 48) (He.ga K "_law_equal_right") d48)⟩ := c.def_ 44 (d := dF 48 "_law_equal_right") rfl
  have g48 : mg "_law_equal_right" = some (.ref (He.ga K "_law_equal_right")) := D (by decide +kernel)
  obtain ⟨d49, (F49 : Fd K "_law_cell_right" (top 49) (He.ga K "_law_cell_right") d49)⟩ := c.def_ 45 (d := dF 49 "_law_cell_right") rfl
  have g49 : mg "_law_cell_right" = some (.ref (He.ga K "_law_cell_right")) := D (by decide +kernel)
  obtain ⟨d50, (F50 : Fd K "law" (top 50) (He.ga K "law") d50)⟩ := c.def_ 46 (d := dF 50 "law") rfl
  have g50 : mg "law" = some (.ref (He.ga K "law")) := D (by decide +kernel)
  have e := hfa.symm.trans g50
  cases e
  have b := FunD.bindsA (ps := ["script"]) F50 fun _ _ _ _ _ _ us hl => match us, hl with | [_], _ => rfl
  refine ⟨d50, fun s v => b s [v] rfl, fun base _ _ => ?_⟩
  have O3 : One P w K mg base "InvalidHouses" "given" := o3 FI3 (D (by decide +kernel)) (Bc (by decide +kernel)) (N ("InvalidHouses", "given") (by decide +kernel))
  have O4 : One P w K mg base "InvalidRoads" "given" := o4 FI4 (D (by decide +kernel)) (Bc (by decide +kernel)) (N ("InvalidRoads", "given") (by decide +kernel))
  have O5 : One P w K mg base "InvalidHouse" "given" := o5 FI5 (D (by decide +kernel)) (Bc (by decide +kernel)) (N ("InvalidHouse", "given") (by decide +kernel))
  have O6 : One P w K mg base "NotJoined" "house" := o6 FI6 (D (by decide +kernel)) (Bc (by decide +kernel)) (N ("NotJoined", "house") (by decide +kernel))
  have O7 : Two P w K mg base "NotARoad" "u" "v" := o7 FI7 (D (by decide +kernel)) (Bc (by decide +kernel)) (N ("NotARoad", "u") (by decide +kernel)) (N ("NotARoad", "v") (by decide +kernel))
  have p9 := ok_is_int (P := P) (w := w) (base := base) F9 g9 B
  have p10 := ok_is_below (P := P) (w := w) (base := base) F10 g10 B
  have p11 := ok_is_list (P := P) (w := w) (base := base) F11 g11 B
  have p12 := ok_is_tuple (P := P) (w := w) (base := base) F12 g12 B
  have p13 := ok_is_ascending (P := P) (w := w) (base := base) F13 g13 B
  have p17 := ok_are_roads F17 g17 B p11 p12 p10 p13
  have p18 := ok_houses_near (P := P) (w := w) (base := base) F18 g18 B
  have p19 := ok_houses_from (P := P) (w := w) (base := base) F19 g19 B
  have pI := ok_init FM0 C B hM O3 O4 O6 p9 p17 p18 p19
  have pL := ok_len (P := P) (w := w) (base := base) FM1 C B
  have pC := ok_cont FM2 C p10
  have pE := ok_eq (P := P) (w := w) (base := base) FM3 C B
  have p20 := ok_check_house F20 g20 C O5 pC
  have p21 := ok_check_road F21 g21 C O7 p20
  have p22 := ok_neighbours F22 g22 C B p20
  have p23 := ok_way F23 g23 C B p20 p19
  have p24 := ok_on_way F24 g24 C B p20 p23
  have p25 := ok_side F25 g25 C B p21 p19
  have p26 := ok_foot F26 g26 C B p23
  have p28 := ok_cell (P := P) (w := w) (base := base) F28 g28 B
  have p29 := ok_box (P := P) (w := w) (base := base) F29 g29 B
  have p30 := (ok_take (P := P) (w := w) (base := base) F30 g30 B).imp (fun _ _ _ _ => take_draw)
  have p31 := ok_roads F31 g31 B p30
  have p32 := ok_lnear (P := P) (w := w) (base := base) F32 g32 B
  have p33 := ok_toward (P := P) (w := w) (base := base) F33 g33 B
  have p34 := ok_lway F34 g34 B p33
  have p35 := ok_lhouse (P := P) (w := w) (base := base) F35 g35 B T
  have p36 := ok_lbad F36 g36 B p30
  have p37 := ok_things F37 g37 B p30 p36
  have p38 := ok_told F38 g38 B E5 E7 (N ("InvalidHouse", "given") (by decide +kernel)) (N ("NotARoad", "u") (by decide +kernel)) (N ("NotARoad", "v") (by decide +kernel)) (XN ("NotARoad", "InvalidHouse") (by decide +kernel)) p22 p23 p24 p25 p26
  have p39 := ok_lside (P := P) (w := w) (base := base) F39 g39 B
  have p40 := ok_due F40 g40 B p35 p34 p39
  have p41 := ok_quest F41 g41 B T hsy p30 p37 p40 p38
  have p42 := ok_spoilt F42 g42 B p30
  have p43 := ok_other F43 g43 B p30
  have p44 := ok_rdue F44 g44 B T p35
  have p45 := ok_built F45 g45 B T C hsy FM0 pI E3 E4 E6 (N ("InvalidHouses", "given") (by decide +kernel)) (N ("InvalidRoads", "given") (by decide +kernel)) (N ("NotJoined", "house") (by decide +kernel)) (XN ("InvalidRoads", "InvalidHouses") (by decide +kernel))
    (XN ("NotJoined", "InvalidHouses") (by decide +kernel)) (XN ("NotJoined", "InvalidRoads") (by decide +kernel)) p35 p44 p32 p33
  have p46 := ok_refus F46 g46 B p30 p42 p43 p45
  have p47 := ok_plain F47 g47 B C hsy p30 p36 p35 pL pC
  have p48 := ok_equal F48 g48 B C FM0 pI pE
  have p49 := ok_cellr F49 g49 B C T FM0 pI p30 p31 p32 p41 p46 p47 p48
  exact ok_law F50 B p28 p29 p49
end
end K02

namespace K02
open PySem PySem.Spec PyProof.Rows L2 Ml
abbrev R : PySem.W.OpenRow := PySem.W.OpenLaw.row PySem.Challenge.rw_maplost_k02_trees
abbrev hk : PySem.W.Hook := hookM 4 fa fn ck
def ob (s : PySem.W.SharedT) : He.AlD := seeM ck fa fn (partG (HandSHeadRun.getT s) 4)
theorem ob_eq (s : PySem.W.SharedT) : ob s = hk.obs s.abs := see_eq (HandSHeadRun.getT_eq s)
def looseA : List Str := ["_wall", "LostError", "InvalidHouses", "InvalidRoads", "InvalidHouse", "NotJoined", "NotARoad", "MOST_HOUSES", "Tree", "is_int", "is_below", "is_list", "is_tuple", "is_ascending", "are_roads", "houses_near"]
def looseB : List Str := ["houses_from", "check_house", "check_road", "neighbours", "way", "on_way", "side", "foot", "_law_cell", "_law_box", "_law_take", "_law_roads", "_law_near", "_law_toward", "_law_way", "_law_house"]
def looseC : List Str := ["_law_bad", "_law_things", "_law_told", "_law_side", "_law_due", "_law_question_right", "_law_spoilt_roads", "_law_other_road", "_law_roads_due", "_law_built_right", "_law_refusals_right", "_law_plain_right", "_law_equal_right", "_law_cell_right"]
abbrev looseN : List Str := looseA ++ (looseB ++ looseC)
theorem run (w : World) : HandSHeadRun.RunEq R (PySem.W.view R.prog [50]) hk ob 20000 looseN w := by
  intro os
  kernel_rfl
end K02

open PySem PySem.W PySem.Calls PyProof.Rows
theorem PySem.Challenge.cw_maplost_k02_trees_holds : PySem.Challenge.rw_maplost_k02_trees.Holds := by
  w_on; o_law
  refine HandSHeadRun.head_any (r := OpenLaw.row PySem.Challenge.rw_maplost_k02_trees) (q := view (OpenLaw.row PySem.Challenge.rw_maplost_k02_trees).prog [50]) (H := K02.hk) (ob := K02.ob) (M := 20000) (loose := K02.looseN)
    (d := HandSHeadRun.topDef (OpenLaw.row PySem.Challenge.rw_maplost_k02_trees).prog 50) (kwd := []) K02.ob_eq
    (by kernel_rfl) (fun s => by kernel_rfl) K02.run (by kernel_rfl) (by kernel_rfl) (by kernel_rfl) (by rfl) (by first | assumption | decide +kernel) (by decide +kernel) ⟨rfl, rfl, rfl, rfl, rfl, by decide +kernel⟩ ?hw ?hc
  case hw => w_witness2
  case hc =>
    refine L2.walk_G (l := PySem.Challenge.rw_maplost_k02_trees) (n := 63) (k := 9) (x := "script") rfl (by decide) (by kernel_rfl) ⟨by decide, by decide, by decide⟩ ?_
    intro w mg fx h Y G hmg0
    obtain ⟨K, KX, c⟩ := Y
    obtain ⟨c, ck⟩ := Ml.see_ok c
    have hmg : mg ("law" : PySem.Str) = some (.ref fx) := by
      have e : (HandSHeadRun.topDef (OpenLaw.row PySem.Challenge.rw_maplost_k02_trees).prog 50).name = ("law" : PySem.Str) := by kernel_rfl
      rw [← e]
      exact hmg0
    obtain ⟨fd, hb, hF⟩ := K02.facts (P := (PySem.Challenge.rw_maplost_k02_trees).prog) (w := w) KX G hmg c ck
    exact ⟨K, fd, K02.spLaw K, KX, hb, fun H a ns hS => ⟨a, ns, rfl, hS, fun _ => rfl⟩, hF⟩

