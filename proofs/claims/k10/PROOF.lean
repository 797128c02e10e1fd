import PyProof.Rows.All
import Wide.All
import OpenK.AllK
import Wide.FinOn
import PyProof.EqAt
import PyProof.EqKinds
import PyProof.TupleCall
import HandS.ForMost
import HandS.Exc
import HandS.ExcInit
import HandS.Defaults
import KE.KIsAll
import KE.KTryMore
import HandS.ExcIs
import HandS.ExcField
import HandS.IsInst
import HandS.MakeKwOnly
import HandS.HotCalls
import HandS.Ends
import HandS.Head0
import HandS.Head1
import HandS.Head2
import HandS.HeadHook1
import HandS.HeadHook2
import HandS.HeadNt
import HandS.Property
import KE.KStateDown
import HandS.HeadEnd
import HandS.OwnEq
import PyProof.InstNe
import HandS.Comp
import PyProof.ReprRoads
import HandS.ForExc
import HandS.ListEq
import HandS.DeepEq
import HandS.DictComp
import HandS.WordsList
import HandS.ExcCtx
import HandS.MakeKw
import HandS.CallSlots
import HandS.ExcInitHot
import HandS.Iter
import PyProof.StrLoop
import HandS.Walk
import HandS.NamedTupGet
import HandS.Text
import HandS.Flow
import HandS.More
import PyProof.StrLawsRepr
import PyProof.TypeEq
import HandS.Style
import HandS.SortInts
import HandS.SortRule
import HandS.NoneIn
import HandS.Conv
import HandS.Strs
import HandS.TupSets
import KE.KDictKeyed
import KE.SortData
import HandS.DictTup
import HandS.SetKeys
import KE.KIntText
import HandS.Deep
import HandS.Rev
import PyProof.ListNew
import PySem.Challenge.RW_maplost_k10_arrows_by_own_pairs
set_option Elab.async false
set_option linter.all false
set_option maxRecDepth 100000
set_option maxHeartbeats 0
/-! exceptions with an own __init__, made by values and by keywords -/
namespace PySem
namespace MlE
open Builtin Builtin.ObjectAttr PySem.HandSPX
section
variable {M : Model} {A : Around} {E : Value → Shared → Prop} {hp : Heap} {gs : Array GenState} {dr : Drawn} {tk : Nat} {os : OsState}
variable {nm q : Str} {C N : Addr} {bs bm base : List Value} {hdct : Bool} {sn : List Str} {sub : List Value} {ab : Bool} {col : Option Bool} {dd : Option Addr}
variable {k0 k1 k2 k3 k5 : Option Value} {B nid iid : String}
theorem newCheckK (F : ExcBaseFacts B nid iid base) (hT : ∀ Y : String, bm.contains (.type Y) = base.contains (.type Y))
    {xs : List Value} {kw : List (Str × Value)} {Q : Unit → Shared → Prop}
    (hC : hp.get? C = some (excClassObj nm q C N bs bm hdct sn sub ab col dd k0 k1 k2 k3 k5 nid))
    (hq : Q () ⟨hp, gs, dr, tk, os⟩) :
    wpAny M A (checkBuiltinCall nid { pos := .ref C :: xs, kw := kw }) Q E ⟨hp, gs, dr, tk, os⟩ := by
  have inB : (Value.ref C :: bm).contains (.type B) = true := by
    rw [List.contains_cons, hT, F.hasB, Bool.or_true]
  have st := F.noStar
  simp only [checkBuiltinCall, F.newKind, F.newSplit, F.newRow]
  repeat (first
    | refine wpAny_loadPart_at hC ?_
    | (refine wpAny_isSubtype_exc hC ?_; rw [inB])
    | refine wpAny_staticBase_exc hC ?_
    | refine wpAny_madeBy_exc hC ?_
    | simp only [bne_self_eq_false, Bool.false_eq_true, if_false]
    | wp_step)
  exact hq
end
section
variable {P : Program} {w : World} {A : Around} {E : Value → Shared → Prop} {R : Result → Shared → Prop} {hp : Heap} {gs : Array GenState} {dr : Drawn} {tk : Nat} {os : OsState}
variable {nm q : Str} {C N : Addr} {bs bm base : List Value} {hdct : Bool} {sn : List Str} {sub : List Value} {ab : Bool} {col : Option Bool} {dd : Option Addr}
variable {k0 k1 k2 k3 k5 : Option Value} {B nid iid : String}
/-- the heap behind BaseException.__new__ -/
abbrev withNew (hp : Heap) (C : Addr) (xs : List Value) : Heap := (hp.push (PySem.W.kdv_tup xs)).push (excO C hp.objs.size)
theorem newK (F : ExcBaseFacts B nid iid base) (hT : ∀ Y : String, bm.contains (.type Y) = base.contains (.type Y))
    {xs : List Value} {kw : List (Str × Value)}
    (hC : hp.get? C = some (excClassObj nm q C N bs bm hdct sn sub ab col dd k0 k1 k2 k3 k5 nid)) (hl : xs.length ≤ sizeLine)
    (hq : R (.ok (.ret (.ref (hp.objs.size + 1)))) ⟨withNew hp C xs, gs, dr, tk, os⟩) :
    codeAny (model P w) A (.builtin nid { pos := .ref C :: xs, kw := kw }) R ⟨hp, gs, dr, tk, os⟩ := by
  have en := F.ends
  have inB : (Value.ref C :: bm).contains (.type B) = true := by
    rw [List.contains_cons, hT, F.hasB, Bool.or_true]
  have inA : (Value.ref C :: bm).contains (.type "AttributeError") = false := by
    rw [List.contains_cons, hT, F.noAttr] <;> rfl
  have inN : (Value.ref C :: bm).contains (.type "NameError") = false := by
    rw [List.contains_cons, hT, F.noName] <;> rfl
  refine codeAny_builtinAt F.entry ?_
  unfold Builtin.«BaseException.__new__»
  refine wpAt_bind ?_
  show wpAt _ _ _ (stack >>= _) _ _ _
  refine wpAt_bind (wpAt_stack fun p below => wpAt_of_wpAny ?_)
  wp_walk
  refine wpAt_of_wpAny ?_
  rw [F.owner]
  repeat (first
    | with_reducible refine wpAny_madeHere_exc F.canon hC ?_
    | with_reducible refine wpAny_loadPart_at hC ?_
    | (with_reducible refine wpAny_isSubtype_exc hC ?_; first | rw [inB] | rw [inA] | rw [inN])
    | wp_step)
  show R _ _
  rw [Heap.size_push]
  exact hq
/-- type.__call__ on such a class, with keywords -/
theorem typeCallK (F : ExcBaseFacts B nid iid base) (hT : ∀ Y : String, bm.contains (.type Y) = base.contains (.type Y))
    {xs : List Value} {kw : List (Str × Value)} {fI : Addr} {Q : Fin → Shared → Prop}
    (hC : hp.get? C = some (excClassObj nm q C N bs bm hdct sn sub ab col dd k0 k1 k2 k3 k5 nid))
    (hi : W.Looks (model P w) hp (typeLookup (.ref C) "__init__") (some (.ref fI)))
    (hb : ∀ self, W.Looks (model P w) hp (bindSpecial (.ref fI) self) (.ref fI, [self])) (hl : xs.length ≤ sizeLine)
    (hq : codeAny (model P w) A (.call (.ref fI) ⟨.ref (hp.objs.size + 1) :: xs, kw⟩)
      (fun r z => match r with
        | .ok (.ret v) => v = .none ∧ Q (.done (.ret (.ref (hp.objs.size + 1)))) z
        | .ok _ => False
        | .error e => E e z) ⟨withNew hp C xs, gs, dr, tk, os⟩) :
    wpAny (model P w) A (Builtin.«type.__call__» { pos := .ref C :: xs, kw := kw }) Q E ⟨hp, gs, dr, tk, os⟩ := by
  repeat (first
    | with_reducible refine wpAny_loadPart_at hC ?_
    | with_reducible refine wpAny_madeBy_exc hC ?_
    | wp_step)
  refine codeAny_call_builtin_code (Code.quiet_builtin _ F.quiet) (newCheckK F hT hC ?_)
  refine newK F hT hC hl ?_
  show wpAny _ _ _ _ _ _
  have up : ∀ b o, hp.get? b = some o → (withNew hp C xs).get? b = some o :=
    fun b o e => Heap.get?_push_of_some _ (Heap.get?_push_of_some _ e)
  have atC := up _ _ hC
  have atE : (withNew hp C xs).get? (hp.objs.size + 1) = some (excO C hp.objs.size) := by heap_get
  have self : (Value.ref C :: bm).contains (.ref C) = true := by simp
  have iK := hi.keeps up
  have bK := (hb (.ref (hp.objs.size + 1))).keeps up
  unfold isInstance
  repeat (first
    | with_reducible refine wpAny_loadPart_at atE ?_
    | (with_reducible refine wpAny_isSubtype_exc atC ?_; rw [self])
    | wp_step)
  show wpAny _ _ (typeLookup (.ref C) _) _ _ _
  refine iK.at ?_
  refine wpAny_holding (wpAny_bind (bK.at ?_))
  refine wpAny_bind (wpAny_call (codeAny_mono hq fun r z hz => ?_))
  cases r with
  | error e => exact hz
  | ok fl =>
    cases fl with
    | ret v =>
      obtain ⟨rfl, hz⟩ := hz
      first
        | exact wpAny_pure (wpAny_pure hz)
        | (wp_walk; exact hz)
    | next => exact hz.elim
    | brk => exact hz.elim
    | cont => exact hz.elim
theorem callK (F : ExcBaseFacts B nid iid base) (hT : ∀ Y : String, bm.contains (.type Y) = base.contains (.type Y))
    {xs : List Value} {kw : List (Str × Value)} {fI : Addr}
    (hC : hp.get? C = some (excClassObj nm q C N bs bm hdct sn sub ab col dd k0 k1 k2 k3 k5 nid))
    (hi : W.Looks (model P w) hp (typeLookup (.ref C) "__init__") (some (.ref fI)))
    (hb : ∀ self, W.Looks (model P w) hp (bindSpecial (.ref fI) self) (.ref fI, [self])) (hl : xs.length ≤ sizeLine)
    (hq : codeAny (model P w) (A.under (.builtin "type.__call__" ⟨.ref C :: xs, kw⟩))
      (.call (.ref fI) ⟨.ref (hp.objs.size + 1) :: xs, kw⟩) (W.InitBack (hp.objs.size + 1) R) ⟨withNew hp C xs, gs, dr, tk, os⟩) :
    codeAny (model P w) A (.call (.ref C) { pos := xs, kw := kw }) R ⟨hp, gs, dr, tk, os⟩ := by
  have g1 := tc_lookup
  have g2 := tc_bind (.ref C)
  have gT : (⟨hp, gs, dr, tk, os⟩ : Shared).TypeIs (.ref C) "type" := ⟨_, hC, rfl⟩
  refine codeAny_of_tree ?_
  show wpAny _ _ (callAny (.ref C) _) _ _ _
  repeat (any_goals (first
    | assumption
    | with_reducible refine wpAny_loadPart_at hC ?_
    | wp_step))
  refine ⟨rfl, ?_⟩
  refine codeAny_call_builtin_at (Code.quiet_builtin _ (by decide +kernel)) entry_typeCall ?_
  refine wpAny_check_type_call_sub hC (typeCallK F hT hC hi hb hl ?_)
  refine codeAny_mono hq fun r z hz => ?_
  cases r with
  | error e => exact hz
  | ok fl => cases fl <;> exact hz
end
end MlE
end PySem

/-! exceptions as values: isinstance, fields, whatever their dict -/
namespace PySem
namespace MlE
open PySem.W PySem.Spec PySem.Calls PyProof.Rows
section
variable {prog : Program} {w : World} {A : Around} {E : Value → Shared → Prop} {s : Shared} {K : Frag} {x D : Addr} {ox : Obj} {od : Option Obj}
theorem findObj_class {C : Addr} {name : Str} {a g : Value} (hc : (clsIn K C).isSome = true)
    (ha : findIn K (.ref C) name = some (some a)) (hg : specialIn K a "__get__" = some (some g)) (ht : takesIn K a = some true) :
    findObj K C od name = some (.bind g a) := by
  obtain ⟨cd, hcd⟩ := Option.isSome_iff_exists.mp hc
  unfold findObj
  simp [hcd, ha, hg, ht]
theorem class_of_exc {Q : Option Value → Shared → Prop} (T : L2.ExcC K D) (X : K.In s.heap) (I : InstAt s.heap x ox D od)
    (h : Q (some (.ref D)) { s with toks := s.toks + 1 }) : wpAny (model prog w) A (getAttr? (.ref x) "__class__") Q E s := by
  obtain ⟨hg, hk, hs, hd, ha, hn, ht, hm⟩ := T
  have cl : (clsIn K D).isSome = true := by
    obtain ⟨cd, hc, _⟩ := any_some hd
    rw [hc] <;> rfl
  have hf : findObj K D od "__class__" = some (.bind (.builtin "getset_descriptor.__get__") (.builtin "object.__class__")) :=
    findObj_class cl ha hn ht
  obtain ⟨hp, gs, dr, tk, os⟩ := s
  have l0 := I.type (M := model prog w)
  have l1 := looks_findIn (M := model prog w) X hg
  have l2 := looks_findIn (M := model prog w) X hk
  have l3 := looks_find (M := model prog w) X I hf
  have lb : Looks (model prog w) hp (isInstance (.ref x) (.type "BaseException")) true :=
    l0.andThen (looks_subIn X hs)
  have n0 : (false && onTheHeap (Value.builtin "BaseException.__getattribute__")) = false := rfl
  have n2 : (Value.builtin "BaseException.__getattribute__" == Value.builtin "object.__getattribute__") = false := by
    decide +kernel
  have n1 : (onTheHeap (Value.ref D) && Value.builtin "BaseException.__getattribute__" == Value.builtin "object.__getattribute__") = false := by
    rw [n2] <;> rfl
  unfold getAttr? getAttrBy? getAttrBy
  refine wpAny_bind (wpAny_mkText (wpAny_bind (wpAny_attempt ?_)))
  refine wpAny_holding (wpAny_bind (l0.at (wpAny_bind (l1.at ?_))))
  show wpAny _ _ (if (onTheHeap (Value.ref D) && Value.builtin "BaseException.__getattribute__" == Value.builtin "object.__getattribute__") = true then _
    else _) _ _ _
  rw [n1, if_neg Bool.false_ne_true]
  unfold getAttrByItsOwn hookBefore
  refine wpAny_bind ?_
  rw [if_pos (show onTheHeap (Value.ref D) = true from rfl)]
  refine l2.at ?_
  refine wpAny_bind (wpAny_attempt ?_)
  refine wpAny_holding ?_
  unfold callGetattribute
  rw [n0, if_neg Bool.false_ne_true]
  unfold boundAndCalled
  rw [PySem.F.excAttr_ValueError.ga.bind (.ref x)]
  refine wpAny_bind (wpAny_pure ?_)
  show wpAny _ _ (call (.builtin "BaseException.__getattribute__") [.ref x, .str "__class__" tk]) _ _ _
  refine wpAny_call ?_
  refine codeAny_call_builtin PySem.F.excAttr_ValueError.ga.plain PySem.F.entry_bexc_ga ?_
  refine @check_slot (model prog w) _ _ ⟨hp, gs, dr, tk + 1, os⟩ "BaseException.__getattribute__" "BaseException" "__getattribute__"
    (.ref x) [.str "__class__" tk] [] _ (by decide +kernel) (by decide +kernel) lb (PySem.F.args_bexc_ga (.ref x) (.str "__class__" tk)) ?_
  unfold Builtin.«object.__getattribute__»
  refine wpAny_bind ?_
  refine wpAny_of_eq (a := ((Value.ref x : Value), [Value.str "__class__" tk])) (by first | rfl | (simp only [slotArgs]; rfl)) ?_
  refine wpAny_bind (wpAny_pure ?_)
  refine wpAny_bind (l0.at (wpAny_bind (l3.at ?_)))
  show wpAny _ _ (holding [Value.builtin "object.__class__"] (call (.builtin "getset_descriptor.__get__")
    [.builtin "object.__class__", .ref x, .ref D]) >>= ret) _ _ _
  refine wpAny_bind (wpAny_holding (wpAny_call ?_))
  refine class_get (s := ⟨hp, gs, dr, tk + 1, os⟩) (ox := ox) (od := od) X I hm ?_
  refine wpAny_pure ?_
  show wpAny _ _ (handedOut (.ref D)) _ _ _
  rw [handedOut_of (v := .ref D) rfl]
  first
    | exact wpAny_pure (wpAny_pure h)
    | exact wpAny_pure h
    | exact wpAny_pure (wpAny_bind (wpAny_pure (wpAny_pure h)))
theorem kitx_excD (T : L2.ExcC K D) : KitX K (.ref x) (.ref D) (fun h => InstAt h x ox D od) where
  ty := fun _ _ _ I => I.type
  it := fun M h X _ => by
    obtain ⟨cd, hc, _⟩ := any_some T.hd
    unfold clsIn at hc
    split at hc
    · rename_i c1 d1 cd1 sl1 ho
      intro A1 Q1 E1 s1 k q
      unfold isType loadHead
      refine wpAny_bind ?_
      exact wpAny_loadPart (k _ _ (X _ _ ho)) (wpAny_pure q)
    · cases hc
  ne := fun h tp dd its n sl X htp => by
    obtain ⟨cd, hc, _⟩ := any_some T.hd
    rw [Bool.eq_false_iff]
    intro q
    obtain rfl : D = tp := Value.ref.inj (beq_iff_eq.mp q)
    unfold clsIn at hc
    split at hc
    · rename_i c1 d1 cd1 sl1 ho
      have z := (X _ _ ho).symm.trans htp
      cases z
    · cases hc
  ca := fun X I k => class_of_exc T X I k
end
end MlE
end PySem

namespace L2
open PySem PySem.Spec PyProof.Rows
/-! ### an exception that is held: tracked, or one of the pins ps -/
abbrev Pin := Addr × Obj
/-- the field table of an exception stands at d -/
def XdAt (H : Hp) (d : Addr) (fs : List (Str × V)) : Prop := H d = some (exd d fs) ∨ H d = some (.xd fs)
/-- at a: an exception of the class at C, its table at d with the fields fs -/
structure EvP (ps : List Pin) (H : Hp) (a C d : Addr) (fs : List (Str × V)) : Prop where
  at_ : H a = some (exo a C (some d)) ∨ ∃ oe : Obj, (a, oe) ∈ ps ∧ oe.cls = .ref C ∧ oe.dict = some d ∧ ∃ vs, oe.data = .fields vs
  tab : XdAt H d fs
theorem EvP.mono {ps qs : List Pin} {H H' : Hp} {a C d : Addr} {fs : List (Str × V)} (e : EvP ps H a C d fs)
    (hp : ∀ p ∈ ps, p ∈ qs) (k : ∀ b o, H b = some o → H' b = some o) : EvP qs H' a C d fs where
  at_ := e.at_.imp (k _ _) fun ⟨oe, h1, h2⟩ => ⟨oe, hp _ h1, h2⟩
  tab := e.tab.imp (k _ _) (k _ _)
section
variable {X : Cx} {pins : List Pin} {σ : St} {H : Hp} {s : Shared}
theorem XdAt.look (I : Inv X pins σ H s) {d : Addr} {fs : List (Str × V)} (x : XdAt H d fs) :
    ∃ mA, s.heap.Ns1 d mA ∧ ∀ f, RelO (fs.lookup f) (mA f) := by
  rcases x with x | x
  · exact exd_at I.hok x
  · exact I.hok d _ x
theorem EvP.look (I : Inv X pins σ H s) {ps : List Pin} (hps : ∀ p ∈ ps, p ∈ X.pn) {a C d : Addr} {fs : List (Str × V)} (e : EvP ps H a C d fs) :
    ∃ oe od mA, PySem.W.InstAt s.heap a oe C (some od) ∧ s.heap.Ns1 d mA ∧ (∀ f, RelO (fs.lookup f) (mA f)) ∧
      ∀ name, PySem.W.lookIn name od = some (mA name) := by
  obtain ⟨mA, hn, hr⟩ := e.tab.look I
  obtain ⟨od, ho, hl⟩ := lookIn_ns hn
  have key : ∃ oe : Obj, s.heap.get? a = some oe ∧ oe.cls = .ref C ∧ oe.dict = some d ∧ ∃ vs, oe.data = .fields vs := by
    rcases e.at_ with h | ⟨oe, hm, h1, h2, h3⟩
    · obtain ⟨t1, z⟩ := exo_at I.hok h
      exact ⟨_, z, rfl, rfl, _, rfl⟩
    · exact ⟨oe, (I.pin (a, oe) (List.mem_append_left _ (hps _ hm))).1, h1, h2, h3⟩
  obtain ⟨oe, z, hc, hd, vs, hv⟩ := key
  refine ⟨oe, od, mA, ⟨z, hc, ?_, ?_⟩, hn, hr, hl⟩
  · unfold PySem.W.notCls
    rw [hv] <;> rfl
  · rw [hd]
    exact ho
end

/-! ### isinstance -/
def rIsEv (K : PySem.W.Frag) (ps : List Pin) : List V → Hp → VK → Prop := fun xs H Q =>
  ∃ (a D d : Addr) (fs : List (Str × V)) (c : V) (u : Value) (b : Bool), xs = [.ref a, c] ∧ EvP ps H a D d fs ∧ ExcC K D ∧
    ClsV c u ∧ PySem.W.kitOne K (.ref D) u = some b ∧ Q (.bl b) H
def rIsEvT (K : PySem.W.Frag) (ps : List Pin) : List V → Hp → VK → Prop := fun xs H Q =>
  ∃ (a D d tp : Addr) (fs : List (Str × V)) (cs : List V) (us : List Value) (b : Bool), xs = [.ref a, .ref tp] ∧ EvP ps H a D d fs ∧
    ExcC K D ∧ H tp = some (.tup cs) ∧ Paired ClsV cs us ∧ PySem.W.kitAny K (.ref D) us = some b ∧ Q (.bl b) H
section
variable {X : Cx} {ps : List Pin}
theorem call_isEv (hps : ∀ p ∈ ps, p ∈ X.pn) : CallR X (.builtin "isinstance") (rIsEv X.K ps) := by
  intro pins s σ H xs us Q I r h
  obtain ⟨a, D, d, fs, c, u, b, rfl, ev, C, k, e, q⟩ := h
  obtain ⟨u1, u2, rfl, r1, r2⟩ := vals2 r
  have e2 := k.eq r2
  subst e2
  obtain rfl : u1 = Value.ref a := r1
  obtain ⟨oe, od, mA, J, _⟩ := ev.look I hps
  exact PySem.W.kia_one (PySem.MlE.kitx_excD C) I.kIn J e (fun z => nomatch z)
    fun tk => ⟨.bl b, H, I.tok tk, rfl, q⟩
theorem call_isEvT (hps : ∀ p ∈ ps, p ∈ X.pn) : CallR X (.builtin "isinstance") (rIsEvT X.K ps) := by
  intro pins s σ H xs us Q I r h
  obtain ⟨a, D, d, tp, fs, cs, ws, b, rfl, ev, C, hT, k, e, q⟩ := h
  obtain ⟨u1, u2, rfl, r1, r2⟩ := vals2 r
  obtain rfl : u2 = Value.ref tp := r2
  obtain rfl : u1 = Value.ref a := r1
  obtain ⟨oe, od, mA, J, _⟩ := ev.look I hps
  obtain ⟨_, its, rv, o, h1, h2, n, h3⟩ := (show ObjOk X.prog X.w H s.heap tp (.tup cs) from I.hok tp _ hT)
  have e3 := ClsV.all k rv
  subst e3
  obtain ⟨oc, od2, dt, sl⟩ := o
  simp only at h2 h3
  subst h2 h3
  exact PySem.W.kia_tup (PySem.MlE.kitx_excD C) I.kIn J h1 e (fun z => nomatch z)
    fun tk => ⟨.bl b, H, I.tok tk, rfl, q⟩
end

/-! ### a field -/
def tEvF (K : PySem.W.Frag) (ps : List Pin) (f : Str) (te : TE) : TE := fun σ H Q => te σ H fun x H1 =>
  ∃ (a D d : Addr) (fs : List (Str × V)) (v : V), x = .ref a ∧ EvP ps H1 a D d fs ∧ XfC K D ∧
    PySem.W.findIn K (.ref D) f = some none ∧ fs.lookup f = some v ∧ Q v H1
theorem pe_evF {X : Cx} {ps : List Pin} {e : Expr} {te : TE} {f : Str} {pos : Pos} (hps : ∀ p ∈ ps, p ∈ X.pn) (he : PE X e te)
    (hb : attributeBase e f X.env (eval e X.env) = eval e X.env := by rfl) : PE X (.Attribute e f pos) (tEvF X.K ps f te) := by
  refine ⟨fun pins s σ H Q I h => ?_⟩
  refine attr_of hb (thn (he.run pins s σ H _ I h) fun u s1 hh => ?_)
  obtain ⟨x, H1, I1, rx, a, D, d, fs, v, rfl, ev, T, hno, l, q⟩ := hh
  obtain rfl : u = Value.ref a := rx
  obtain ⟨oe, od, mA, J, _, hr, hl⟩ := ev.look I1 hps
  obtain ⟨y, hu, ru⟩ := RelO.some_of (v := v) (o := mA f) (by rw [← l]; exact hr f)
  exact HandSPX.exc_get I1.kIn J T.ga T.gg T.exC (PySem.W.findObj_own T.hdC hno rfl (by rw [hl, hu]))
    (handed_of ru) ⟨v, H1, I1.tok _, ru, q⟩

/-! ### C(e, .., k = v, ..) as a value -/
def tMkEv (C : Addr) (n m : Nat) (sp : Sp) (gV : List V → List V → List V) (t tk : TA) : TE := fun σ H Q =>
  t σ H fun vs H1 => tk σ H1 fun zs H2 => vs.length = n ∧ zs.length = m ∧
    ∀ a, H2 a = none → sp (gV (.ref a :: vs) zs) (upd H2 a (exo a C none)) (fun v H3 => v = .non ∧ Q (.ref a) H3) fun _ _ _ => False
section
variable {X : Cx} {CX : CXT} {k n : Nat} {C fI : Addr} {fd : FuncData} {ps ks : List Str} {sp : Sp} {x : Str} {p pos : Pos}
variable {e : Expr} {es : List Expr} {kws : List Keyword} {t tk : TA} {g : List Value → List Value → List Value} {gV : List V → List V → List V}
theorem run_mkEv {pins : List Pin} {σ : St} {H : Hp} {s : Shared} {Q : VK} {us ws : List Value} {vs zs : List V} (T : OexC X.K C)
    (iC : PySem.W.findIn X.K (.ref C) "__init__" = some (some (.ref fI))) (tI : PySem.W.typeIn X.K (.ref fI) = some (.type "function"))
    (F : FnOk X.prog X.w X.K X.mg X.base CX k fI fd ps sp) (hr : Room (k + 1) X.A) (hb : KBn X.K fd ps (n + 1) ks g gV)
    (hx : Passes CX X fun _ _ _ => False) (I : Inv X pins σ H s) (r : Vals vs us) (rz : Vals zs ws) (l1 : vs.length = n)
    (l2 : zs.length = ks.length) (hn : n ≤ 1000)
    (h : ∀ a, H a = none → sp (gV (.ref a :: vs) zs) (upd H a (exo a C none)) (fun v H2 => v = .non ∧ Q (.ref a) H2) fun _ _ _ => False) :
    wpAny (model X.prog X.w) X.A (call (.ref C) us (ks.zip ws)) (EP X pins σ Q) X.xe s := by
  obtain ⟨nm, q, N, bs, bm, sn, sub, ab, col, dd, k0, k1, k2, k3, k5, hC, hbm⟩ := T.cls
  obtain ⟨hp, gs, dr, tk0, os⟩ := s
  have le1 : hp.objs.size ≤ hp.objs.size + 1 := Nat.le_succ _
  have hq := h (hp.objs.size + 1) (I.hok.fresh le1)
  have up : ∀ b o, hp.get? b = some o → (PySem.MlE.withNew hp C us).get? b = some o :=
    fun b o e => Heap.get?_push_of_some _ (Heap.get?_push_of_some _ e)
  have atE : (PySem.MlE.withNew hp C us).get? (hp.objs.size + 1) = some (PySem.HandSPX.excO C hp.objs.size) := by heap_get
  have I2 : Inv X pins σ (upd H (hp.objs.size + 1) (exo (hp.objs.size + 1) C none)) ⟨PySem.MlE.withNew hp C us, gs, dr, tk0, os⟩ :=
    I.laid (t' := tk0) (a := hp.objs.size + 1) (o := exo (hp.objs.size + 1) C none) (h' := PySem.MlE.withNew hp C us) up le1 (exo_ok atE)
  have r1 : Vals (V.ref (hp.objs.size + 1) :: vs) (Value.ref (hp.objs.size + 1) :: us) := .cons rfl r
  have r2 := hb.rel r1 rz
  have e1 : (Value.ref (hp.objs.size + 1) :: us).length = n + 1 := r1.length.symm.trans (congrArg Nat.succ l1)
  have e2 : ws.length = ks.length := rz.length.symm.trans l2
  have hus : us.length ≤ sizeLine := by
    have z := r.length
    rw [sizeLine_eq]
    omega
  refine wpAny_call (PySem.MlE.callK PySem.F.excBase_ValueError (fun Y => PySem.HandSPX.refsVE_contains Y bm hbm)
    (I.kIn _ _ hC) (PySem.W.looks_findIn I.kIn iC) (fun self => PySem.W.bind_fn I.kIn self tI) hus ?_)
  refine codeAny_mono (F.run _ X.stack _ _ ⟨Value.ref (hp.objs.size + 1) :: us, ks.zip ws⟩ (g (Value.ref (hp.objs.size + 1) :: us) ws)
    _ _ (fun _ _ _ => False) (hr.make C us (ks.zip ws)) (I2.env0.make C us (ks.zip ws))
    (hb.to _ (Value.ref (hp.objs.size + 1) :: us) ws I2.kIn e1 e2) r2 hq) fun r s1 h1 => ?_
  cases r with
  | error er => exact hx pins σ _ _ er s1 I2 h1
  | ok fl =>
    cases fl with
    | ret u =>
      obtain ⟨v, H3, I3, rv, ev, q3⟩ := I2.after h1
      subst ev
      exact ⟨rv, ⟨V.ref (hp.objs.size + 1), H3, I3, rfl, q3⟩⟩
    | next => exact False.elim h1
    | brk => exact False.elim h1
    | cont => exact False.elim h1
/-- C(e, ..), values alone -/
theorem pe_mkEv (T : OexC X.K C) (iC : PySem.W.findIn X.K (.ref C) "__init__" = some (some (.ref fI)))
    (tI : PySem.W.typeIn X.K (.ref fI) = some (.type "function")) (FI : FnOk X.prog X.w X.K X.mg X.base CX k fI fd ps sp) (hr : Room (k + 1) X.A)
    (hb : KBn X.K fd ps (n + 1) [] g gV) (hx : Passes CX X fun _ _ _ => False) (hn : n ≤ 1000) (hg : Gl X x) (hm : X.mg x = some (.ref C)) (ha : PA X (e :: es) t)
    (hdb : (x == ("__debug__" : Str)) = false := by decide) (he : starEach (e :: es) X.env = (false, eval e X.env) :: starEach es X.env := by rfl)
    (hpl : (backTo pos (starEach es X.env)).any (·.1) = false := by rfl) : PE X (.Call (.Name x p) (e :: es) [] pos) (tMkEv C n 0 sp gV t tNil) := by
  refine ⟨fun pins s σ H Q I h => ?_⟩
  refine wpAny_Call_Name_kw (ld_glob I hg hm ?_ hdb)
  refine PySem.W.callWith_K (h₀ := X.base) I.ok.mod.kin T.kC ?_ he hpl
  refine thn (ha.run pos pins s σ H _ I h) fun us s1 ⟨vs, H1, I1, r, l1, l2, q⟩ => ⟨I1.kIn, ?_⟩
  exact run_mkEv (ks := []) (ws := []) (zs := []) T iC tI FI hr hb hx I1 r .nil l1 rfl hn q
/-- C(k = v, ..) -/
theorem pe_mkEvK (T : OexC X.K C) (iC : PySem.W.findIn X.K (.ref C) "__init__" = some (some (.ref fI)))
    (tI : PySem.W.typeIn X.K (.ref fI) = some (.type "function")) (FI : FnOk X.prog X.w X.K X.mg X.base CX k fI fd ps sp) (hr : Room (k + 1) X.A)
    (hb : KBn X.K fd ps 1 ks g gV) (hx : Passes CX X fun _ _ _ => False) (hg : Gl X x) (hm : X.mg x = some (.ref C)) (hkw : PK X kws tk)
    (hall : (backToKw pos (keywordEach kws X.env)).all (·.1.isSome) = true := by rfl)
    (hks : (backToKw pos (keywordEach kws X.env)).filterMap (·.1) = ks := by rfl) (hdb : (x == ("__debug__" : Str)) = false := by decide)
    (hpl : ((backTo pos (starEach [] X.env)).any (·.1) || (backToKw pos (keywordEach kws X.env)).any (·.1.isNone)) = false := by rfl) :
    PE X (.Call (.Name x p) [] kws pos) (tMkEv C 0 ks.length sp gV tNil tk) := by
  refine ⟨fun pins s σ H Q I h => ?_⟩
  refine wpAny_Call_Name_kw (ld_glob I hg hm ?_ hdb)
  refine PySem.W.callWith_KW0 (h₀ := X.base) I.ok.mod.kin T.kC hall ?_ hpl
  refine thn (hkw.run pos pins s σ H _ I h) fun ws s2 ⟨zs, H2, I2, rz, l1, l2, q2⟩ => ⟨I2.kIn, ?_⟩
  rw [hks]
  exact run_mkEv (us := []) (vs := []) T iC tI FI hr hb hx I2 .nil rz rfl l2 (Nat.zero_le _) q2
/-- C(e, .., k = v, ..) -/
theorem pe_mkEvM (T : OexC X.K C) (iC : PySem.W.findIn X.K (.ref C) "__init__" = some (some (.ref fI)))
    (tI : PySem.W.typeIn X.K (.ref fI) = some (.type "function")) (FI : FnOk X.prog X.w X.K X.mg X.base CX k fI fd ps sp) (hr : Room (k + 1) X.A)
    (hb : KBn X.K fd ps (n + 1) ks g gV) (hx : Passes CX X fun _ _ _ => False) (hn : n ≤ 1000) (hg : Gl X x) (hm : X.mg x = some (.ref C))
    (ha : PA X (e :: es) t) (hkw : PK X kws tk) (hall : (backToKw pos (keywordEach kws X.env)).all (·.1.isSome) = true := by rfl)
    (hks : (backToKw pos (keywordEach kws X.env)).filterMap (·.1) = ks := by rfl) (hdb : (x == ("__debug__" : Str)) = false := by decide)
    (he : starEach (e :: es) X.env = (false, eval e X.env) :: starEach es X.env := by rfl)
    (hpl : ((backTo pos (starEach (e :: es) X.env)).any (·.1) || (backToKw pos (keywordEach kws X.env)).any (·.1.isNone)) = false := by rfl) :
    PE X (.Call (.Name x p) (e :: es) kws pos) (tMkEv C n ks.length sp gV t tk) := by
  refine ⟨fun pins s σ H Q I h => ?_⟩
  refine wpAny_Call_Name_kw (ld_glob I hg hm ?_ hdb)
  refine PySem.W.callWith_KW (h₀ := X.base) I.ok.mod.kin T.kC hall ?_ hpl he
  refine thn (ha.run pos pins s σ H _ I h) fun us s1 ⟨vs, H1, I1, r, q⟩ => ?_
  refine thn (hkw.run pos pins s1 σ H1 _ I1 q) fun ws s2 ⟨zs, H2, I2, rz, l1, l2, q2⟩ => ⟨I2.kIn, ?_⟩
  rw [hks]
  exact run_mkEv T iC tI FI hr hb hx I2 r rz l1 l2 hn q2
end
end L2

namespace L2
open PySem PySem.Spec PyProof.Rows
theorem Vals.rev : ∀ {xs : List V} {us : List Value}, Vals xs us → Vals xs.reverse us.reverse
  | _, _, .nil => .nil
  | x :: xs, u :: us, .cons r t => by
    rw [List.reverse_cons, List.reverse_cons]
    exact (Vals.rev t).append (.cons r .nil)
section
variable {K : PySem.W.Frag} {x qual : Str} {params : Arguments} {body : List Stmt} {scope : Scope} {f : Addr} {fd : FuncData} {ps : List Str}
/-- a def without defaults, called by n values and the keywords ks -/
theorem FunD.kbn0 (F : FunD K x qual params body scope [] [] f fd) (n : Nat) (ks : List Str) (g : {α : Type} → List α → List α → List α)
    (hrel : ∀ {vs zs : List V} {us ws : List Value}, Vals vs us → Vals zs ws → Vals (g vs zs) (g us ws))
    (h : ∀ (kV doc pm : Value) (an : Option Addr) (cdv ct : Value) (us ws : List Value), us.length = n → ws.length = ks.length →
      bindArgs (PySem.W.fnOf x qual params body scope .none kV doc pm an cdv ct) ⟨us, ks.zip ws⟩ = pure (ps.zip (g us ws))) :
    KBn K fd ps n ks (fun us ws => g us ws) (fun vs zs => g vs zs) := by
  obtain ⟨oc, od, dV, kV, doc, pm, an, cdv, ct, osl, rfl, lk, hcd, hD, hK⟩ := F.ex
  rcases hD with ⟨_, rfl⟩ | ⟨e, _⟩
  · exact ⟨fun s us ws X l1 l2 => .of_eq (h kV doc pm an cdv ct us ws l1 l2), fun r1 r2 => hrel r1 r2⟩
  · exact absurd rfl e
end
theorem visP {N P : List Str} {sc : Scope} (S : FnScope N P sc) {y : Str} (hy : y ∈ P) : Vis sc y := by
  rcases S.par y hy with e | e
  · exact .inl e
  · exact .inr (.inl e)
/-- a name that means nothing to the machine -/
structure Plain (f : Str) : Prop where
  a : (f == ("__debug__" : Str)) = false
  b : (f == ("__classdict__" : Str)) = false
/-! ### self.f = f -/
abbrev iB1 (f : Str) (q1 q2 q3 q4 : Pos) : List Stmt := [.Assign [.Attribute (.Name "self" q1) f q2] (.Name f q3) q4]
abbrev iB2 (f g : Str) (q1 q2 q3 q4 r1 r2 r3 r4 : Pos) : List Stmt :=
  [.Assign [.Attribute (.Name "self" q1) f q2] (.Name f q3) q4, .Assign [.Attribute (.Name "self" r1) g r2] (.Name g r3) r4]
/-- the heap with a new exception at a, of the class at C, its table at d -/
def withEv (H : Hp) (a C d : Addr) (fs : List (Str × V)) : Hp := upd (upd H d (exd d fs)) a (exo a C (some d))
def spI1 (C : Addr) (f : Str) : Sp := fun vs H Q _ => ∃ (a : Addr) (v : V), vs = [.ref a, v] ∧ H a = some (exo a C none) ∧
  ∀ dx, H dx = none → dx ≠ a → Q .non (withEv H a C dx [(f, v)])
def spI2 (C : Addr) (f g : Str) : Sp := fun vs H Q _ => ∃ (a : Addr) (v w : V), vs = [.ref a, v, w] ∧ H a = some (exo a C none) ∧
  ∀ dx, H dx = none → dx ≠ a → Q .non (withEv H a C dx [(g, w), (f, v)])
section
variable {P : Program} {w : World} {K : PySem.W.Frag} {mg : Str → Option Value} {base : Heap} {C fI : Addr} {fd : FuncData} {qual f g : Str} {pa : Arguments} {bd : List Stmt} {sc : Scope}
theorem ok_init1 {q1 q2 q3 q4 : Pos} (F : FunD K "__init__" qual pa bd sc [] [] fI fd) (S : FnScope ["self", f] ["self", f] sc) (hb : bd = iB1 f q1 q2 q3 q4)
    (T : OexC K C) (no : PySem.W.findIn K (.ref C) f = some none) (pf : Plain f) : FnOk P w K mg base CX0 1 fI fd ["self", f] (spI1 C f) := by
  refine F.ok S (fun vs H Q E h => ?_) (fun cdv A outer s H vs Q E hr h => ?_)
  · obtain ⟨a, v, rfl, _⟩ := h
    rfl
  · subst hb
    refine ⟨_, pss_one (ps_ost (pe_var (i := 0) rfl (visP S List.mem_cons_self)) (pe_var (i := 1) rfl (visP S (List.mem_cons_of_mem _ List.mem_cons_self)) (hd := pf.a) (hcd := pf.b))), ?_⟩
    obtain ⟨a, v, rfl, ha, k⟩ := h
    exact ⟨_, rfl, _, rfl, a, C, rfl, T, no, .inl ⟨ha, fun dx n ne => k dx n ne⟩⟩
theorem ok_init2 {q1 q2 q3 q4 r1 r2 r3 r4 : Pos} (F : FunD K "__init__" qual pa bd sc [] [] fI fd) (S : FnScope ["self", f, g] ["self", f, g] sc) (hb : bd = iB2 f g q1 q2 q3 q4 r1 r2 r3 r4)
    (T : OexC K C) (no : PySem.W.findIn K (.ref C) f = some none) (no2 : PySem.W.findIn K (.ref C) g = some none) (pf : Plain f) (pg : Plain g) : FnOk P w K mg base CX0 1 fI fd ["self", f, g] (spI2 C f g) := by
  refine F.ok S (fun vs H Q E h => ?_) (fun cdv A outer s H vs Q E hr h => ?_)
  · obtain ⟨a, v, w, rfl, _⟩ := h
    rfl
  · subst hb
    have v0 := visP S (y := "self") List.mem_cons_self
    have v1 := visP S (y := f) (List.mem_cons_of_mem _ List.mem_cons_self)
    have v2 := visP S (y := g) (List.mem_cons_of_mem _ (List.mem_cons_of_mem _ List.mem_cons_self))
    refine ⟨_, pss_cons (ps_ost (pe_var (i := 0) rfl v0) (pe_var (i := 1) rfl v1 (hd := pf.a) (hcd := pf.b))) (pss_one (ps_ost (pe_var (i := 0) rfl v0) (pe_var (i := 2) rfl v2 (hd := pg.a) (hcd := pg.b)))), ?_⟩
    obtain ⟨a, v, w, rfl, ha, k⟩ := h
    refine ⟨_, rfl, _, rfl, a, C, rfl, T, no, .inl ⟨ha, fun dx n ne => ?_⟩⟩
    refine ⟨_, rfl, _, rfl, a, C, rfl, T, no2, .inr ⟨dx, [(f, v)], upd_same, ?_, by show 1 ≤ 900; decide, ?_⟩⟩
    · rw [upd_ne ne, upd_same]
    · have z := k dx n ne
      have e : upd (upd (upd H dx (exd dx [(f, v)])) a (exo a C (some dx))) dx (exd dx [(g, w), (f, v)]) = withEv H a C dx [(g, w), (f, v)] := by
        funext b
        unfold withEv
        by_cases h1 : b = dx
        · subst h1
          rw [upd_same, upd_ne ne, upd_same]
        · rw [upd_ne h1]
          by_cases h2 : b = a
          · rw [h2, upd_same, upd_same]
          · rw [upd_ne h2, upd_ne h1, upd_ne h2, upd_ne h1]
      exact e ▸ z
end
end L2

/-! defs that are called within an except suite and outside of one alike -/
namespace L2
open PySem PySem.Spec PyProof.Rows
open L2H (RoomH Hot1 PinOk)
/-- nothing is handled, or p is -/
def WarmA (A : Around) (p : Pin) : Prop := A.handled = none ∨ Hot1 A p
/-- no exception leaves -/
abbrev noE : XK := fun _ _ _ => False
structure FnP (P : Program) (w : World) (K : PySem.W.Frag) (mg : Str → Option Value) (base : Heap) (k : Nat) (f : Addr) (fd : FuncData)
    (ps : List Str) (p : Pin) (sp : Sp) : Prop where
  len : ∀ vs H Q E, sp vs H Q E → vs.length = ps.length
  run : ∀ (A : Around) (outer : List Env) (s : Shared) (H : Hp) (args : Args) (us : List Value) (vs : List V) (Q : VK), RoomH k A → A.guards = some [] → WarmA A p →
    PinOk outer H s p → Env0 P w K mg base A outer s H → BindsTo s fd args (ps.zip us) → Vals vs us → sp vs H Q noE →
    codeAny (model P w) A (.call (.ref f) args) (CR CX0 outer P w H s Q noE) s
/-- the body's context -/
abbrev cxP (P : Program) (w : World) (K : PySem.W.Frag) (mg : Str → Option Value) (base : Heap) (N : List Str) (qual : Str) (scope : Scope)
    (f : Addr) (cd : Value) (A : Around) (outer : List Env) (s : Shared) (H : Hp) (p : Pin) : Cx :=
  L2H.cxH CX0 P w K mg base N qual scope f cd A outer s H noE p
/-- what is known of a body's context -/
structure WarmC (X : Cx) (p : Pin) : Prop where
  mem : p ∈ X.pn
  gd : X.A.guards = some []
  warm : WarmA X.A p
section
variable {P : Program} {w : World} {K : PySem.W.Frag} {mg : Str → Option Value} {base : Heap} {k : Nat} {f : Addr} {fd : FuncData} {ps N : List Str}
variable {p : Pin} {sp : Sp} {x qual : Str} {pa : Arguments} {bd : List Stmt} {sc : Scope}
theorem FunD.okP (F : FunD K x qual pa bd sc [] [] f fd) (S : FnScope N ps sc) (len : ∀ vs H Q E, sp vs H Q E → vs.length = ps.length)
    (hbody : ∀ (cdv : Value) (A : Around) (outer : List Env) (s : Shared) (H : Hp) (vs : List V) (Q : VK), WarmC (cxP P w K mg base N qual sc f cdv A outer s H p) p →
      RoomH k (A.deeper (envOfC qual sc s.heap.objs.size f cdv)) → sp vs H Q noE →
      ∃ t, PSs (cxP P w K mg base N qual sc f cdv A outer s H p) bd t ∧ t { nx := fun _ H' => Q .non H', rt := Q } (start N vs) H) :
    FnP P w K mg base (k + 1) f fd ps p sp := by
  obtain ⟨oc, od, dV, kV, doc, pm, an, cdv, ct, osl, rfl, lk, hcd, _, _⟩ := F.ex
  refine ⟨len, fun A outer s H args us vs Q hr hgd hw hpin e0 hb r hsp => ?_⟩
  have hlen := len _ _ _ _ hsp
  have kin : K.In s.heap := e0.mod.kin.keeps fun b o e => (e0.bs b o e).1
  have lim : s.heap.NoLimit := e0.mod.nolimit.keeps fun b o e => (e0.bs b o e).1
  have kinds : ∀ y ∈ ps.zip us, sc.names.lookup y.1 = some .local ∨
      (sc.names.lookup y.1 = some .cell ∧ ((cellsFrom (s.heap.objs.size + 1) sc.names []).lookup y.1).isSome = true) := by
    rintro ⟨n, v⟩ hy
    rcases S.par n (List.of_mem_zip hy).1 with q | q
    · exact .inl q
    · exact .inr ⟨q, PySem.W.cellsFrom_some _ _ _ (.inl q)⟩
  refine codeAny_call_function hr.depth (kin _ _ lk) rfl S.co S.gen rfl (PySem.W.codeRec_of kin hcd) (hb _ _ _ _ ?_)
  refine wpAny_newFunctionEnv_cells S.kind kinds fun env he s1 z => ?_
  subst he
  refine ⟨lim.keeps z.toInCall.keep, codeAny_func ?_⟩
  have I : Inv (cxP P w K mg base N qual sc f cdv A outer s H p) [] (start N vs) H s1 := L2H.inv_startH S hpin e0 hlen r z
  have wc : WarmC (cxP P w K mg base N qual sc f cdv A outer s H p) p :=
    ⟨List.mem_cons_self, hgd, hw⟩
  obtain ⟨t, ht, hq⟩ := hbody cdv A outer s H vs Q wc (hr.deeper _) hsp
  have fin : ∀ {σ1 : St} {H1 : Hp} {v : V} {u : Value} {s2 : Shared}, Inv (cxP P w K mg base N qual sc f cdv A outer s H p) [] σ1 H1 s2 → RelV v u → Q v H1 →
      CE outer P w H s Q u s2 := fun {σ1 H1 v u s2} J rv q => ⟨v, H1, J.os, J.bare, J.base, J.hok, rv, q⟩
  refine wpAny_mono (ht.run [] s1 (start N vs) H _ I hq) (fun fl s2 hs => ?_) fun e s2 hs => hs
  cases fl with
  | ret u =>
    obtain ⟨v, σ1, H1, J, rv, q⟩ := hs
    exact fin J rv q
  | next =>
    obtain ⟨σ1, H1, J, q⟩ := hs
    exact fin (v := V.non) (u := Value.none) J rfl q
  | brk =>
    obtain ⟨_, _, _, q⟩ := hs
    exact q.elim
  | cont =>
    obtain ⟨_, _, _, q⟩ := hs
    exact q.elim
/-- a def that is called where no repr is under way -/
structure FnG (P : Program) (w : World) (K : PySem.W.Frag) (mg : Str → Option Value) (base : Heap) (k : Nat) (f : Addr) (fd : FuncData)
    (ps : List Str) (sp : Sp) : Prop where
  len : ∀ vs H Q E, sp vs H Q E → vs.length = ps.length
  run : ∀ (A : Around) (outer : List Env) (s : Shared) (H : Hp) (args : Args) (us : List Value) (vs : List V) (Q : VK), Room k A → A.guards = some [] →
    Env0 P w K mg base A outer s H → BindsTo s fd args (ps.zip us) → Vals vs us → sp vs H Q noE →
    codeAny (model P w) A (.call (.ref f) args) (CR CX0 outer P w H s Q noE) s
theorem FnG.mono {j : Nat} (F : FnG P w K mg base j f fd ps sp) (h : j ≤ k) : FnG P w K mg base k f fd ps sp :=
  ⟨F.len, fun A outer s H args us vs Q hr => F.run A outer s H args us vs Q (hr.mono h)⟩
/-- outside of a suite: any object of the written part may be the pin -/
theorem FnP.ok {a : Addr} {o : Obj} (F : FnP P w K mg base k f fd ps (a, o) sp) (ho : K.lookup a = some o) (hc : ∀ v, o.data ≠ .cell v) :
    FnG P w K mg base k f fd ps sp := by
  refine ⟨F.len, fun A outer s H args us vs Q hr hgd e0 hb r hsp => ?_⟩
  have hz : base.get? a = some o := e0.mod.kin _ _ ho
  have pin : PinOk outer H s (a, o) := by
    refine ⟨(e0.bs a o hz).1, (e0.bs a o hz).2, fun hm => ?_, hc⟩
    have z := (e0.funs.mem hm).1
    rw [hz] at z
    cases z
  exact F.run A outer s H args us vs Q (L2H.roomH_of hr) hgd (.inl hr.hd) pin e0 hb r hsp
theorem FunD.okG (F : FunD K x qual pa bd sc [] [] f fd) (S : FnScope N ps sc) (len : ∀ vs H Q E, sp vs H Q E → vs.length = ps.length)
    (hbody : ∀ (cdv : Value) (A : Around) (outer : List Env) (s : Shared) (H : Hp) (vs : List V) (Q : VK), (A.deeper (envOfC qual sc s.heap.objs.size f cdv)).guards = some [] →
      Room k (A.deeper (envOfC qual sc s.heap.objs.size f cdv)) → sp vs H Q noE →
      ∃ t, PSs (cxOf CX0 P w K mg base N qual sc f cdv A outer s H noE) bd t ∧ t { nx := fun _ H' => Q .non H', rt := Q } (start N vs) H) :
    FnG P w K mg base (k + 1) f fd ps sp := by
  obtain ⟨oc, od, dV, kV, doc, pm, an, cdv, ct, osl, rfl, lk, hcd, _, _⟩ := F.ex
  refine ⟨len, fun A outer s H args us vs Q hr hgd e0 hb r hsp => ?_⟩
  have hlen := len _ _ _ _ hsp
  have kin : K.In s.heap := e0.mod.kin.keeps fun b o e => (e0.bs b o e).1
  have lim : s.heap.NoLimit := e0.mod.nolimit.keeps fun b o e => (e0.bs b o e).1
  have kinds : ∀ y ∈ ps.zip us, sc.names.lookup y.1 = some .local ∨
      (sc.names.lookup y.1 = some .cell ∧ ((cellsFrom (s.heap.objs.size + 1) sc.names []).lookup y.1).isSome = true) := by
    rintro ⟨n, v⟩ hy
    rcases S.par n (List.of_mem_zip hy).1 with q | q
    · exact .inl q
    · exact .inr ⟨q, PySem.W.cellsFrom_some _ _ _ (.inl q)⟩
  refine codeAny_call_function hr.depth (kin _ _ lk) rfl S.co S.gen rfl (PySem.W.codeRec_of kin hcd) (hb _ _ _ _ ?_)
  refine wpAny_newFunctionEnv_cells S.kind kinds fun env he s1 z => ?_
  subst he
  refine ⟨lim.keeps z.toInCall.keep, codeAny_func ?_⟩
  have I : Inv (cxOf CX0 P w K mg base N qual sc f cdv A outer s H noE) [] (start N vs) H s1 := inv_start S hr.hd e0 hlen r z
  obtain ⟨t, ht, hq⟩ := hbody cdv A outer s H vs Q hgd (hr.deeper _) hsp
  have fin : ∀ {σ1 : St} {H1 : Hp} {v : V} {u : Value} {s2 : Shared}, Inv (cxOf CX0 P w K mg base N qual sc f cdv A outer s H noE) [] σ1 H1 s2 → RelV v u → Q v H1 →
      CE outer P w H s Q u s2 := fun {σ1 H1 v u s2} J rv q => ⟨v, H1, J.os, J.bare, J.base, J.hok, rv, q⟩
  refine wpAny_mono (ht.run [] s1 (start N vs) H _ I hq) (fun fl s2 hs => ?_) fun e s2 hs => hs
  cases fl with
  | ret u =>
    obtain ⟨v, σ1, H1, J, rv, q⟩ := hs
    exact fin J rv q
  | next =>
    obtain ⟨σ1, H1, J, q⟩ := hs
    exact fin (v := V.non) (u := Value.none) J rfl q
  | brk =>
    obtain ⟨_, _, _, q⟩ := hs
    exact q.elim
  | cont =>
    obtain ⟨_, _, _, q⟩ := hs
    exact q.elim
end
section
variable {X : Cx} {k : Nat} {f : Addr} {fd : FuncData} {ps : List Str} {p : Pin} {sp : Sp} {x : Str} {np pos : Pos} {e : Expr} {es : List Expr} {t : TA}
theorem pe_callP (F : FnP X.prog X.w X.K X.mg X.base k f fd ps p sp) (hw : WarmC X p) (hr : RoomH k X.A) (hg : Gl X x) (hm : X.mg x = some (.ref f))
    (hk : PySem.W.keepIn X.K (.ref f) = true) (hb : Binds X.K fd ps []) (ha : PA X (e :: es) t) (hdb : (x == ("__debug__" : Str)) = false := by decide)
    (he : starEach (e :: es) X.env = (false, eval e X.env) :: starEach es X.env := by rfl) (hpl : (backTo pos (starEach es X.env)).any (·.1) = false := by rfl) :
    PE X (.Call (.Name x np) (e :: es) [] pos) (tCall sp [] noE t) := by
  refine ⟨fun pins s σ H Q I h => ?_⟩
  refine wpAny_Call_Name_kw (ld_glob I hg hm ?_ hdb)
  refine PySem.W.callWith_K (h₀ := X.base) I.ok.mod.kin hk ?_ he hpl
  refine thn (ha.run pos pins s σ H _ I h) fun us s1 ⟨vs, H1, I1, r, q⟩ => ⟨I1.kIn, ?_⟩
  have q : sp vs H1 Q noE := by
    have z : sp (vs ++ []) H1 Q noE := q
    rwa [List.append_nil] at z
  have hl : (us ++ []).length = ps.length := by
    rw [List.append_nil, ← r.length]
    exact F.len _ _ _ _ q
  have bb := hb s1 us I1.kIn hl
  rw [List.append_nil] at bb
  obtain ⟨g1, g2, g3, g4, g5⟩ := I1.pin p (List.mem_append_left _ hw.mem)
  have pin : PinOk X.stack H1 s1 p := ⟨g1, g2, fun hm => by
    rcases List.mem_cons.mp (I1.stkSub _ hm) with z | z
    · exact g3 z
    · exact g4 z, g5⟩
  refine wpAny_call (codeAny_mono (F.run X.A X.stack s1 H1 ⟨us, []⟩ us vs Q hr hw.gd hw.warm pin I1.env0 bb r q) fun rs s2 h2 => ?_)
  cases rs with
  | error er => exact False.elim h2
  | ok fl =>
    cases fl with
    | ret u => exact I1.after h2
    | next => exact h2.elim
    | brk => exact h2.elim
    | cont => exact h2.elim
theorem pe_callG (F : FnG X.prog X.w X.K X.mg X.base k f fd ps sp) (hgd : X.A.guards = some []) (hr : Room k X.A) (hg : Gl X x) (hm : X.mg x = some (.ref f))
    (hk : PySem.W.keepIn X.K (.ref f) = true) (hb : Binds X.K fd ps []) (ha : PA X (e :: es) t) (hdb : (x == ("__debug__" : Str)) = false := by decide)
    (he : starEach (e :: es) X.env = (false, eval e X.env) :: starEach es X.env := by rfl) (hpl : (backTo pos (starEach es X.env)).any (·.1) = false := by rfl) :
    PE X (.Call (.Name x np) (e :: es) [] pos) (tCall sp [] noE t) := by
  refine ⟨fun pins s σ H Q I h => ?_⟩
  refine wpAny_Call_Name_kw (ld_glob I hg hm ?_ hdb)
  refine PySem.W.callWith_K (h₀ := X.base) I.ok.mod.kin hk ?_ he hpl
  refine thn (ha.run pos pins s σ H _ I h) fun us s1 ⟨vs, H1, I1, r, q⟩ => ⟨I1.kIn, ?_⟩
  have q : sp vs H1 Q noE := by
    have z : sp (vs ++ []) H1 Q noE := q
    rwa [List.append_nil] at z
  have hl : (us ++ []).length = ps.length := by
    rw [List.append_nil, ← r.length]
    exact F.len _ _ _ _ q
  have bb := hb s1 us I1.kIn hl
  rw [List.append_nil] at bb
  refine wpAny_call (codeAny_mono (F.run X.A X.stack s1 H1 ⟨us, []⟩ us vs Q hr hgd I1.env0 bb r q) fun rs s2 h2 => ?_)
  cases rs with
  | error er => exact False.elim h2
  | ok fl =>
    cases fl with
    | ret u => exact I1.after h2
    | next => exact h2.elim
    | brk => exact h2.elim
    | cont => exact h2.elim
end
end L2

/-! the law's call, its def one that is called where no repr is under way -/
namespace L2
open PySem PySem.Spec PyProof.Rows
/-- the script's object -/
def scriptO (vs : List Value) : Obj := { cls := .type "list", data := .seq vs.toArray }
/-- what is tracked at the call: at most the script, at a -/
structure Entry (P : Program) (w : World) (K : PySem.W.Frag) (a : Addr) (H : Hp) (h : Heap) : Prop where
  only : Only H
  ok : HOk P w H h
  at_ : ∀ b, H b ≠ none → b = a
  own : H a ≠ none → K.lookup a = none
section
variable {P : Program} {w : World} {K : PySem.W.Frag} {mg mb : Str → Option Value} {k : Nat} {fa a : Addr} {fd : FuncData} {x : Str}
variable {sp : Sp} {z : Shared} {vs : List Value} {ns : List Int} {H : Hp}
theorem Entry.free (e : Entry P w K a H z.heap) (ha : z.heap.get? a = some (scriptO vs)) {b : Addr} (hb : b ≠ a) : H b = none := by
  cases q : H b with
  | none => rfl
  | some u => exact absurd (e.at_ b (by rw [q]; exact fun y => nomatch y)) hb
theorem Entry.base (e : Entry P w K a H z.heap) (KX : K.In z.heap) : K.In (hidT z.heap H) := by
  intro b o h
  refine hidT_get (KX b o h) ?_
  cases q : H b with
  | none => rfl
  | some u =>
    have y : H b ≠ none := by
      rw [q]
      exact fun y => nomatch y
    have i := e.at_ b y
    subst i
    rw [e.own y] at h
    cases h
theorem Entry.keepNs (e : Entry P w K a H z.heap) (ha : z.heap.get? a = some (scriptO vs)) {b : Addr} {m : Str → Option Value} (n : z.heap.Ns b m) : (hidT z.heap H).Ns b m := by
  obtain ⟨o, es, ep, g, d, r⟩ := n
  refine ⟨o, es, ep, hidT_get g (e.free ha fun i => ?_), d, r⟩
  rw [i, ha] at g
  cases g
  cases d
theorem law_coreG (e : Entry P w K a H z.heap) (KX : K.In z.heap) (hns : z.heap.Ns mainGlobals mg) (hb : z.heap.Ns builtinsNs mb)
    (hbb : ∀ y : Str, y ≠ "__name__" → mb y = bootBuiltins y) (hlim : z.heap.NoLimit) (hg : z.gens = #[])
    (ha : z.heap.get? a = some (scriptO vs)) (hr : Room k callerA)
    (F : ∀ base : Heap, K.In base → base.Ns mainGlobals mg → FnG P w K mg base k fa fd [x] sp)
    (hbind : ∀ (s : Shared) (u : Value), BindsTo s fd ⟨[u], []⟩ [(x, u)])
    (hsp : sp [.ref a] H (fun v _ => v = .bl true) noE) :
    codeAny (model P w) callerA (.call (.ref fa) ⟨[.ref a], []⟩)
      (fun r t => r = .ok (.ret (.bool true)) ∧ OldK z.heap t.heap ∧ t.os = z.os ∧ AllBare t.gens) z := by
  have kb := e.base KX
  have main := e.keepNs ha hns
  obtain ⟨mc, c1, c2⟩ := hlim
  have env : Env0 P w K mg (hidT z.heap H) callerA [] z H := by
    refine ⟨rfl, ⟨kb, main, ⟨mb, e.keepNs ha hb, hbb⟩, ⟨mc, e.keepNs ha c1, c2⟩⟩, fun b o y => of_hidT y, ?_, trivial, (fun b y => nomatch y), e.ok, .of_eq hg⟩
    exact Nat.le_of_eq (hidT_size _ _)
  have run := (F _ kb main).run callerA [] z H ⟨[.ref a], []⟩ [.ref a] [.ref a] _ hr rfl env (hbind z (.ref a)) (.cons rfl .nil) hsp
  refine codeAny_mono run fun r t h => ?_
  rcases r with er | fl
  · exact h.elim
  · cases fl with
    | ret u =>
      obtain ⟨v, H2, os, bare, un, ok2, ru, rfl⟩ := h
      have eu : u = Value.bool true := ru
      refine ⟨by rw [eu], OldK.of_keep fun b o y => ?_, os, bare⟩
      by_cases i : H b = none
      · exact un.keep b o y i (fun m => nomatch m) fun m => nomatch m
      · rcases e.only b with j | ⟨ob, ys, j⟩
        · exact absurd j i
        · have o1 := (e.ok b _ j).1
          rw [o1] at y
          cases y
          exact (ok2 b _ (un.frzs b _ _ j)).1
    | next => exact h.elim
    | brk => exact h.elim
    | cont => exact h.elim
/-- the script as one that is tracked -/
def trackO (a : Addr) (vs : List Value) (ns : List Int) : Hp := upd (fun _ => none) a (.frz (scriptO vs) (.lst (ns.map V.int)))
theorem law_callG (KX : K.In z.heap) (hns : z.heap.Ns mainGlobals mg) (hb : z.heap.Ns builtinsNs mb)
    (hbb : ∀ y : Str, y ≠ "__name__" → mb y = bootBuiltins y) (hlim : z.heap.NoLimit) (hg : z.gens = #[])
    (ha : z.heap.get? a = some (scriptO vs)) (hi : IntsAre vs ns) (hl : ns.length ≤ sizeLine) (hr : Room k callerA)
    (F : ∀ base : Heap, K.In base → base.Ns mainGlobals mg → FnG P w K mg base k fa fd [x] sp)
    (hbind : ∀ (s : Shared) (u : Value), BindsTo s fd ⟨[u], []⟩ [(x, u)])
    (hsp : ∀ H : Hp, SqL K H a (ns.map V.int) → sp [.ref a] H (fun v _ => v = .bl true) noE) :
    codeAny (model P w) callerA (.call (.ref fa) ⟨[.ref a], []⟩)
      (fun r t => r = .ok (.ret (.bool true)) ∧ OldK z.heap t.heap ∧ t.os = z.os ∧ AllBare t.gens) z := by
  have rel := vals_ints hi
  cases q : K.lookup a with
  | some o =>
    have g := KX a o q
    rw [ha] at g
    cases g
    have e : Entry P w K a (fun _ => none) z.heap := ⟨fun _ => .inl rfl, (fun b u y => nomatch y), fun b y => absurd rfl y, fun y => absurd rfl y⟩
    refine law_coreG e KX hns hb hbb hlim hg ha hr F hbind (hsp _ (.inr ⟨_, vs.toArray, _, q, rfl, rfl, rfl, ?_, by simpa using rel⟩))
    rw [List.size_toArray, hi.length]
    exact hl
  | none =>
    have e : Entry P w K a (trackO a vs ns) z.heap := by
      refine Entry.mk (fun b => ?_) (fun b u y => ?_) (fun b y => ?_) fun _ => q
      · by_cases i : b = a
        · exact .inr ⟨_, _, by rw [i]; exact upd_same⟩
        · exact .inl (upd_ne i)
      · by_cases i : b = a
        · subst i
          have y2 : some (HO.frz (scriptO vs) (.lst (ns.map V.int))) = some u := upd_same.symm.trans y
          cases y2
          refine ⟨ha, ?_, vs, _, rel, ha⟩
          rw [List.length_map]
          exact hl
        · have y2 : (none : Option HO) = some u := (upd_ne i).symm.trans y
          cases y2
      · by_cases i : b = a
        · exact i
        · exact absurd (upd_ne i) y
    exact law_coreG e KX hns hb hbb hlim hg ha hr F hbind (hsp _ (.inl (.inr ⟨scriptO vs, upd_same⟩)))
end
/-- the end of a law whose def is called where no repr is under way -/
theorem walk_G {l : PySem.W.OpenLaw} {n k : Nat} {q : Program} {loose : List Str} {XP : (Str → Option Value) → Heap → Prop} {YP : World → Heap → Prop} {d : DefRec} {x : Str}
    (hn : l.most = some n) (hn2 : n ≤ sizeLine) (hdf : d.params.defaults = []) (hr : Room k callerA)
    (F : ∀ (w : World) (mg : Str → Option Value) (fa : Addr) (h : Heap), YP w h → h.Ns mainGlobals mg → mg d.name = some (.ref fa) →
      ∃ (K : PySem.W.Frag) (fd : FuncData) (sp : Sp), K.In h ∧ (∀ (s : Shared) (u : Value), BindsTo s fd ⟨[u], []⟩ [(x, u)]) ∧
        (∀ (H : Hp) (a : Addr) (ns : List Int), SqL K H a (ns.map V.int) → sp [.ref a] H (fun v _ => v = .bl true) noE) ∧
        ∀ base : Heap, K.In base → base.Ns mainGlobals mg → FnG l.prog w K mg base k fa fd [x] sp) :
    PySem.W.WalkO q loose XP YP l.row.toRowW d [] (fun f vs => PySem.call f vs) := by
  refine Att.attach_call hn hdf fun w s0 z mg mb fa o pm cd doc a vs ns G Y ho hd hcd hmg hobj hints hlen hg => ?_
  obtain ⟨K, fd, sp, KX, hb, hsp, hF⟩ := F w mg fa _ Y G.T.g hmg
  exact law_callG KX G.T.g G.T.b G.T.builtins G.T.nolimit hg hobj hints (Nat.le_trans hlen hn2) hr hF hb fun H => hsp H a ns
end L2

/-! a head's facts: a check of one's own, the classes of exceptions, sys -/
namespace Ml
open PySem PySem.Spec PyProof.Rows L2 He
/-- the written part: what the module's names reach in n steps, and sys.modules -/
def partG (g : Addr → Option Obj) (n : Nat) : PySem.W.Frag := frG g (sysModules :: asD g n)
def seeM (ck : PySem.W.Frag → Bool) (fa : List Fa) (fn : List DefD) (K : PySem.W.Frag) : AlD := ((obsD fa fn K).1 && ck K, (obsD fa fn K).2)
def hookM (n : Nat) (fa : List Fa) (fn : List DefD) (ck : PySem.W.Frag → Bool) : PySem.W.Hook where
  α := AlD
  obs := fun s => seeM ck fa fn (partG s.heap.get? n)
  val := fun _ => valD fn
  says := fun _ h => ∃ K : PySem.W.Frag, K.In h ∧ seeM ck fa fn K = valD fn
  of := fun _ _ e => ⟨_, frG_in, e⟩
  keeps := fun _ _ _ ⟨K, hK, c⟩ k => ⟨K, PySem.W.Frag.In.keeps hK k, c⟩
theorem see_eq {n : Nat} {fa : List Fa} {fn : List DefD} {ck : PySem.W.Frag → Bool} {g : Addr → Option Obj} {s : Shared} (h : ∀ a, g a = s.heap.get? a) : seeM ck fa fn (partG g n) = (hookM n fa fn ck).obs s := by
  have e : g = s.heap.get? := funext h
  rw [e] <;> rfl
theorem see_ok {ck : PySem.W.Frag → Bool} {fa : List Fa} {fn : List DefD} {K : PySem.W.Frag} (h : seeM ck fa fn K = valD fn) : SaysD fa fn K ∧ ck K = true := by
  have e1 : ((obsD fa fn K).1 && ck K) = true := congrArg (fun z : AlD => z.1) h
  have e2 : (obsD fa fn K).2 = fn.map DefD.val := congrArg (fun z : AlD => z.2) h
  obtain ⟨c1, c2⟩ := ba e1
  exact ⟨Prod.ext c1 e2, c2⟩
/-! ### a class of exceptions with an __init__ of its own -/
def oexB (K : PySem.W.Frag) (C : Addr) : Bool := match K.lookup C with
  | some ⟨.type "type", _, .cls cd, sl⟩ => (match cd.mro, sl.toList with
    | .ref C' :: bm, [_, _, _, _, some (.builtin n), _] => C' == C && (n == "ValueError.__new__" && (!cd.hasDel && (cd.hasDict && PySem.HandSPX.refsVE bm)))
    | _, _ => false)
  | _ => false
theorem oexB_ok {K : PySem.W.Frag} {C : Addr} (q : oexB K C = true) :
    ∃ nm qn N bs bm sn sub ab col dd k0 k1 k2 k3 k5, K.lookup C = some (excClassObj nm qn C N bs bm true sn sub ab col dd k0 k1 k2 k3 k5 "ValueError.__new__") ∧ PySem.HandSPX.refsVE bm = true := by
  unfold oexB at q
  split at q
  case h_2 => cases q
  rename_i dd cd sl ho
  split at q
  case h_2 => cases q
  rename_i C' bm k0 k1 k2 k3 n k5 hm hs
  obtain ⟨q1, q⟩ := ba q
  obtain ⟨q2, q⟩ := ba q
  obtain ⟨q3, q⟩ := ba q
  obtain ⟨q4, q5⟩ := ba q
  have e1 : C' = C := eq_of_beq q1
  have e2 : n = "ValueError.__new__" := eq_of_beq q2
  obtain ⟨nm, bs, mro, ns, qn, hd, sn, sub, ab, col, del⟩ := cd
  have e3 : del = false := by
    cases del with
    | false => rfl
    | true => cases q3
  have e4 : hd = true := q4
  have e5 : mro = .ref C' :: bm := hm
  subst e1 e2 e3 e4 e5
  have e6 : sl = #[k0, k1, k2, k3, some (.builtin "ValueError.__new__"), k5] := by
    obtain ⟨l⟩ := sl
    exact congrArg Array.mk hs
  subst e6
  exact ⟨nm, qn, ns, bs, bm, sn, sub, ab, col, dd, k0, k1, k2, k3, k5, ho, q5⟩
def bO (K : PySem.W.Frag) (C : Addr) (m : Str) (b : String) : Bool := decide (PySem.W.findIn K (.ref C) m = some (some (.builtin b)))
/-- all of it -/
def clsB (K : PySem.W.Frag) (C L : Addr) : Bool :=
  oexB K C && (bO K C "__setattr__" "object.__setattr__" && (decide (PySem.W.subIn K (.ref C) (.type "BaseException") = some true) && (decide (PySem.W.typeIn K (.ref C) = some (.type "type")) && (PySem.W.keepIn K (.ref C) &&
  (bO K C "__getattribute__" "BaseException.__getattribute__" && (decide (PySem.W.findIn K (.ref C) "__getattr__" = some none) && (PySem.W.hasDictIn K C && (bO K C "__class__" "object.__class__" && (decide (PySem.W.mroIn K C (.type "object") = some true) &&
  (decide (PySem.W.findIn K (.ref C) "__init__" = some (some (.ref (ma K C "__init__")))) && (decide (PySem.W.typeIn K (.ref (ma K C "__init__")) = some (.type "function")) && (decide (PySem.W.kitOne K (.ref C) (.ref L) = some true) &&
  (decide (PySem.W.kitOne K (.ref C) (.type "ValueError") = some true) && decide (PySem.W.exmOne K (.ref C) (.ref L) = some true))))))))))))))
/-- what all exceptions rest on -/
def gsB (K : PySem.W.Frag) : Bool := decide (PySem.W.specialIn K (.builtin "object.__class__") "__get__" = some (some (.builtin "getset_descriptor.__get__"))) && decide (PySem.W.takesIn K (.builtin "object.__class__") = some true)
structure ClsI (K : PySem.W.Frag) (C L : Addr) : Prop where
  T : OexC K C
  E : ExcC K C
  X : XfC K C
  iC : PySem.W.findIn K (.ref C) "__init__" = some (some (.ref (ma K C "__init__")))
  tI : PySem.W.typeIn K (.ref (ma K C "__init__")) = some (.type "function")
  lost : PySem.W.kitOne K (.ref C) (.ref L) = some true
  val : PySem.W.kitOne K (.ref C) (.type "ValueError") = some true
  exm : PySem.W.exmOne K (.ref C) (.ref L) = some true
theorem clsB_ok {K : PySem.W.Frag} {C L : Addr} (g : gsB K = true) (h : clsB K C L = true) : ClsI K C L := by
  obtain ⟨g1, g2⟩ := ba g
  obtain ⟨h1, h⟩ := ba h
  obtain ⟨h2, h⟩ := ba h
  obtain ⟨h3, h⟩ := ba h
  obtain ⟨h4, h⟩ := ba h
  obtain ⟨h5, h⟩ := ba h
  obtain ⟨h6, h⟩ := ba h
  obtain ⟨h7, h⟩ := ba h
  obtain ⟨h8, h⟩ := ba h
  obtain ⟨h9, h⟩ := ba h
  obtain ⟨h10, h⟩ := ba h
  obtain ⟨h11, h⟩ := ba h
  obtain ⟨h12, h⟩ := ba h
  obtain ⟨h13, h⟩ := ba h
  obtain ⟨h14, h15⟩ := ba h
  have e3 := of_decide_eq_true h3
  exact ⟨⟨oexB_ok h1, of_decide_eq_true h2, e3, of_decide_eq_true h4, h5⟩,
    ⟨of_decide_eq_true h6, of_decide_eq_true h7, e3, h8, of_decide_eq_true h9, of_decide_eq_true g1, of_decide_eq_true g2, of_decide_eq_true h10⟩,
    ⟨of_decide_eq_true h6, of_decide_eq_true h7, e3, h8⟩, of_decide_eq_true h11, of_decide_eq_true h12, of_decide_eq_true h13, of_decide_eq_true h14, of_decide_eq_true h15⟩
end Ml

/-! a head's facts, with getters of properties -/
namespace Ml
open PySem PySem.Spec PyProof.Rows L2 He
/-- the getter of the property m of the class at C -/
def gtA (K : PySem.W.Frag) (C : Addr) (m : Str) : Addr := match PySem.W.recIn K (ma K C m) "property" with
  | some (.ref x :: _) => x
  | _ => 0
def prB (K : PySem.W.Frag) (C : Addr) (m : Str) : Bool := decide (PySem.W.findIn K (.ref C) m = some (some (.ref (ma K C m)))) && (decide (PySem.W.specialIn K (.ref (ma K C m)) "__get__" = some (some (.builtin "property.__get__"))) &&
  (decide (PySem.W.takesIn K (.ref (ma K C m)) = some true) && (match PySem.W.recIn K (ma K C m) "property" with
    | some (.ref x :: _) => true
    | _ => false)))
theorem prB_ok {K : PySem.W.Frag} {C : Addr} {m : Str} (h : prB K C m = true) : PropOf K C m (ma K C m) (gtA K C m) := by
  obtain ⟨h1, h⟩ := ba h
  obtain ⟨h2, h⟩ := ba h
  obtain ⟨h3, h4⟩ := ba h
  refine ⟨of_decide_eq_true h1, of_decide_eq_true h2, of_decide_eq_true h3, ?_⟩
  unfold gtA
  cases q : PySem.W.recIn K (ma K C m) "property" with
  | none => rw [q] at h4; cases h4
  | some l =>
    rw [q] at h4
    match l, h4 with
    | .ref x :: r, _ => exact ⟨r, rfl⟩
/-- what is seen: the check of one's own, the defs, and the getters fp -/
def seeP (ck : PySem.W.Frag → Bool) (fa : List Fa) (fn : List DefD) (fp : List He5.DefA) (K : PySem.W.Frag) : AlD := (((obsD fa fn K).1 && ck K) && fp.all fun d => d.ok K, (obsD fa fn K).2 ++ fp.map fun d => He5.fnA K (d.at_ K))
def valP (fn : List DefD) (fp : List He5.DefA) : AlD := (true, fn.map DefD.val ++ fp.map He5.DefA.val)
def hookP (n : Nat) (fa : List Fa) (fn : List DefD) (fp : List He5.DefA) (ck : PySem.W.Frag → Bool) : PySem.W.Hook where
  α := AlD
  obs := fun s => seeP ck fa fn fp (partG s.heap.get? n)
  val := fun _ => valP fn fp
  says := fun _ h => ∃ K : PySem.W.Frag, K.In h ∧ seeP ck fa fn fp K = valP fn fp
  of := fun _ _ e => ⟨_, frG_in, e⟩
  keeps := fun _ _ _ ⟨K, hK, c⟩ k => ⟨K, PySem.W.Frag.In.keeps hK k, c⟩
theorem seeP_eq {n : Nat} {fa : List Fa} {fn : List DefD} {fp : List He5.DefA} {ck : PySem.W.Frag → Bool} {g : Addr → Option Obj} {s : Shared} (h : ∀ a, g a = s.heap.get? a) : seeP ck fa fn fp (partG g n) = (hookP n fa fn fp ck).obs s := by
  have e : g = s.heap.get? := funext h
  rw [e] <;> rfl
theorem seeP_ok {ck : PySem.W.Frag → Bool} {fa : List Fa} {fn : List DefD} {fp : List He5.DefA} {K : PySem.W.Frag} (h : seeP ck fa fn fp K = valP fn fp) :
    SaysD fa fn K ∧ ck K = true ∧ ∀ d ∈ fp, ∃ fd, FunD K d.name d.qual d.params d.body d.scope (d.dvs K) (d.kws K) (d.at_ K) fd := by
  have e1 : (((obsD fa fn K).1 && ck K) && fp.all fun d => d.ok K) = true := congrArg (fun z : AlD => z.1) h
  have e2 : (obsD fa fn K).2 ++ (fp.map fun d => He5.fnA K (d.at_ K)) = fn.map DefD.val ++ fp.map He5.DefA.val := congrArg (fun z : AlD => z.2) h
  obtain ⟨c1, c3⟩ := ba e1
  obtain ⟨c1, c2⟩ := ba c1
  have ll : (obsD fa fn K).2.length = (fn.map DefD.val).length := by
    unfold obsD
    rw [List.length_map, List.length_map]
  obtain ⟨e3, e4⟩ := List.append_inj e2 ll
  refine ⟨Prod.ext c1 e3, c2, fun d hd => ?_⟩
  obtain ⟨i, hi, e⟩ := List.mem_iff_getElem.mp hd
  have e5 : (fp.map fun d => He5.fnA K (d.at_ K))[i]? = (fp.map He5.DefA.val)[i]? := by rw [e4]
  rw [List.getElem?_map, List.getElem?_map, List.getElem?_eq_getElem hi, e] at e5
  exact He5.DefA.funD (Option.some.inj e5) (List.all_eq_true.mp c3 d hd)
end Ml

namespace L2
open PySem PySem.Spec PyProof.Rows
abbrev tys : List String := ["NoneType", "bool", "int", "str", "list", "tuple", "dict"]
end L2
namespace K10
open PySem PySem.Spec PyProof.Rows L2 Ml
def top (i : Nat) : Stmt := PySem.Challenge.pw_maplost_k10_arrows_by_own_pairs.main.body.getD i (.Pass ⟨0, 0, 0, 0⟩)
abbrev bnames : List Str := ["type", "int", "list", "tuple", "len", "range", "all", "sum", "abs", "sorted", "min", "max", "repr", "isinstance", "bool", "str", "ord", "any", "set", "enumerate", "reversed"]
end K10

namespace K10
open PySem PySem.Spec PyProof.Rows L2 Ml
/-- the __init__ of the class at i -/
def ini (i : Nat) : Stmt := match top i with
  | .ClassDef _ _ _ (s :: _) _ _ _ _ _ _ _ => s
  | s => s
def dCn (i : Nat) (x qual : Str) : He.DefD := ⟨(x, some "__init__"), "__init__", qual, defArgs (ini i), defBody (ini i), defScope (ini i), [], []⟩
def dFn (i : Nat) (x : Str) : He.DefD := ⟨(x, none), x, x, defArgs (top i), defBody (top i), defScope (top i), [], []⟩
def fnA : List He.DefD := [dCn 2 "InvalidFounds" "InvalidFounds.__init__", dCn 3 "InvalidIndex" "InvalidIndex.__init__", dFn 5 "is_below", dFn 6 "is_list", dFn 7 "is_tuple", dFn 8 "are_different", dFn 12 "is_name", dFn 13 "is_text", dFn 14 "is_line", dFn 15 "are_lines", dFn 18 "is_founds", dFn 19 "are_owns", dFn 20 "check_founds", dFn 22 "turned_lines", dFn 23 "check_readers", dFn 24 "turned"]
def fnB : List He.DefD := [dFn 25 "arrows", dFn 26 "shown_arrows", dFn 28 "_law_cell", dFn 29 "_law_box", dFn 30 "_law_take", dFn 31 "_law_mixed", dFn 32 "_law_names", dFn 33 "_law_lines", dFn 34 "_law_log", dFn 35 "_law_founds", dFn 36 "_law_turned", dFn 37 "_law_arrows", dFn 38 "_law_same", dFn 39 "_law_told", dFn 40 "_law_pair_right", dFn 41 "_law_odd_index"]
def fnC : List He.DefD := [dFn 42 "_law_odd_founds", dFn 43 "_law_refused", dFn 44 "_law_right", dFn 45 "law"]
def fn : List He.DefD := fnA ++ (fnB ++ (fnC))
def fp : List He5.DefA := []
def globA : List Str := ["LostError", "InvalidFounds", "InvalidIndex", "is_below", "is_list", "is_tuple", "are_different", "is_name", "is_text", "is_line", "are_lines", "is_founds", "are_owns", "check_founds", "turned_lines", "check_readers"]
def globB : List Str := ["turned", "arrows", "shown_arrows", "_law_cell", "_law_box", "_law_take", "_law_mixed", "_law_names", "_law_lines", "_law_log", "_law_founds", "_law_turned", "_law_arrows", "_law_same", "_law_told", "_law_pair_right"]
def globC : List Str := ["_law_odd_index", "_law_odd_founds", "_law_refused", "_law_right", "law"]
def glob : List Str := globA ++ (globB ++ (globC))
def free : List Str := bnames
def fa : List He.Fa := .int "MOST_READERS" 12 :: .int "NAME_LENGTH" 8 :: .int "TEXT_LENGTH" 40 :: (glob.map He.Fa.glo ++ free.map He.Fa.free)
def errs : List Str := ["InvalidFounds", "InvalidIndex"]
/-- what else the head is asked -/
def ck (K : PySem.W.Frag) : Bool := gsB K && (errs.all (fun x => clsB K (He.ga K x) (He.ga K "LostError")) && (errs.all (fun x => decide (PySem.W.findIn K (.ref (He.ga K x)) "given" = some none)) &&
  (errs.all (fun x => errs.all fun y => decide (PySem.W.exmOne K (.ref (He.ga K x)) (.ref (He.ga K y)) = some (decide (x = y)))) && (tys.all (fun t => decide (PySem.W.kitOne K (.type t) (.type "list") = some (decide (t = "list")))) && (K.lookup sysModules).isSome))))
abbrev R : PySem.W.OpenRow := PySem.W.OpenLaw.row PySem.Challenge.rw_maplost_k10_arrows_by_own_pairs
abbrev hk : PySem.W.Hook := hookP 5 fa fn fp ck
def ob (s : PySem.W.SharedT) : He.AlD := seeP ck fa fn fp (partG (HandSHeadRun.getT s) 5)
theorem ob_eq (s : PySem.W.SharedT) : ob s = hk.obs s.abs := seeP_eq (HandSHeadRun.getT_eq s)
def looseA : List Str := ["_wall", "NAME_LENGTH", "TEXT_LENGTH", "MOST_READERS", "LostError", "InvalidFounds", "InvalidIndex", "is_below", "is_list", "is_tuple", "are_different", "is_name", "is_text", "is_line", "are_lines", "is_founds"]
def looseB : List Str := ["are_owns", "check_founds", "turned_lines", "check_readers", "turned", "arrows", "shown_arrows", "_law_cell", "_law_box", "_law_take", "_law_mixed", "_law_names", "_law_lines", "_law_log", "_law_founds", "_law_turned"]
def looseC : List Str := ["_law_arrows", "_law_same", "_law_told", "_law_pair_right", "_law_odd_index", "_law_odd_founds", "_law_refused", "_law_right"]
abbrev looseN : List Str := looseA ++ (looseB ++ (looseC))
end K10

namespace K10
open PySem PySem.Spec PyProof.Rows L2 Ml
theorem run (w : World) : HandSHeadRun.RunEq R (PySem.W.view R.prog [45]) hk ob 20000 looseN w := by
  intro os
  kernel_rfl
end K10

/-! x in o, len(o), o == x, o != x: o an instance of a class of the text -/
namespace PySem.W
open PySem PySem.Calls PyProof.Rows Builtin
section
variable {prog : Program} {w : World} {A A₀ : Around} {E : Value → Shared → Prop} {s : Shared} {K : Frag} {x C L f : Addr} {h₀ : Heap} {m : Str → Option Value} {ox : Obj} {od : Option Obj} {name : Str} {b tb : Value}
/-- != by the text's own == -/
theorem ne_K {Q : Value → Shared → Prop} (hu : A.units + 8 < cLine) (X : K.In s.heap) (I : InstAt s.heap x ox C od) (hb : Looks (model prog w) s.heap (typeOf b) tb) (hn : notFirst K C tb = true)
    (hne : findIn K (.ref C) "__ne__" = some (some (.builtin "object.__ne__"))) (hob : subIn K (.ref C) (.type "object") = some true)
    (hs : findIn K (.ref C) "__eq__" = some (some (.ref f))) (hf : isFn K (.ref f) = true)
    (h : wpAny (model prog w) A.in1 (call (.ref f) [.ref x, b]) (fun v s' => ∃ c, v = .bool c ∧ Q (.bool (!c)) s') E s) : wpAny (model prog w) A (richCompare .NotEq (.ref x) b) Q E s := by
  have sub : Looks (model prog w) s.heap (isInstance (.ref x) (.type "object")) true := I.type.andThen (looks_subIn X hob)
  have body : ∀ {R : Fin → Shared → Prop}, wpAny (model prog w) A.in1 (call (.ref f) [.ref x, b]) (fun v s' => ∃ c, v = .bool c ∧ R (.done (.ret (.bool (!c)))) s') E s →
      wpAny (model prog w) A.in1 (Builtin.«object.__ne__» ⟨[.ref x, b], []⟩) R E s := by
    intro R h
    unfold Builtin.«object.__ne__»
    refine wpAny_bind (wpAny_of_eq (a := ((Value.ref x : Value), [b])) (by first | rfl | (simp only [slotArgs]; rfl)) ?_)
    show wpAny _ _ (cRoomFor _ _ >>= _) _ _ _
    refine wpAny_bind (wpAny_cRoomFor (by show A.units + 1 < cLine; omega) ?_)
    refine wpAny_bind (m := callSpecialIfBound? (.ref x) (Str.ofString "__eq__") [b]) (ifBound_K X I hs hf (wpAny_mono h (fun v s' hv => ?_) fun _ _ e => e))
    obtain ⟨c, rfl, q⟩ := hv
    show wpAny _ _ (truthy (.bool c) >>= _) _ _ _
    exact wpAny_bind (wpAny_truthy_bool (by first | exact wpAny_pure q | exact q))
  have slot : wpAny (model prog w) A (call (.builtin "object.__ne__") [.ref x, b]) (fun v s' => ∃ c, v = .bool c ∧ Q (.bool c) s') E s := by
    refine wpAny_call (codeAny_call_builtin (by decide +kernel) F.cmpEntry_ne (@check_slot (model prog w) _ _ s "object.__ne__" "object" "__ne__" (.ref x) [b] [] _ F.cmpKind_ne F.cmpSplit_ne sub (F.cmpArgs_ne _ _) (body (wpAny_mono h (fun v s' hv => ?_) fun _ _ e => e))))
    obtain ⟨c, rfl, q⟩ := hv
    exact ⟨c, rfl, _, rfl, q⟩
  have one : wpAny (model prog w) A (tryCompare (.ref x) "__ne__" b) (fun r s' => ∃ v, r = some v ∧ Q v s') E s := by
    unfold tryCompare
    refine wpAny_bind (m := callSpecialIfBound? (.ref x) _ [b]) ?_
    simp only [callSpecialIfBound?, bindSpecialIfBound?]
    refine wpAny_holding (wpAny_bind (wpAny_bind (wpAny_bind (I.type.here ((looks_findIn X hne).here ?_)))))
    have bnd : bindSpecial (.builtin "object.__ne__") (.ref x) = pure (.builtin "object.__ne__", [.ref x]) := by kernel_rfl
    have fin : wpAny (model prog w) A (call (.builtin "object.__ne__") ([.ref x] ++ [b]) >>= fun v => pure (some v)) (fun r s' => wpAny (model prog w) A (match r with | some .notImplemented | none => pure none | some v => pure (some v)) (fun r s' => ∃ v, r = some v ∧ Q v s') E s') E s := by
      refine wpAny_bind (wpAny_mono slot (fun v s' hv => ?_) fun _ _ e => e)
      obtain ⟨c, rfl, q⟩ := hv
      exact wpAny_pure (wpAny_pure ⟨_, rfl, q⟩)
    simp only [bnd]
    refine wpAny_bind (wpAny_askSetting (wpAny_ite ?_))
    split
    · exact wpAny_bind (wpAny_pure (wpAny_pure (by exact fin)))
    · exact wpAny_tryCatch (wpAny_bind (wpAny_pure (wpAny_pure (by exact fin))))
  unfold richCompare
  simp only [oneThing_ref]
  refine wpAny_holding (wpAny_bind (wpAny_cRoomFor (by omega) ?_))
  refine wpAny_bind (I.type.here (wpAny_bind (hb.here ?_)))
  split
  · rename_i q
    have e : subIn K tb (.ref C) = some false := by
      rcases Bool.or_eq_true_iff.mp hn with e | e
      · rw [beq_iff_eq.mp e] at q; simp at q
      · exact beq_iff_eq.mp e
    refine wpAny_bind ((looks_subIn X e).here ?_)
    simp only [Bool.false_eq_true, if_false]
    refine wpAny_bind (wpAny_mono one (fun r s' z => ?_) fun _ _ e => e)
    obtain ⟨v, rfl, hq⟩ := z
    exact wpAny_pure hq
  · refine wpAny_bind (wpAny_pure ?_)
    simp only [Bool.false_eq_true, if_false]
    refine wpAny_bind (wpAny_mono one (fun r s' z => ?_) fun _ _ e => e)
    obtain ⟨v, rfl, hq⟩ := z
    exact wpAny_pure hq
end
end PySem.W
namespace L2
open PySem PySem.Spec PyProof.Rows
section
variable {X : Cx} {CX : CXT} {k : Nat} {f C : Addr} {fd : FuncData} {ps : List Str} {sp : Sp}
theorem call_vals (F : FnOk X.prog X.w X.K X.mg X.base CX k f fd ps sp) (hb : Binds X.K fd ps []) (hx : Passes CX X noE) {A : Around} (hr : Room k A) (hA : A.frames = X.A.frames)
    {pins : List (Addr × Obj)} {s : Shared} {σ : St} {H : Hp} {vs : List V} {us : List Value} {Q : VK} (I : Inv X pins σ H s) (r : Vals vs us) (h : sp vs H Q noE) :
    wpAny (model X.prog X.w) A (call (.ref f) us) (EP X pins σ Q) X.xe s := by
  have e0 : Env0 X.prog X.w X.K X.mg X.base A X.stack s H := by
    have e := I.env0
    exact ⟨by rw [hA]; exact e.frames, e.mod, e.bs, e.bsz, e.funs, e.frf, e.hok, e.bare⟩
  have hl := F.len _ _ _ _ h
  refine wpAny_call (codeAny_mono (F.run A X.stack s H ⟨us, []⟩ us vs Q noE hr e0 (by
    have := hb s us I.kIn (by rw [List.append_nil, ← r.length]; exact hl)
    rwa [List.append_nil] at this) r h) fun r s' hq => ?_)
  cases r with
  | error e => exact hx pins σ H s e s' I hq
  | ok fl =>
    cases fl with
    | ret w => exact I.after hq
    | next => exact False.elim hq
    | brk => exact False.elim hq
    | cont => exact False.elim hq
/-- what answers a bool -/
abbrev blQ (Q : VK) (g : Bool → Bool) : VK := fun r H' => ∃ b, r = .bl b ∧ Q (.bl (g b)) H'
def rInO (C : Addr) (sp : Sp) (g : Bool → Bool) : R2 := fun x y H Q => ∃ o dx fs, y = .ref o ∧ H o = some (.ins C dx fs) ∧ sp [.ref o, x] H (blQ Q g) noE
theorem op_inO (F : FnOk X.prog X.w X.K X.mg X.base CX k f fd ps sp) (hb : Binds X.K fd ps []) (hx : Passes CX X noE) (hr : Room k X.A)
    (hs : PySem.W.findIn X.K (.ref C) "__contains__" = some (some (.ref f))) (hf : PySem.W.isFn X.K (.ref f) = true) : OpR X (compareOp .In) (rInO C sp id) := by
  intro pins s σ H x y v u Q I rx ry h
  obtain ⟨o, dx, fs, rfl, ho, q⟩ := h
  obtain rfl : u = Value.ref o := ry
  obtain ⟨mA, J, _⟩ := ins_get I.hok ho
  obtain ⟨od, J, _⟩ := J.look
  obtain ⟨m, hF⟩ := I.fr
  refine PySem.W.in_K hF I.ok.mod.kin J hs hf (wpAny_mono (call_vals F hb hx hr rfl I (.cons (F := RelV) (a := V.ref o) rfl (.cons rx .nil)) q) (fun r s' z => ?_) fun _ _ z => z)
  obtain ⟨v, H', I', rv, b, rfl, q⟩ := z
  obtain rfl : r = Value.bool b := rv
  exact wpAny_truthy_bool ⟨.bl b, H', I', rfl, q⟩
theorem op_notInO (F : FnOk X.prog X.w X.K X.mg X.base CX k f fd ps sp) (hb : Binds X.K fd ps []) (hx : Passes CX X noE) (hr : Room k X.A)
    (hs : PySem.W.findIn X.K (.ref C) "__contains__" = some (some (.ref f))) (hf : PySem.W.isFn X.K (.ref f) = true) : OpR X (compareOp .NotIn) (rInO C sp not) := by
  intro pins s σ H x y v u Q I rx ry h
  obtain ⟨o, dx, fs, rfl, ho, q⟩ := h
  obtain rfl : u = Value.ref o := ry
  obtain ⟨mA, J, _⟩ := ins_get I.hok ho
  obtain ⟨od, J, _⟩ := J.look
  obtain ⟨m, hF⟩ := I.fr
  refine PySem.W.notIn_K hF I.ok.mod.kin J hs hf (wpAny_mono (call_vals F hb hx hr rfl I (.cons (F := RelV) (a := V.ref o) rfl (.cons rx .nil)) q) (fun r s' z => ?_) fun _ _ z => z)
  obtain ⟨v, H', I', rv, b, rfl, q⟩ := z
  obtain rfl : r = Value.bool b := rv
  exact wpAny_truthy_bool ⟨.bl (!b), H', I', rfl, q⟩
/-- len(o) -/
theorem call_lenO (F : FnOk X.prog X.w X.K X.mg X.base CX k f fd ps sp) (hb : Binds X.K fd ps []) (hx : Passes CX X noE) (hr : Room (k + 1) X.A)
    (hs : PySem.W.findIn X.K (.ref C) "__len__" = some (some (.ref f))) (hf : PySem.W.isFn X.K (.ref f) = true) :
    CallR X (.builtin "len") (fun xs H Q => ∃ o dx fs, xs = [.ref o] ∧ H o = some (.ins C dx fs) ∧ sp [.ref o] H (fun r H' => ∃ n : Int, r = .int n ∧ 0 ≤ n ∧ n < 2 ^ 63 ∧ Q (.int n) H') noE) := by
  intro pins s σ H xs us Q I r h
  obtain ⟨o, dx, fs, rfl, ho, q⟩ := h
  obtain ⟨u, rfl, ru⟩ := vals1 r
  obtain rfl : u = Value.ref o := ru
  obtain ⟨mA, J, _⟩ := ins_get I.hok ho
  obtain ⟨od, J, _⟩ := J.look
  obtain ⟨m, hF⟩ := I.fr
  refine PySem.W.len_K hF I.ok.mod.kin J hs hf (wpAny_mono (call_vals F hb hx hr.in1 rfl I (.cons (F := RelV) (a := V.ref o) rfl .nil) q) (fun r s' z => ?_) fun _ _ z => z)
  obtain ⟨v, H', I', rv, n, rfl, h0, h1, q⟩ := z
  obtain ⟨t, rfl⟩ : ∃ t, r = Value.int n t := rv
  exact ⟨⟨h0, h1⟩, .int n, H', I'.tok _, ⟨_, rfl⟩, q⟩
/-- == and != of such an object and anything whose class is known -/
def rEqO (K : PySem.W.Frag) (C : Addr) (sp : Sp) (g : Bool → Bool) : R2 := fun x y H Q => ∃ o dx fs, x = .ref o ∧ H o = some (.ins C dx fs) ∧
  ((∃ t, TyX K H y t ∧ PySem.W.notFirst K C t = true) ∨ ∃ o' dx' fs', y = .ref o' ∧ H o' = some (.ins C dx' fs')) ∧ sp [.ref o, y] H (blQ Q g) noE
theorem eq_looks {pins : List (Addr × Obj)} {s : Shared} {σ : St} {H : Hp} {y : V} {u : Value} (I : Inv X pins σ H s) (ry : RelV y u)
    (h : (∃ t, TyX X.K H y t ∧ PySem.W.notFirst X.K C t = true) ∨ ∃ o' dx' fs', y = .ref o' ∧ H o' = some (.ins C dx' fs')) :
    ∃ t, PySem.W.Looks (model X.prog X.w) s.heap (typeOf u) t ∧ PySem.W.notFirst X.K C t = true := by
  rcases h with ⟨t, ty, n⟩ | ⟨o', dx', fs', rfl, ho'⟩
  · obtain ⟨P, kx, hp, _⟩ := kit_of I ry ty
    exact ⟨t, kx.ty _ _ I.kIn hp, n⟩
  · obtain rfl : u = Value.ref o' := ry
    obtain ⟨mA, J, _⟩ := ins_get I.hok ho'
    obtain ⟨od, J, _⟩ := J.look
    exact ⟨_, J.type, by simp [PySem.W.notFirst]⟩
theorem op_eqO (F : FnOk X.prog X.w X.K X.mg X.base CX k f fd ps sp) (hb : Binds X.K fd ps []) (hx : Passes CX X noE) (hr : Room (k + 1) X.A)
    (hs : PySem.W.findIn X.K (.ref C) "__eq__" = some (some (.ref f))) (hf : PySem.W.isFn X.K (.ref f) = true) : OpR X (compareOp .Eq) (rEqO X.K C sp id) := by
  intro pins s σ H x y v u Q I rx ry h
  obtain ⟨o, dx, fs, rfl, ho, hy, q⟩ := h
  obtain rfl : v = Value.ref o := rx
  obtain ⟨t, L, n⟩ := eq_looks I ry hy
  obtain ⟨mA, J, _⟩ := ins_get I.hok ho
  obtain ⟨od, J, _⟩ := J.look
  obtain ⟨m, hF⟩ := I.fr
  refine PySem.W.cmp_K (op := .Eq) hr.units0 hF I.ok.mod.kin J L n hs hf (wpAny_mono (call_vals F hb hx (hr.mono (Nat.le_succ _)) rfl I (.cons (F := RelV) (a := V.ref o) rfl (.cons ry .nil)) q) (fun r s' z => ?_) fun _ _ z => z)
  obtain ⟨v, H', I', rv, b, rfl, q⟩ := z
  obtain rfl : r = Value.bool b := rv
  exact ⟨.bl b, H', I', rfl, q⟩
theorem op_neO (F : FnOk X.prog X.w X.K X.mg X.base CX k f fd ps sp) (hb : Binds X.K fd ps []) (hx : Passes CX X noE) (hr : Room (k + 1) X.A)
    (hs : PySem.W.findIn X.K (.ref C) "__eq__" = some (some (.ref f))) (hf : PySem.W.isFn X.K (.ref f) = true)
    (hne : PySem.W.findIn X.K (.ref C) "__ne__" = some (some (.builtin "object.__ne__"))) (hob : PySem.W.subIn X.K (.ref C) (.type "object") = some true) : OpR X (compareOp .NotEq) (rEqO X.K C sp not) := by
  intro pins s σ H x y v u Q I rx ry h
  obtain ⟨o, dx, fs, rfl, ho, hy, q⟩ := h
  obtain rfl : v = Value.ref o := rx
  obtain ⟨t, L, n⟩ := eq_looks I ry hy
  obtain ⟨mA, J, _⟩ := ins_get I.hok ho
  obtain ⟨od, J, _⟩ := J.look
  refine PySem.W.ne_K (by have := hr.un; omega) I.kIn J L n hne hob hs hf (wpAny_mono (call_vals F hb hx hr.in1 rfl I (.cons (F := RelV) (a := V.ref o) rfl (.cons ry .nil)) q) (fun r s' z => ?_) fun _ _ z => z)
  obtain ⟨v, H', I', rv, b, rfl, q⟩ := z
  obtain rfl : r = Value.bool b := rv
  exact ⟨b, rfl, .bl (!b), H', I', rfl, q⟩
end
end L2

/-! list comprehensions, whether or not an exception is handled -/
namespace L2
open PySem PySem.Spec PyProof.Rows
open L2H (RoomH Hot1 PinOk)
open HotX (HotAt)
/-- at a heap: nothing is handled, or an exception without a context -/
def WarmH (A : Around) (h : Heap) : Prop := A.handled = none ∨ ∃ x1, HotAt A x1 h
/-- an iterator that goes and ends so -/
structure TurnW (P : Program) (w : World) (K : PySem.W.Frag) (tg : Expr) (J : It) (fp : List Addr) (it : Addr) (tn : Nat → Heap → Prop) : Prop where
  obj : ∀ i h, tn i h → ∀ b ∈ fp, ∃ o, h.get? b = some o ∧ ∀ v, o.data ≠ .cell v
  keep : ∀ i h h', tn i h → (∀ b ∈ fp, ∀ o, h.get? b = some o → h'.get? b = some o) → tn i h'
  item : ∀ (X : Cx), X.prog = P → X.w = w → X.K = K → ∀ (i : Nat) (pins : List Pin) (s : Shared) (σ : St) (H : Hp) (E : Value → Shared → Prop),
    WarmH X.A s.heap → Inv X pins σ H s → (∀ b ∈ fp, FpOk X pins H b) → tn i s.heap → J.go i H →
    wpAny (model P w) X.A (pyNext (.ref it)) (fun r s1 => ∃ u, r = some u ∧ wpAny (model P w) X.A (letOwnedTupleGo tg (.ref it) u)
      (fun _ s2 => ∃ x H', Inv X pins σ H' s2 ∧ RelV x u ∧ J.yld i H x H' ∧ tn (i + 1) s2.heap ∧ ∀ b ∈ fp, H' b = none) E s1) E s
  done : ∀ (X : Cx), X.prog = P → X.w = w → X.K = K → ∀ (i : Nat) (pins : List Pin) (s : Shared) (σ : St) (H : Hp) (E : Value → Shared → Prop),
    WarmH X.A s.heap → Inv X pins σ H s → (∀ b ∈ fp, FpOk X pins H b) → tn i s.heap → J.stop i H →
    wpAny (model P w) X.A (pyNext (.ref it)) (fun r s1 => r = none ∧ Inv X pins σ H s1) E s
  self : ∀ (A : Around) (i : Nat) (s : Shared) (Q : Value → Shared → Prop) (E : Value → Shared → Prop), tn i s.heap → Q (.ref it) s → wpAny (model P w) A (pyIter (.ref it)) Q E s
theorem turn_rangeW {P : Program} {w : World} {K : PySem.W.Frag} {tg : Expr} (it : Addr) (lo : Int) (n : Nat) :
    TurnW P w K tg (Itr lo n) [it] it (fun i h => IsRangeIter h it (lo + (i : Nat) * 1) ((n : Int) - (i : Nat)) 1) where
  obj := fun i h st b hb => by
    obtain rfl : b = it := by simpa using hb
    refine ⟨_, st, fun v z => ?_⟩
    have z1 : Data.fields _ = Data.cell v := z
    cases z1
  keep := fun i h h1 st k => k it (by simp) _ st
  item := by
    rintro X rfl rfl rfl i pins s σ H E hw I hf st hg
    obtain ⟨f0, f1, f2, f3, f4, f5⟩ := hf it (by simp)
    have lt : i < n := hg
    refine wpAny_pyNext_range_item st (by omega) fun h1 st1 sb => ?_
    have st2 : IsRangeIter h1 it (lo + ((i + 1 : Nat) : Int) * 1) ((n : Int) - ((i + 1 : Nat) : Int)) 1 := by
      have a1 : lo + ((i + 1 : Nat) : Int) * 1 = lo + ((i : Nat) : Int) * 1 + 1 := by omega
      have a2 : (n : Int) - ((i + 1 : Nat) : Int) = (n : Int) - ((i : Nat) : Int) - 1 := by omega
      rw [a1, a2]
      exact st1
    have I1 : Inv X pins σ H { s with heap := h1, toks := s.toks + 1 } :=
      I.turned (fun b o hb e => (sb.2 b hb).trans e) f0 f1 f3 f4 f5
    refine ⟨_, rfl, go_of (s := { s with heap := h1, toks := s.toks + 1 }) (n := "range_iterator") st2 rfl rfl (by decide) ?_⟩
    refine ⟨.int (lo + i), H, I1, ⟨s.toks, ?_⟩, ⟨rfl, rfl⟩, st2, fun b hb => (hf b hb).1⟩
    rw [Int.mul_one]
  done := by
    rintro X rfl rfl rfl i pins s σ H E hw I hf st hg
    obtain ⟨f0, f1, f2, f3, f4, f5⟩ := hf it (by simp)
    have le : n ≤ i := hg
    have z : (n : Int) - (i : Nat) ≤ 0 := by omega
    rcases hw with hw | ⟨x1, hot⟩
    · exact wpAny_pyNext_range_end hw st z fun h1 eb => ⟨rfl, I.turned (t' := s.toks) (fun b o hb e => eb b o hb e) f0 f1 f3 f4 f5⟩
    · exact HotX.pyNext_range_end_hot hot st z fun h1 eb => ⟨rfl, I.turned (t' := s.toks) (fun b o _ e => eb b o e) f0 f1 f3 f4 f5⟩
  self := fun _ _ _ _ _ st h => wpAny_pyIter_rangeiter st h
def PIEW (X : Cx) (pins : List Pin) (σ : St) (tg : Expr) (R : It → Hp → Prop) (itv : Value) (s2 : Shared) : Prop :=
  ∃ (it : Addr) (fp : List Addr) (tn : Nat → Heap → Prop) (J : It) (H' : Hp), itv = .ref it ∧ Inv X pins σ H' s2 ∧
    TurnW X.prog X.w X.K tg J fp it tn ∧ tn 0 s2.heap ∧ (∀ b ∈ fp, FpOk X pins H' b) ∧ R J H'
structure PIW (X : Cx) (tg iter : Expr) (wi : TI) : Prop where
  run : ∀ (pins : List Pin) (s : Shared) (σ : St) (H : Hp) (R : It → Hp → Prop), Inv X pins σ H s → wi σ H R →
    wpAny (model X.prog X.w) X.A (eval iter X.env) (fun v s1 => wpAny (model X.prog X.w) X.A (pyIter v) (PIEW X pins σ tg R) X.xe s1) X.xe s
section
variable {X : Cx} {tg : Expr}
theorem range_itW {pins : List Pin} {σ : St} {H : Hp} {s : Shared} {R : It → Hp → Prop} {E : Value → Shared → Prop} {lo hi : Int} {t u v : Tok} {tk : Nat}
    (I : Inv X pins σ H s) (h1 : -(2 ^ 62) ≤ lo) (h2 : lo < 2 ^ 62) (h3 : -(2 ^ 62) ≤ hi) (h4 : hi < 2 ^ 62) (q : R (Itr lo (hi - lo).toNat) H) :
    wpAny (model X.prog X.w) X.A (pyIter (.ref s.heap.objs.size)) (PIEW X pins σ tg R) E
      { s with heap := s.heap.push { cls := .type "range", data := .fields #[.int lo t, .int hi u, .int 1 v] }, toks := tk } := by
  generalize hro : ({ cls := .type "range", data := .fields #[.int lo t, .int hi u, .int 1 v] } : Obj) = ro
  have isR : IsRange (s.heap.push ro) s.heap.objs.size lo hi 1 t u v := by
    rw [← hro]
    exact IsRange.new ..
  refine wpAny_pyIter_range isR (small_one h1 h2 h3 h4) ?_
  have I1 : Inv X pins σ H { s with heap := s.heap.push ro, toks := tk } := I.kept fun b o e => Heap.get?_push_of_some _ e
  refine ⟨(s.heap.push ro).objs.size, [(s.heap.push ro).objs.size], _, _, H, rfl, I1.kept (t' := tk) fun b o e => Heap.get?_push_of_some _ e,
    turn_rangeW _ lo (hi - lo).toNat, ?_, fun b hb => ?_, q⟩
  · have a1 : lo + ((0 : Nat) : Int) * 1 = lo := by simp
    have a2 : (((hi - lo).toNat : Nat) : Int) - ((0 : Nat) : Int) = Builtin.Range.rangeSize lo hi 1 := by
      rw [rangeSize_one]
      split <;> omega
    show IsRangeIter _ _ (lo + ((0 : Nat) : Int) * 1) ((((hi - lo).toNat : Nat) : Int) - ((0 : Nat) : Int)) 1
    rw [a1, a2]
    exact Heap.get?_push_size _ rfl
  · obtain rfl : b = (s.heap.push ro).objs.size := by simpa using hb
    exact I1.fpOk (Nat.le_refl _) (I1.hok.fresh (Nat.le_refl _))
theorem pi_range1W {a : Expr} {ta : TA} {p pos : Pos} (hg : Gl X "range") (hm : X.mg "range" = none) (ha : PA X [a] ta)
    (hs : starEach [a] X.env = [(false, eval a X.env)] := by rfl) : PIW X tg (.Call (.Name "range" p) [a] [] pos) (iRng1 ta) := by
  refine ⟨fun pins s σ H R I h => ?_⟩
  refine Call_ (ld_blt I hg hm boot_range (PyProof.Rows.callWith_type1 ?_ hs rfl))
  refine thn (ha.run pos pins s σ H _ I h) fun us s1 ⟨vs, H1, I1, r1, j, e, q1, q2, q⟩ => ?_
  subst e
  obtain ⟨y, rfl, ry⟩ := vals1 r1
  obtain ⟨tk, rfl⟩ : ∃ tk, y = Value.int j tk := ry
  exact call_range_1 (range_itW I1 (by omega) (by omega) q1 q2 (by simpa using q))
end
end L2

namespace L2
open PySem PySem.Spec PyProof.Rows
open L2H (RoomH Hot1 PinOk)
section
variable {X : Cx} {p : Pin}
theorem WarmC.at (c : WarmC X p) {h : Heap} (g : h.get? p.1 = some p.2) : WarmH X.A h := by
  rcases c.warm with z | ⟨z, vs, h1, h2⟩
  · exact .inl z
  · exact .inr ⟨p.1, z, p.2, vs, g, h1, h2⟩
theorem lcW_core {pins : List Pin} {s : Shared} {σ : St} {H : Hp} {Q : VK} {elt tg iter : Expr} {ifs : List Expr} {scope : Scope} {own : List (Str × Nat)}
    {pos pos1 : Pos} {wi : TI} {g : TG} {tt : TT} {te : TE} {use : Option (Value → Sem Unit)} {Qf : Value → Shared → Prop} (wc : WarmC X p)
    (hN : X.N.Nodup) (I : Inv X pins σ H s) (hi : PIW X tg iter wi) (ok : BlkOk X.N X.env.scope scope own)
    (hg : ∀ (s : Shared) (H : Hp) (C : Addr) (cl : List (Str × Addr)) (fp : List Addr), PG (X.blk s H scope (compEnvC scope cl C X.env) fp) tg g)
    (ht : ∀ (s : Shared) (H : Hp) (C : Addr) (cl : List (Str × Addr)) (fp : List Addr), PTs (X.blk s H scope (compEnvC scope cl C X.env) fp) ifs tt)
    (he : ∀ (s : Shared) (H : Hp) (C : Addr) (cl : List (Str × Addr)) (fp : List Addr), PE (X.blk s H scope (compEnvC scope cl C X.env) fp) elt te)
    (hs : ∀ x, foldedSetIterable iter X.env x = pure x) (h : tLc wi g tt te (own.map (·.2)) σ H Q)
    (back : ∀ D C s1 m H1, Inv X pins σ H1 s1 → Q (.ref D) H1 → s1.heap.Ns C m → FpOk X pins H1 C →
      compPost (model X.prog X.w) X.A X.xe use Qf (.ref D) C (.ok .next) s1) :
    wpAny (model X.prog X.w) X.A (comprehension (.ListComp elt [⟨tg, iter, ifs, 0⟩] scope pos) scope X.env pos1 (newList []) false (eval iter X.env) use) Qf X.xe s := by
  have frees : ∀ y ∈ scope.names, y.2 = .free → ∃ c, X.env.cells.lookup y.1 = some c := by
    intro y hy e
    exact (ok.free y hy e).elim (fun k => I.ok.has _ (.inl k)) fun k => I.ok.has _ (.inr k)
  refine wpAny_comprehension_free (use := use) rfl hs (closure_ok frees) ok.kind (fun y hy e => by rw [ok.uniq y hy, e]) ?_
  refine thn (hi.run pins s σ H _ I h) fun xv s1 hx => thn hx fun itv s2 h2 => ?_
  obtain ⟨it, fp, tn, J, H2, e, I2, T, st2, f2, q⟩ := h2
  subst e
  refine wpAny_newObj_type (newEnv_comp ?_) (by show 0 ≤ sizeLine; decide)
  generalize hD : s2.heap.objs.size = D
  have freeD : H2 D = none := I2.hok.fresh (Nat.le_of_eq hD)
  obtain ⟨W, ⟨m0, w0⟩, turn⟩ := q D freeD
  generalize hs3 : ({ s2 with heap := s2.heap.push { cls := .type "list", data := .seq ([] : List Value).toArray } } : Shared) = s3
  have heap3 : s3.heap = s2.heap.push { cls := .type "list", data := .seq ([] : List Value).toArray } := by
    rw [← hs3]
  have I3 : Inv X pins σ (upd H2 D (.lst [])) s3 := by
    rw [← hs3]
    refine I2.laid (t' := s2.toks) (fun b o e => Heap.get?_push_of_some _ e) (Nat.le_of_eq hD) ?_
    refine ⟨Nat.zero_le _, [], 0, .nil, ?_⟩
    rw [← hD]
    exact Heap.get?_push_size _ rfl
  have lts : ∀ b ∈ fp, b < s2.heap.objs.size := by
    intro b hb
    obtain ⟨o, e, _⟩ := T.obj _ _ st2 b hb
    exact Heap.lt_size e
  have f3 : ∀ b ∈ fp, FpOk X pins (upd H2 D (.lst [])) b ∧ b < s3.heap.objs.size := by
    intro b hb
    have lt := lts b hb
    refine ⟨⟨?_, (f2 b hb).2⟩, ?_⟩
    · rw [upd_ne (by rw [← hD]; exact Nat.ne_of_lt lt)]
      exact (f2 b hb).1
    · rw [heap3, Heap.size_push]
      exact Nat.lt_succ_of_lt lt
  have st3 : tn 0 s3.heap := T.keep _ _ _ st2 fun b _ o e => by
    rw [heap3]
    exact Heap.get?_push_of_some _ e
  have I4 := block_start I3 ok hN f3
  generalize hcl : cellsFrom (s3.heap.objs.size + 1) scope.names (cloFrom X.env.cells scope.names []) = cl at I4
  have pg := hg s3 (upd H2 D (.lst [])) s3.heap.objs.size cl fp
  have pt := ht s3 (upd H2 D (.lst [])) s3.heap.objs.size cl fp
  have pe := he s3 (upd H2 D (.lst [])) s3.heap.objs.size cl fp
  show codeAny _ _ (.compStart (.ListComp elt [⟨tg, iter, ifs, 0⟩] scope pos) 0 (.ref it) (.ref D) (compEnvC scope cl s3.heap.objs.size X.env))
    (compPost (model X.prog X.w) X.A X.xe use Qf (.ref D) s3.heap.objs.size)
    { s3 with heap := pushCells (s3.heap.push { cls := .type "dict", data := .dict #[] }) scope.names }
  have nofp : ∀ b ∈ fp, (upd H2 D (.lst [])) b = none := fun b hb => (f3 b hb).1.1
  generalize hce : compEnvC scope cl s3.heap.objs.size X.env = ce at I4 pg pt pe ⊢
  have locC : ce.locals = s3.heap.objs.size := by
    subst hce
    rfl
  generalize hH3 : upd H2 D (.lst []) = H3 at I3 I4 pg pt pe w0 nofp f3
  generalize hs4 : ({ s3 with heap := pushCells (s3.heap.push { cls := .type "dict", data := .dict #[] }) scope.names } : Shared) = s4 at I4 ⊢
  have st4 : tn 0 s4.heap := T.keep _ _ _ st3 fun b _ o e => by
    rw [← hs4]
    exact pushCells_keeps _ _ _ _ (Heap.get?_push_of_some _ e)
  -- the handled exception stays within the block
  obtain ⟨g1, g2, g3, g4, g5⟩ := I3.pin p (List.mem_append_left _ wc.mem)
  have ns : p.1 ∉ frs X.stack := fun hm => by
    rcases List.mem_cons.mp (I3.stkSub _ hm) with z | z
    · exact g3 z
    · exact g4 z
  have nf : p.1 ∉ fp := fun hm => (f3 _ hm).1.2.2.2.2.2 p (List.mem_append_left _ wc.mem) rfl
  have warm : ∀ {pn1 : List Pin} {σ1 : St} {H1 : Hp} {s1 : Shared}, Inv (X.blk s3 H3 scope ce fp) pn1 σ1 H1 s1 → WarmH (X.blk s3 H3 scope ce fp).A s1.heap := by
    intro pn1 σ1 H1 s1 J
    exact wc.at (J.base.keep p.1 p.2 g1 g2 ns nf)
  have stat : ∀ {σ1 : St} {H1 : Hp} {s1 : Shared}, Inv (X.blk s3 H3 scope ce fp) [] σ1 H1 s1 → (∀ b ∈ fp, H1 b = none) →
      ∀ b ∈ fp, FpOk (X.blk s3 H3 scope ce fp) [] H1 b := by
    intro σ1 H1 s1 J hn b hb
    refine ⟨hn b hb, (J.ok.exf b hb).1, J.ok.exfs b hb, .inl hb, fun x c e => (J.ok.exf b hb).2 x c e, fun q hq => ?_⟩
    have z : q ∈ ([] : List Pin) ++ [] := hq
    simp at z
  refine codeAny_compStart_list ?loop (T.self X.A 0 _ _ _ st4 ?loop2)
  case loop2 => exact ?loop
  refine compLoop_any (fun n s1 => ∃ i H1, Inv (X.blk s3 H3 scope ce fp) [] (wipe σ (own.map (·.2))) H1 s1 ∧ tn i s1.heap ∧ (∀ b ∈ fp, H1 b = none) ∧ W i n H1)
    ?_ m0 ⟨0, H3, I4, st4, nofp, w0⟩
  rintro n s5 ⟨i, H5, I5, st5, n5, w5⟩
  rcases turn i n H5 w5 with ⟨stop, qq⟩ | ⟨go, Nx, hNx, step⟩
  · refine thnF (T.done (X.blk s3 H3 scope ce fp) rfl rfl rfl i [] s5 _ H5 (fun _ _ => False) (warm I5) I5 (stat I5 n5) st5 stop) fun r s6 ⟨hr, I6⟩ => ?_
    subst hr
    have I7 : Inv X pins σ H5 s6 := I3.call' (ch := fp) I6.os I6.base I6.hok I6.bare fun b hb =>
      ⟨(f3 b hb).1.2.2.2.1, (f3 b hb).1.2.1, (f3 b hb).1.2.2.2.2.1, (f3 b hb).1.2.2.2.2.2⟩
    have nC : H5 s3.heap.objs.size = none := by
      have z : H5 ce.locals = none := I6.free
      rwa [locC] at z
    obtain ⟨m, hn, _⟩ := I6.loc
    have hn1 : s6.heap.Ns ce.locals m := hn
    rw [locC] at hn1
    exact back D s3.heap.objs.size s6 m H5 I7 qq hn1 (I3.fpOk (Nat.le_refl _) nC)
  · refine thnF (T.item (X.blk s3 H3 scope ce fp) rfl rfl rfl i [] s5 _ H5 (fun _ _ => False) (warm I5) I5 (stat I5 n5) st5 go) fun r s6 ⟨u, hr, h6⟩ => ?_
    subst hr
    refine thnF h6 fun _ s7 ⟨x, H7, I7, r7, y7, st7, n7⟩ => ?_
    have P7 := I7.pinned (stat I7 n7) (T.obj _ _ st7)
    refine thnF (pg.run _ s7 _ H7 x u _ P7 r7 (step x H7 y7)) fun _ s8 ⟨σ8, H8, I8, hw8, q8⟩ => ?_
    refine thnF (pt.run _ s8 σ8 H8 _ I8 q8) fun b s9 ⟨H9, I9, q9⟩ => ?_
    have fin : ∀ {s1 : Shared} {H1 : Hp}, Inv (X.blk s3 H3 scope ce fp) ([] ++ pinsAt fp s7.heap) σ8 H1 s1 → Nx H1 → ∃ m, m < n ∧
        ∃ i H1, Inv (X.blk s3 H3 scope ce fp) [] (wipe σ (own.map (·.2))) H1 s1 ∧ tn i s1.heap ∧ (∀ b ∈ fp, H1 b = none) ∧ W i m H1 := by
      intro s1 H1 J nx
      obtain ⟨m1, hm, w1⟩ := hNx H1 nx
      have kept : ∀ b ∈ fp, ∀ o, s7.heap.get? b = some o → s1.heap.get? b = some o ∧ H1 b = none := by
        intro b hb o e
        have z := J.pin (b, o) (List.mem_append_right _ (List.mem_append_right _ (mem_pinsAt hb e)))
        exact ⟨z.1, z.2.1⟩
      have hl : (wipe σ (own.map (·.2))).length = σ8.length := by
        rw [← hw8, wipe_length]
      refine ⟨m1, hm, i + 1, H1, (J.unpinned (pins := [])).weak hl (fun j v e => ?_), ?_, fun b hb => ?_, w1⟩
      · rw [← hw8] at e
        exact (wipe_some e).1
      · exact T.keep _ _ _ st7 fun b hb o e => (kept b hb o e).1
      · obtain ⟨o, e, _⟩ := T.obj _ _ st7 b hb
        exact (kept b hb o e).2
    cases b with
    | false =>
      simp only [Bool.false_eq_true, if_false] at q9 ⊢
      exact fin I9 q9
    | true =>
      simp only [if_true] at q9 ⊢
      refine thnF (pe.run _ s9 σ8 H9 _ I9 q9) fun z s10 ⟨yv, H10, I10, r10, acc, hD10, hz10, nx⟩ => ?_
      exact app_ok (X := X.blk s3 H3 scope ce fp) I10 hD10 hz10 r10 fun s11 I11 => fin I11 nx
/-- as a value -/
theorem pe_lcW {elt tg iter : Expr} {ifs : List Expr} {scope : Scope} {own : List (Str × Nat)} {pos : Pos} {wi : TI} {g : TG} {tt : TT} {te : TE} (wc : WarmC X p)
    (hN : X.N.Nodup) (hi : PIW X tg iter wi) (ok : BlkOk X.N X.env.scope scope own)
    (hg : ∀ (s : Shared) (H : Hp) (C : Addr) (cl : List (Str × Addr)) (fp : List Addr), PG (X.blk s H scope (compEnvC scope cl C X.env) fp) tg g)
    (ht : ∀ (s : Shared) (H : Hp) (C : Addr) (cl : List (Str × Addr)) (fp : List Addr), PTs (X.blk s H scope (compEnvC scope cl C X.env) fp) ifs tt)
    (he : ∀ (s : Shared) (H : Hp) (C : Addr) (cl : List (Str × Addr)) (fp : List Addr), PE (X.blk s H scope (compEnvC scope cl C X.env) fp) elt te)
    (hs : ∀ x, foldedSetIterable iter X.env x = pure x := by intro _; rfl) :
    PE X (.ListComp elt [⟨tg, iter, ifs, 0⟩] scope pos) (tLc wi g tt te (own.map (·.2))) := by
  refine ⟨fun pins s σ H Q I h => ?_⟩
  rw [eval_ListComp]
  refine lcW_core wc hN I hi ok hg ht he hs h fun D C s1 m H1 J q hn f => ⟨m, hn, fun h2 sb => ?_⟩
  obtain ⟨f0, f1, f2, f3, f4, f5⟩ := f
  exact ⟨.ref D, H1, J.turned (t' := s1.toks) (fun b o hb e => (sb.2 b hb).trans e) f0 f1 f3 f4 f5, rfl, q⟩
end
end L2

/-! repr of what is made of None, bools, ints, texts, lists, tuples, dicts -/
namespace L2
open PySem PySem.Spec PyProof.Rows
mutual
/-- the value v is the data d, all of whose objects are tracked -/
inductive Rdd (H : Hp) : V → PyData → Prop
  | non : Rdd H .non .none
  | bl (b) : Rdd H (.bl b) (.bool b)
  | int (i) : Rdd H (.int i) (.int i)
  | str (x) : Rdd H (.str x) (.str x)
  | lst {a xs ds} : H a = some (.lst xs) → RddAll H xs ds → Rdd H (.ref a) (.list ds)
  | tup {a xs ds} : H a = some (.tup xs) → RddAll H xs ds → Rdd H (.ref a) (.tuple ds)
  | dK {a kvs ds} : H a = some (.dK kvs) → RddAll H (kvs.map fun p => kV p.1) (ds.map (·.1)) → RddAll H (kvs.map (·.2)) (ds.map (·.2)) → Rdd H (.ref a) (.dict ds)
inductive RddAll (H : Hp) : List V → List PyData → Prop
  | nil : RddAll H [] []
  | cons {v d vs ds} : Rdd H v d → RddAll H vs ds → RddAll H (v :: vs) (d :: ds)
end
mutual
theorem Rdd.mono {H H' : Hp} (k : ∀ b o, H b = some o → H' b = some o) : ∀ {v : V} {d : PyData}, Rdd H v d → Rdd H' v d
  | _, _, .non => .non
  | _, _, .bl b => .bl b
  | _, _, .int i => .int i
  | _, _, .str x => .str x
  | _, _, .lst h r => .lst (k _ _ h) (RddAll.mono k r)
  | _, _, .tup h r => .tup (k _ _ h) (RddAll.mono k r)
  | _, _, .dK h r q => .dK (k _ _ h) (RddAll.mono k r) (RddAll.mono k q)
theorem RddAll.mono {H H' : Hp} (k : ∀ b o, H b = some o → H' b = some o) : ∀ {vs : List V} {ds : List PyData}, RddAll H vs ds → RddAll H' vs ds
  | _, _, .nil => .nil
  | _, _, .cons r t => .cons (Rdd.mono k r) (RddAll.mono k t)
end
section
variable {P : Program} {w : World} {H : Hp} {h : Heap}
theorem kv_rel {k : Key} {u : Value} (e : keyIs k u = true) : RelV (kV k) u := by
  rcases keyIs_shape e with ⟨i, t, rfl, rfl⟩ | ⟨x, t, rfl, rfl⟩
  · exact ⟨t, rfl⟩
  · exact ⟨t, rfl⟩
theorem pairs_keys {es : List DictEntry} {vs : List (Key × Value)} (h : Pairs (mixKind P w) es vs) :
    Vals (vs.map fun p => kV p.1) (es.map (·.key)) ∧ es.map (·.val) = vs.map (·.2) := by
  induction h with
  | nil => exact ⟨.nil, rfl⟩
  | cons h1 h2 _ ih =>
    refine ⟨.cons (kv_rel h1) ih.1, ?_⟩
    rw [List.map_cons, List.map_cons, h2, ih.2]
theorem kv_keys : ∀ {kvs : List (Key × V)} {vs : List (Key × Value)}, KV kvs vs → (kvs.map fun p => kV p.1) = (vs.map fun p => kV p.1) ∧ Vals (kvs.map (·.2)) (vs.map (·.2))
  | _, _, .nil => ⟨rfl, .nil⟩
  | _, _, .cons r t => by
    obtain ⟨h1, h2⟩ := kv_keys t
    refine ⟨?_, .cons r.2 h2⟩
    rw [List.map_cons, List.map_cons, h1, r.1]
mutual
theorem Rdd.reads (ok : HOk P w H h) : ∀ {v : V} {d : PyData} {u : Value}, Rdd H v d → RelV v u → ∃ as, Reads h u d as ∧ ∀ a ∈ as, ∃ o, H a = some o
  | _, _, u, .non, r => by
    obtain rfl : u = Value.none := r
    exact ⟨[], .none, fun a z => nomatch z⟩
  | _, _, u, .bl b, r => by
    obtain rfl : u = Value.bool b := r
    exact ⟨[], .bool b, fun a z => nomatch z⟩
  | _, _, u, .int i, r => by
    obtain ⟨t, rfl⟩ : ∃ t, u = Value.int i t := r
    exact ⟨[], .int i t, fun a z => nomatch z⟩
  | _, _, u, .str x, r => by
    obtain ⟨t, rfl⟩ : ∃ t, u = Value.str x t := r
    exact ⟨[], .str x t, fun a z => nomatch z⟩
  | _, _, u, .lst (a := a) (xs := xs) e q, r => by
    obtain rfl : u = Value.ref a := r
    obtain ⟨_, its, n, rv, g⟩ := (show ObjOk P w H h a (.lst xs) from ok a _ e)
    obtain ⟨as, z, k⟩ := RddAll.reads ok q rv
    refine ⟨a :: as, .list g rfl rfl z, fun b hb => ?_⟩
    rcases List.mem_cons.mp hb with rfl | hb
    · exact ⟨_, e⟩
    · exact k b hb
  | _, _, u, .tup (a := a) (xs := xs) e q, r => by
    obtain rfl : u = Value.ref a := r
    obtain ⟨_, its, rv, o, g, c, n, hd⟩ := (show ObjOk P w H h a (.tup xs) from ok a _ e)
    obtain ⟨as, z, k⟩ := RddAll.reads ok q rv
    exact ⟨as, .tuple g c hd z, k⟩
  | _, _, u, .dK (a := a) (kvs := kvs) e q1 q2, r => by
    obtain rfl : u = Value.ref a := r
    obtain ⟨_, _, vs, rk, o, es, ep, g, ex, hd, _, pr, _⟩ := (show ObjOk P w H h a (.dK kvs) from ok a _ e)
    obtain ⟨k1, k2⟩ := pairs_keys pr
    obtain ⟨k3, k4⟩ := kv_keys rk
    rw [← k3] at k1
    obtain ⟨as, z1, t1⟩ := RddAll.reads ok q1 k1
    rw [← k2] at k4
    obtain ⟨bs, z2, t2⟩ := RddAll.reads ok q2 k4
    refine ⟨a :: as ++ bs, .dict g ex.1 hd z1 z2, fun b hb => ?_⟩
    rcases List.mem_append.mp hb with hb | hb
    · rcases List.mem_cons.mp hb with rfl | hb
      · exact ⟨_, e⟩
      · exact t1 b hb
    · exact t2 b hb
theorem RddAll.reads (ok : HOk P w H h) : ∀ {vs : List V} {ds : List PyData} {us : List Value}, RddAll H vs ds → Vals vs us →
    ∃ as, ReadsAll h us ds as ∧ ∀ a ∈ as, ∃ o, H a = some o
  | _, _, _, .nil, r => by
    cases r
    exact ⟨[], .nil, fun a z => nomatch z⟩
  | _, _, _, .cons q t, r => by
    cases r with
    | cons r1 r2 =>
      obtain ⟨as, z, k⟩ := Rdd.reads ok q r1
      obtain ⟨bs, z2, k2⟩ := RddAll.reads ok t r2
      refine ⟨as ++ bs, .cons z z2, fun b hb => ?_⟩
      rcases List.mem_append.mp hb with hb | hb
      · exact k b hb
      · exact k2 b hb
end
end
def rRepr : List V → Hp → VK → Prop := fun xs H Q => ∃ (v : V) (d : PyData), xs = [v] ∧ Rdd H v d ∧ d.showable = true ∧ d.depth ≤ 32 ∧
  d.shown.length ≤ sizeLine ∧ Q (.str d.shown) H
theorem call_repr {X : Cx} (hgd : X.A.guards = some []) (hu : X.A.units + 64 < cLine) (hsy : ∃ o, X.K.lookup sysModules = some o) :
    CallR X (.builtin "repr") rRepr := by
  intro pins s σ H xs us Q I r h
  obtain ⟨v, d, rfl, q, hs, hd, hz, hq⟩ := h
  obtain ⟨u, rfl, ru⟩ := vals1 r
  obtain ⟨o, ho⟩ := hsy
  have free : H sysModules = none := (I.bs _ _ (I.ok.mod.kin _ _ ho)).2
  have ref : ∀ a as, Reads s.heap (.ref a) d as → (∀ b ∈ as, ∃ o, H b = some o) → wpAny (model X.prog X.w) X.A (call (.builtin "repr") [.ref a]) (EP X pins σ Q) X.xe s := by
    intro a as z k
    refine repr_of_reads' z hs (fun _ hm => ?_) hgd (by omega) (fun _ _ e => e) (fun h1 u1 tk hk => ?_) hz
    · obtain ⟨o1, e1⟩ := k _ hm
      rw [free] at e1
      cases e1
    · exact ⟨.str d.shown, H, I.kept (t' := tk) hk, ⟨_, rfl⟩, hq⟩
  have val : ∀ tk, EP X pins σ Q (.str d.shown s.toks) { s with toks := tk } := fun tk => ⟨.str d.shown, H, I.tok _, ⟨_, rfl⟩, hq⟩
  obtain ⟨as, z, k⟩ := q.reads I.hok ru
  cases q with
  | non =>
    obtain rfl : u = Value.none := ru
    exact PySem.P.repr_of_none (val _)
  | bl b =>
    obtain rfl : u = Value.bool b := ru
    exact PySem.P.repr_of_bool (val _)
  | int i =>
    obtain ⟨t, rfl⟩ : ∃ t, u = Value.int i t := ru
    exact PySem.P.repr_of_int (of_decide_eq_true hs) (val _)
  | str x =>
    obtain ⟨t, rfl⟩ : ∃ t, u = Value.str x t := ru
    exact PySem.P.repr_of_str (val _) hz
  | lst e _ =>
    obtain rfl : u = _ := ru
    exact ref _ _ z k
  | tup e _ =>
    obtain rfl : u = _ := ru
    exact ref _ _ z k
  | dK e _ _ =>
    obtain rfl : u = _ := ru
    exact ref _ _ z k
end L2

namespace L2
open PySem PySem.Spec PyProof.Rows
theorem PE.mono {X : Cx} {e : Expr} {t t1 : TE} (h : PE X e t) (k : ∀ σ H Q, t1 σ H Q → t σ H Q) : PE X e t1 :=
  ⟨fun pins s σ H Q I q => h.run pins s σ H Q I (k σ H Q q)⟩
theorem PA.mono {X : Cx} {es : List Expr} {t t1 : TA} (h : PA X es t) (k : ∀ σ H Q, t1 σ H Q → t σ H Q) : PA X es t1 :=
  ⟨fun pos pins s σ H Q I q => h.run pos pins s σ H Q I (k σ H Q q)⟩
/-- exceptions, one a class, with the fields f alike v -/
inductive Evs (H : Hp) (v : V) : List V → List (Addr × Str) → Prop
  | nil : Evs H v [] []
  | cons {a C d : Addr} {f : Str} {xs : List V} {cs : List (Addr × Str)} : EvP [] H a C d [(f, v)] → Evs H v xs cs → Evs H v (.ref a :: xs) ((C, f) :: cs)
theorem Evs.mono {H H' : Hp} (k : Same H H') {v : V} {xs : List V} {cs : List (Addr × Str)} (e : Evs H v xs cs) : Evs H' v xs cs := by
  induction e with
  | nil => exact .nil
  | cons h _ ih => exact .cons (h.mono (fun _ z => z) k) ih
theorem Evs.append {H : Hp} {v : V} {xs ys : List V} {cs ds : List (Addr × Str)} (e : Evs H v xs cs) (g : Evs H v ys ds) : Evs H v (xs ++ ys) (cs ++ ds) := by
  induction e with
  | nil => exact g
  | cons h _ ih => exact .cons h ih
theorem Evs.length {H : Hp} {v : V} {xs : List V} {cs : List (Addr × Str)} (e : Evs H v xs cs) : xs.length = cs.length := by
  induction e with
  | nil => rfl
  | cons _ _ ih => rw [List.length_cons, List.length_cons, ih]
theorem Evs.get {H : Hp} {v : V} {xs : List V} {cs : List (Addr × Str)} (e : Evs H v xs cs) : ∀ {i : Nat} {C : Addr} {f : Str}, cs[i]? = some (C, f) →
    ∃ a d, xs[i]? = some (.ref a) ∧ EvP [] H a C d [(f, v)] := by
  induction e with
  | nil => intro i C f h; simp at h
  | cons h _ ih =>
    intro i C f hi
    cases i with
    | zero =>
      simp at hi
      obtain ⟨rfl, rfl⟩ := hi
      exact ⟨_, _, rfl, h⟩
    | succ i => exact ih (by simpa using hi)
/-- with two fields -/
inductive Evs2 (H : Hp) (v w : V) : List V → List (Addr × Str × Str) → Prop
  | nil : Evs2 H v w [] []
  | cons {a C d : Addr} {f g : Str} {xs : List V} {cs : List (Addr × Str × Str)} : EvP [] H a C d [(g, w), (f, v)] → Evs2 H v w xs cs → Evs2 H v w (.ref a :: xs) ((C, f, g) :: cs)
theorem Evs2.mono {H H' : Hp} (k : Same H H') {v w : V} {xs : List V} {cs : List (Addr × Str × Str)} (e : Evs2 H v w xs cs) : Evs2 H' v w xs cs := by
  induction e with
  | nil => exact .nil
  | cons h _ ih => exact .cons (h.mono (fun _ z => z) k) ih
theorem Evs2.append {H : Hp} {v w : V} {xs ys : List V} {cs ds : List (Addr × Str × Str)} (e : Evs2 H v w xs cs) (g : Evs2 H v w ys ds) : Evs2 H v w (xs ++ ys) (cs ++ ds) := by
  induction e with
  | nil => exact g
  | cons h _ ih => exact .cons h ih
theorem Evs2.length {H : Hp} {v w : V} {xs : List V} {cs : List (Addr × Str × Str)} (e : Evs2 H v w xs cs) : xs.length = cs.length := by
  induction e with
  | nil => rfl
  | cons _ _ ih => rw [List.length_cons, List.length_cons, ih]
theorem Evs2.get {H : Hp} {v w : V} {xs : List V} {cs : List (Addr × Str × Str)} (e : Evs2 H v w xs cs) : ∀ {i : Nat} {C : Addr} {f g : Str}, cs[i]? = some (C, f, g) →
    ∃ a d, xs[i]? = some (.ref a) ∧ EvP [] H a C d [(g, w), (f, v)] := by
  induction e with
  | nil => intro i C f g h; simp at h
  | cons h _ ih =>
    intro i C f g hi
    cases i with
    | zero =>
      simp at hi
      obtain ⟨rfl, rfl, rfl⟩ := hi
      exact ⟨_, _, rfl, h⟩
    | succ i => exact ih (by simpa using hi)
theorem withEv_same {H : Hp} {a C d : Addr} {fs : List (Str × V)} (ha : H a = none) (hd : H d = none) : Same H (withEv H a C d fs) := fun b o e => by
  unfold withEv
  rw [upd_ne (ne_of_none e ha), upd_ne (ne_of_none e hd)]
  exact e
theorem withEv_ev {H : Hp} {a C d : Addr} {fs : List (Str × V)} (h : d ≠ a) : EvP [] (withEv H a C d fs) a C d fs where
  at_ := .inl upd_same
  tab := .inl (by unfold withEv; rw [upd_ne h, upd_same])
theorem upd_withEv {H : Hp} {a C d : Addr} {o : HO} {fs : List (Str × V)} : withEv (upd H a o) a C d fs = withEv H a C d fs := by
  funext b
  unfold withEv
  by_cases h : b = a
  · rw [h, upd_same, upd_same]
  · rw [upd_ne h, upd_ne h]
    by_cases h2 : b = d
    · rw [h2, upd_same, upd_same]
    · rw [upd_ne h2, upd_ne h2, upd_ne h]
/-! ### the classes -/
structure One (P : Program) (w : World) (K : PySem.W.Frag) (mg : Str → Option Value) (base : Heap) (x f : Str) : Prop where
  mgx : mg x = some (.ref (He.ga K x))
  T : OexC K (He.ga K x)
  iC : PySem.W.findIn K (.ref (He.ga K x)) "__init__" = some (some (.ref (He.ma K (He.ga K x) "__init__")))
  tI : PySem.W.typeIn K (.ref (He.ma K (He.ga K x) "__init__")) = some (.type "function")
  ini : ∃ fd, FnOk P w K mg base CX0 1 (He.ma K (He.ga K x) "__init__") fd ["self", f] (spI1 (He.ga K x) f) ∧
    KBn K fd ["self", f] 2 [] (fun us _ => us) (fun vs _ => vs) ∧ KBn K fd ["self", f] 1 [f] (fun us ws => us ++ ws) (fun vs zs => vs ++ zs)
structure Two (P : Program) (w : World) (K : PySem.W.Frag) (mg : Str → Option Value) (base : Heap) (x f g : Str) : Prop where
  mgx : mg x = some (.ref (He.ga K x))
  T : OexC K (He.ga K x)
  iC : PySem.W.findIn K (.ref (He.ga K x)) "__init__" = some (some (.ref (He.ma K (He.ga K x) "__init__")))
  tI : PySem.W.typeIn K (.ref (He.ma K (He.ga K x) "__init__")) = some (.type "function")
  ini : ∃ fd, FnOk P w K mg base CX0 1 (He.ma K (He.ga K x) "__init__") fd ["self", f, g] (spI2 (He.ga K x) f g) ∧
    KBn K fd ["self", f, g] 3 [] (fun us _ => us) (fun vs _ => vs) ∧ KBn K fd ["self", f, g] 1 [f, g] (fun us ws => us ++ ws) (fun vs zs => vs ++ zs) ∧
    KBn K fd ["self", f, g] 1 [g, f] (fun us ws => us ++ ws.reverse) (fun vs zs => vs ++ zs.reverse) ∧
    KBn K fd ["self", f, g] 2 [g] (fun us ws => us ++ ws) (fun vs zs => vs ++ zs)
/-- X(v), v in slot i: the new exception -/
def tMk1 (i : Nat) (C : Addr) (f : Str) : TE := fun σ H Q => ∃ v, σ[i]? = some (some v) ∧ ∀ a d H', Same H H' → EvP [] H' a C d [(f, v)] → Q (.ref a) H'
def tMk2 (i j : Nat) (C : Addr) (f g : Str) : TE := fun σ H Q => ∃ v w, σ[i]? = some (some v) ∧ σ[j]? = some (some w) ∧ ∀ a d H', Same H H' → EvP [] H' a C d [(g, w), (f, v)] → Q (.ref a) H'
section
variable {X : Cx} {x f g : Str} {i j : Nat} {v u : Expr} {p pos kp kp2 : Pos}
theorem pe_e1 (O : One X.prog X.w X.K X.mg X.base x f) (hr : Room 2 X.A) (hv : PE X v (tVar i)) (hg : Gl X x) (hdb : (x == ("__debug__" : Str)) = false := by decide)
    (he : starEach [v] X.env = (false, eval v X.env) :: starEach [] X.env := by rfl) (hpl : (backTo pos (starEach [] X.env)).any (·.1) = false := by rfl) :
    PE X (.Call (.Name x p) [v] [] pos) (tMk1 i (He.ga X.K x) f) := by
  obtain ⟨fd, F, b1, b2⟩ := O.ini
  refine (pe_mkEv O.T O.iC O.tI F hr b1 pass0 (by decide) hg O.mgx (pa_cons hv pa_nil he) hdb he hpl).mono fun σ H Q h => ?_
  obtain ⟨y, hy, q⟩ := h
  refine ⟨y, hy, rfl, rfl, fun a ha => ⟨a, y, rfl, upd_same, fun dx n ne => ⟨rfl, ?_⟩⟩⟩
  rw [upd_withEv]
  exact q a dx _ (withEv_same ha (by rwa [upd_ne ne] at n)) (withEv_ev ne)
theorem pe_e1K (O : One X.prog X.w X.K X.mg X.base x f) (hr : Room 2 X.A) (hv : PE X v (tVar i)) (hg : Gl X x) (hdb : (x == ("__debug__" : Str)) = false := by decide)
    (hall : (backToKw pos (keywordEach [⟨some f, v, kp⟩] X.env)).all (·.1.isSome) = true := by rfl)
    (hks : (backToKw pos (keywordEach [⟨some f, v, kp⟩] X.env)).filterMap (·.1) = [f] := by rfl)
    (hpl : ((backTo pos (starEach [] X.env)).any (·.1) || (backToKw pos (keywordEach [⟨some f, v, kp⟩] X.env)).any (·.1.isNone)) = false := by rfl) :
    PE X (.Call (.Name x p) [] [⟨some f, v, kp⟩] pos) (tMk1 i (He.ga X.K x) f) := by
  obtain ⟨fd, F, b1, b2⟩ := O.ini
  refine (pe_mkEvK O.T O.iC O.tI F hr b2 pass0 hg O.mgx (pk_cons hv pk_nil) hall hks hdb hpl).mono fun σ H Q h => ?_
  obtain ⟨y, hy, q⟩ := h
  refine ⟨y, hy, rfl, rfl, fun a ha => ⟨a, y, rfl, upd_same, fun dx n ne => ⟨rfl, ?_⟩⟩⟩
  rw [upd_withEv]
  exact q a dx _ (withEv_same ha (by rwa [upd_ne ne] at n)) (withEv_ev ne)
theorem pe_e2 (O : Two X.prog X.w X.K X.mg X.base x f g) (hr : Room 2 X.A) (hv : PE X v (tVar i)) (hu : PE X u (tVar j)) (hg : Gl X x) (hdb : (x == ("__debug__" : Str)) = false := by decide)
    (he : starEach [v, u] X.env = (false, eval v X.env) :: starEach [u] X.env := by rfl) (he2 : starEach [u] X.env = (false, eval u X.env) :: starEach [] X.env := by rfl)
    (hpl : (backTo pos (starEach [u] X.env)).any (·.1) = false := by rfl) : PE X (.Call (.Name x p) [v, u] [] pos) (tMk2 i j (He.ga X.K x) f g) := by
  obtain ⟨fd, F, b1, b2, b3, b4⟩ := O.ini
  refine (pe_mkEv O.T O.iC O.tI F hr b1 pass0 (by decide) hg O.mgx (pa_cons hv (pa_cons hu pa_nil he2) he) hdb he hpl).mono fun σ H Q h => ?_
  obtain ⟨y, z, hy, hz, q⟩ := h
  refine ⟨y, hy, z, hz, rfl, rfl, fun a ha => ⟨a, y, z, rfl, upd_same, fun dx n ne => ⟨rfl, ?_⟩⟩⟩
  rw [upd_withEv]
  exact q a dx _ (withEv_same ha (by rwa [upd_ne ne] at n)) (withEv_ev ne)
theorem pe_e2K (O : Two X.prog X.w X.K X.mg X.base x f g) (hr : Room 2 X.A) (hv : PE X v (tVar i)) (hu : PE X u (tVar j)) (hg : Gl X x) (hdb : (x == ("__debug__" : Str)) = false := by decide)
    (hall : (backToKw pos (keywordEach [⟨some f, v, kp⟩, ⟨some g, u, kp2⟩] X.env)).all (·.1.isSome) = true := by rfl)
    (hks : (backToKw pos (keywordEach [⟨some f, v, kp⟩, ⟨some g, u, kp2⟩] X.env)).filterMap (·.1) = [f, g] := by rfl)
    (hpl : ((backTo pos (starEach [] X.env)).any (·.1) || (backToKw pos (keywordEach [⟨some f, v, kp⟩, ⟨some g, u, kp2⟩] X.env)).any (·.1.isNone)) = false := by rfl) :
    PE X (.Call (.Name x p) [] [⟨some f, v, kp⟩, ⟨some g, u, kp2⟩] pos) (tMk2 i j (He.ga X.K x) f g) := by
  obtain ⟨fd, F, b1, b2, b3, b4⟩ := O.ini
  refine (pe_mkEvK O.T O.iC O.tI F hr b2 pass0 hg O.mgx (pk_cons hv (pk_cons hu pk_nil)) hall hks hdb hpl).mono fun σ H Q h => ?_
  obtain ⟨y, z, hy, hz, q⟩ := h
  refine ⟨y, hy, z, hz, rfl, rfl, fun a ha => ⟨a, y, z, rfl, upd_same, fun dx n ne => ⟨rfl, ?_⟩⟩⟩
  rw [upd_withEv]
  exact q a dx _ (withEv_same ha (by rwa [upd_ne ne] at n)) (withEv_ev ne)
theorem pe_e2R (O : Two X.prog X.w X.K X.mg X.base x f g) (hr : Room 2 X.A) (hv : PE X v (tVar i)) (hu : PE X u (tVar j)) (hg : Gl X x) (hdb : (x == ("__debug__" : Str)) = false := by decide)
    (hall : (backToKw pos (keywordEach [⟨some g, u, kp⟩, ⟨some f, v, kp2⟩] X.env)).all (·.1.isSome) = true := by rfl)
    (hks : (backToKw pos (keywordEach [⟨some g, u, kp⟩, ⟨some f, v, kp2⟩] X.env)).filterMap (·.1) = [g, f] := by rfl)
    (hpl : ((backTo pos (starEach [] X.env)).any (·.1) || (backToKw pos (keywordEach [⟨some g, u, kp⟩, ⟨some f, v, kp2⟩] X.env)).any (·.1.isNone)) = false := by rfl) :
    PE X (.Call (.Name x p) [] [⟨some g, u, kp⟩, ⟨some f, v, kp2⟩] pos) (tMk2 i j (He.ga X.K x) f g) := by
  obtain ⟨fd, F, b1, b2, b3, b4⟩ := O.ini
  refine (pe_mkEvK O.T O.iC O.tI F hr b3 pass0 hg O.mgx (pk_cons hu (pk_cons hv pk_nil)) hall hks hdb hpl).mono fun σ H Q h => ?_
  obtain ⟨y, z, hy, hz, q⟩ := h
  refine ⟨z, hz, y, hy, rfl, rfl, fun a ha => ⟨a, y, z, rfl, upd_same, fun dx n ne => ⟨rfl, ?_⟩⟩⟩
  rw [upd_withEv]
  exact q a dx _ (withEv_same ha (by rwa [upd_ne ne] at n)) (withEv_ev ne)
theorem pe_e2M (O : Two X.prog X.w X.K X.mg X.base x f g) (hr : Room 2 X.A) (hv : PE X v (tVar i)) (hu : PE X u (tVar j)) (hg : Gl X x) (hdb : (x == ("__debug__" : Str)) = false := by decide)
    (he : starEach [v] X.env = (false, eval v X.env) :: starEach [] X.env := by rfl) (hall : (backToKw pos (keywordEach [⟨some g, u, kp⟩] X.env)).all (·.1.isSome) = true := by rfl)
    (hks : (backToKw pos (keywordEach [⟨some g, u, kp⟩] X.env)).filterMap (·.1) = [g] := by rfl)
    (hpl : ((backTo pos (starEach [v] X.env)).any (·.1) || (backToKw pos (keywordEach [⟨some g, u, kp⟩] X.env)).any (·.1.isNone)) = false := by rfl) :
    PE X (.Call (.Name x p) [v] [⟨some g, u, kp⟩] pos) (tMk2 i j (He.ga X.K x) f g) := by
  obtain ⟨fd, F, b1, b2, b3, b4⟩ := O.ini
  refine (pe_mkEvM O.T O.iC O.tI F hr b4 pass0 (by decide) hg O.mgx (pa_cons hv pa_nil he) (pk_cons hu pk_nil) hall hks hdb he hpl).mono fun σ H Q h => ?_
  obtain ⟨y, z, hy, hz, q⟩ := h
  refine ⟨y, hy, z, hz, rfl, rfl, fun a ha => ⟨a, y, z, rfl, upd_same, fun dx n ne => ⟨rfl, ?_⟩⟩⟩
  rw [upd_withEv]
  exact q a dx _ (withEv_same ha (by rwa [upd_ne ne] at n)) (withEv_ev ne)
end
/-- rows of such calls -/
def tMks (i : Nat) (cs : List (Addr × Str)) : TA := fun σ H Q => ∃ v, σ[i]? = some (some v) ∧ ∀ xs H', Same H H' → Evs H' v xs cs → Q xs H'
def tMks2 (i j : Nat) (cs : List (Addr × Str × Str)) : TA := fun σ H Q => ∃ v w, σ[i]? = some (some v) ∧ σ[j]? = some (some w) ∧ ∀ xs H', Same H H' → Evs2 H' v w xs cs → Q xs H'
section
variable {X : Cx} {i j : Nat} {e : Expr} {es : List Expr} {C : Addr} {f g : Str} {cs : List (Addr × Str)} {ds : List (Addr × Str × Str)}
theorem pa_m0 : PA X [] (tMks i []) := pa_nil.mono fun σ H Q ⟨v, hv, q⟩ => q [] H (Same.refl H) .nil
theorem pa_m1 (he : PE X e (tMk1 i C f)) (h : PA X es (tMks i cs)) (hs : starEach (e :: es) X.env = (false, eval e X.env) :: starEach es X.env := by rfl) : PA X (e :: es) (tMks i ((C, f) :: cs)) := by
  refine (pa_cons he h hs).mono fun σ H Q ⟨v, hv, q⟩ => ?_
  exact ⟨v, hv, fun a d H1 k1 e1 => ⟨v, hv, fun xs H2 k2 e2 => q _ H2 (k1.trans k2) (.cons (e1.mono (fun _ z => z) k2) e2)⟩⟩
theorem pa_n0 : PA X [] (tMks2 i j []) := pa_nil.mono fun σ H Q ⟨v, w, hv, hw, q⟩ => q [] H (Same.refl H) .nil
theorem pa_n1 (he : PE X e (tMk2 i j C f g)) (h : PA X es (tMks2 i j ds)) (hs : starEach (e :: es) X.env = (false, eval e X.env) :: starEach es X.env := by rfl) : PA X (e :: es) (tMks2 i j ((C, f, g) :: ds)) := by
  refine (pa_cons he h hs).mono fun σ H Q ⟨v, w, hv, hw, q⟩ => ?_
  exact ⟨v, w, hv, hw, fun a d H1 k1 e1 => ⟨v, w, hv, hw, fun xs H2 k2 e2 => q _ H2 (k1.trans k2) (.cons (e1.mono (fun _ z => z) k2) e2)⟩⟩
end
end L2

/-! calls by keywords alone, C(..) whose __init__ may raise, several clauses with names -/
namespace L2
open PySem PySem.Spec PyProof.Rows
/-- C(..), what is raised is wished for at the slots -/
def tMakeS (C : Addr) (n m : Nat) (sp : Sp) (gV : List V → List V → List V) (E : St → XK) (t tk : TA) : TE := fun σ H Q => t σ H fun vs H1 => tk σ H1 fun zs H2 => vs.length = n ∧ zs.length = m ∧
  ∀ x dx, H2 x = none → H2 dx = none → dx ≠ x → sp (gV (.ref x :: vs) zs) (upd (upd H2 dx (.own x)) x (.ins C dx [])) (fun v H3 => v = .non ∧ Q (.ref x) H3) (E σ)
/-- f(..) by values and keywords -/
def tCallKS (n m : Nat) (sp : Sp) (gV : List V → List V → List V) (E : St → XK) (t tk : TA) : TE := fun σ H Q => t σ H fun vs H1 => tk σ H1 fun zs H2 => vs.length = n ∧ zs.length = m ∧ sp (gV vs zs) H2 Q (E σ)
section
variable {X : Cx} {CX : CXT} {k n : Nat} {f C : Addr} {fd : FuncData} {ps ks : List Str} {sp : Sp} {E : St → XK} {x : Str} {p pos : Pos} {e : Expr} {es : List Expr} {kws : List Keyword} {t tk : TA} {g : List Value → List Value → List Value} {gV : List V → List V → List V}
theorem run_makeS {pins : List (Addr × Obj)} {σ : St} {H : Hp} {s : Shared} {Q : VK} {E : XK} {us ws : List Value} {vs zs : List V} (M : Mk X.K C f) (F : FnOk X.prog X.w X.K X.mg X.base CX k f fd ps sp) (hr : Room (k + 1) X.A) (hb : KBn X.K fd ps (n + 1) ks g gV)
    (hx : PassesAt CX X σ E) (I : Inv X pins σ H s) (r : Vals vs us) (rz : Vals zs ws) (l1 : vs.length = n) (l2 : zs.length = ks.length)
    (h : ∀ x dx, H x = none → H dx = none → dx ≠ x → sp (gV (.ref x :: vs) zs) (upd (upd H dx (.own x)) x (.ins C dx [])) (fun v H2 => v = .non ∧ Q (.ref x) H2) E) :
    wpAny (model X.prog X.w) X.A (call (.ref C) us (ks.zip ws)) (EP X pins σ Q) X.xe s := by
  have hq := h (s.heap.objs.size + 1) s.heap.objs.size (I.hok.fresh (Nat.le_succ _)) (I.hok.fresh (Nat.le_refl _)) (Nat.ne_of_lt (Nat.lt_succ_self _))
  have I2 := Inv.made (C := C) I
  have r1 : Vals (V.ref (s.heap.objs.size + 1) :: vs) (Value.ref (s.heap.objs.size + 1) :: us) := .cons rfl r
  have r2 := hb.rel r1 rz
  have e1 : (Value.ref (s.heap.objs.size + 1) :: us).length = n + 1 := r1.length.symm.trans (congrArg Nat.succ l1)
  have e2 : ws.length = ks.length := rz.length.symm.trans l2
  refine wpAny_call (make_map (f := f) I.kIn M.makes M.init (beq_iff_eq.mp M.fn) (codeAny_mono (F.run _ X.stack _ _ ⟨Value.ref (s.heap.objs.size + 1) :: us, ks.zip ws⟩ (g (Value.ref (s.heap.objs.size + 1) :: us) ws) _ _ E (hr.make C us (ks.zip ws))
    (I2.env0.make C us (ks.zip ws)) (hb.to _ (Value.ref (s.heap.objs.size + 1) :: us) ws I2.kIn e1 e2) r2 hq) fun r s' hq' => ?_))
  cases r with
  | error e => exact hx pins _ _ e s' I2 hq'
  | ok fl =>
    cases fl with
    | ret u =>
      obtain ⟨v, H', I3, rv, ev, q3⟩ := I2.after hq'
      subst ev
      exact ⟨rv, ⟨V.ref (s.heap.objs.size + 1), H', I3, rfl, q3⟩⟩
    | next => exact False.elim hq'
    | brk => exact False.elim hq'
    | cont => exact False.elim hq'
theorem pe_makeS (M : Mk X.K C f) (F : FnOk X.prog X.w X.K X.mg X.base CX k f fd ps sp) (hr : Room (k + 1) X.A) (hg : Gl X x) (hm : X.mg x = some (.ref C)) (hb : KBn X.K fd ps (n + 1) [] g gV) (hx : ∀ σ, PassesAt CX X σ (E σ))
    (ha : PA X (e :: es) t) (hdb : (x == ("__debug__" : Str)) = false := by decide) (he : starEach (e :: es) X.env = (false, eval e X.env) :: starEach es X.env := by rfl) (hpl : (backTo pos (starEach es X.env)).any (·.1) = false := by rfl) :
    PE X (.Call (.Name x p) (e :: es) [] pos) (tMakeS C n 0 sp gV E t tNil) := by
  refine ⟨fun pins s σ H Q I h => ?_⟩
  refine wpAny_Call_Name_kw (ld_glob I hg hm ?_ hdb)
  refine PySem.W.callWith_K (h₀ := X.base) I.ok.mod.kin M.kp (thn (ha.run pos pins s σ H _ I h) fun us s1 ⟨vs, H1, I1, r, l1, l2, q⟩ => ⟨I1.kIn, ?_⟩) he hpl
  exact run_makeS (ks := []) (ws := []) (zs := []) M F hr hb (hx σ) I1 r .nil l1 rfl q
theorem pe_makeSK (M : Mk X.K C f) (F : FnOk X.prog X.w X.K X.mg X.base CX k f fd ps sp) (hr : Room (k + 1) X.A) (hg : Gl X x) (hm : X.mg x = some (.ref C)) (hb : KBn X.K fd ps 1 ks g gV) (hx : ∀ σ, PassesAt CX X σ (E σ)) (hkw : PK X kws tk)
    (hall : (backToKw pos (keywordEach kws X.env)).all (·.1.isSome) = true := by rfl) (hks : (backToKw pos (keywordEach kws X.env)).filterMap (·.1) = ks := by rfl) (hdb : (x == ("__debug__" : Str)) = false := by decide)
    (hpl : ((backTo pos (starEach [] X.env)).any (·.1) || (backToKw pos (keywordEach kws X.env)).any (·.1.isNone)) = false := by rfl) :
    PE X (.Call (.Name x p) [] kws pos) (tMakeS C 0 ks.length sp gV E tNil tk) := by
  refine ⟨fun pins s σ H Q I h => ?_⟩
  refine wpAny_Call_Name_kw (ld_glob I hg hm ?_ hdb)
  refine PySem.W.callWith_KW0 (h₀ := X.base) I.ok.mod.kin M.kp hall ?_ hpl
  refine thn (hkw.run pos pins s σ H _ I h) fun ws s2 ⟨zs, H2, I2, rz, l1, l2, q2⟩ => ⟨I2.kIn, ?_⟩
  rw [hks]
  exact run_makeS (us := []) (vs := []) M F hr hb (hx σ) I2 .nil rz rfl l2 q2
theorem run_fnKS {pins : List (Addr × Obj)} {σ : St} {H : Hp} {s : Shared} {Q : VK} {E : XK} {us ws : List Value} {vs zs : List V} (F : FnOk X.prog X.w X.K X.mg X.base CX k f fd ps sp) (hr : Room k X.A) (hb : KBn X.K fd ps n ks g gV)
    (hx : PassesAt CX X σ E) (I : Inv X pins σ H s) (r : Vals vs us) (rz : Vals zs ws) (l1 : vs.length = n) (l2 : zs.length = ks.length) (h : sp (gV vs zs) H Q E) :
    wpAny (model X.prog X.w) X.A (call (.ref f) us (ks.zip ws)) (EP X pins σ Q) X.xe s := by
  have r2 := hb.rel r rz
  have e1 : us.length = n := r.length.symm.trans l1
  have e2 : ws.length = ks.length := rz.length.symm.trans l2
  refine wpAny_call (codeAny_mono (F.run X.A X.stack s H ⟨us, ks.zip ws⟩ (g us ws) (gV vs zs) Q E hr I.env0 (hb.to s us ws I.kIn e1 e2) r2 h) fun r s2 h2 => ?_)
  cases r with
  | error er => exact hx pins H s er s2 I h2
  | ok fl =>
    cases fl with
    | ret u => exact I.after h2
    | next => exact h2.elim
    | brk => exact h2.elim
    | cont => exact h2.elim
/-- f(k = v, ..) -/
theorem pe_callKS0 (F : FnOk X.prog X.w X.K X.mg X.base CX k f fd ps sp) (hr : Room k X.A) (hg : Gl X x) (hm : X.mg x = some (.ref f)) (hk : PySem.W.keepIn X.K (.ref f) = true) (hb : KBn X.K fd ps 0 ks g gV) (hx : ∀ σ, PassesAt CX X σ (E σ)) (hkw : PK X kws tk)
    (hall : (backToKw pos (keywordEach kws X.env)).all (·.1.isSome) = true := by rfl) (hks : (backToKw pos (keywordEach kws X.env)).filterMap (·.1) = ks := by rfl) (hdb : (x == ("__debug__" : Str)) = false := by decide)
    (hpl : ((backTo pos (starEach [] X.env)).any (·.1) || (backToKw pos (keywordEach kws X.env)).any (·.1.isNone)) = false := by rfl) :
    PE X (.Call (.Name x p) [] kws pos) (tCallKS 0 ks.length sp gV E tNil tk) := by
  refine ⟨fun pins s σ H Q I h => ?_⟩
  refine wpAny_Call_Name_kw (ld_glob I hg hm ?_ hdb)
  refine PySem.W.callWith_KW0 (h₀ := X.base) I.ok.mod.kin hk hall ?_ hpl
  refine thn (hkw.run pos pins s σ H _ I h) fun ws s2 ⟨zs, H2, I2, rz, l1, l2, q2⟩ => ⟨I2.kIn, ?_⟩
  rw [hks]
  exact run_fnKS (us := []) (vs := []) F hr hb (hx σ) I2 .nil rz l1 l2 q2
/-- f(e, .., k = v, ..) -/
theorem pe_callKS (F : FnOk X.prog X.w X.K X.mg X.base CX k f fd ps sp) (hr : Room k X.A) (hg : Gl X x) (hm : X.mg x = some (.ref f)) (hk : PySem.W.keepIn X.K (.ref f) = true) (hb : KBn X.K fd ps n ks g gV) (hx : ∀ σ, PassesAt CX X σ (E σ)) (ha : PA X (e :: es) t) (hkw : PK X kws tk)
    (hall : (backToKw pos (keywordEach kws X.env)).all (·.1.isSome) = true := by rfl) (hks : (backToKw pos (keywordEach kws X.env)).filterMap (·.1) = ks := by rfl) (hdb : (x == ("__debug__" : Str)) = false := by decide)
    (he : starEach (e :: es) X.env = (false, eval e X.env) :: starEach es X.env := by rfl) (hpl : ((backTo pos (starEach (e :: es) X.env)).any (·.1) || (backToKw pos (keywordEach kws X.env)).any (·.1.isNone)) = false := by rfl) :
    PE X (.Call (.Name x p) (e :: es) kws pos) (tCallKS n ks.length sp gV E t tk) := by
  refine ⟨fun pins s σ H Q I h => ?_⟩
  refine wpAny_Call_Name_kw (ld_glob I hg hm ?_ hdb)
  refine PySem.W.callWith_KW (h₀ := X.base) I.ok.mod.kin hk hall (thn (ha.run pos pins s σ H _ I h) fun us s1 ⟨vs, H1, I1, r, q⟩ => ?_) hpl he
  refine thn (hkw.run pos pins s1 σ H1 _ I1 q) fun ws s2 ⟨zs, H2, I2, rz, l1, l2, q2⟩ => ⟨I2.kIn, ?_⟩
  rw [hks]
  exact run_fnKS F hr hb (hx σ) I2 r rz l1 l2 q2
end
end L2
namespace L2N
open PySem PySem.Spec PyProof.Rows L2
/-- what the clauses wish, each with its name's slot -/
def wManyAs (K : PySem.W.Frag) (Wout : WX) (D : Ends) : List (Value × Nat × (Addr → Value → Option Addr → TS)) → WX
  | [] => Wout
  | (c, i, ts) :: r => wAs K c i ts (wManyAs K Wout D r) D
inductive HdsAs (X : Cx) : List ExceptHandler → List (Value × Nat × (Addr → Value → Option Addr → TS)) → Prop
  | nil : HdsAs X [] []
  | cons {x n : Str} {c : Value} {i : Nat} {ts : Addr → Value → Option Addr → TS} {b₀ : Stmt} {suite : List Stmt} {np pos' : Pos} {hds : List ExceptHandler} {l : List (Value × Nat × (Addr → Value → Option Addr → TS))} (hc : Names X x c)
      (hi : X.N[i]? = some n) (hln : X.env.kindOf n = some .local)
      (hsu : ∀ (a : Addr) (oe : Obj) (cls : Value) (d : Option Addr) (pn : List (Addr × Obj)), Zn cls d oe → (∃ vs, oe.data = .fields vs) → PSs (X.suite a ((a, oe) :: pn)) (b₀ :: suite) (ts a cls d)) (r : HdsAs X hds l) :
      HdsAs X (.ExceptHandler (some (.Name x np)) (some n) (b₀ :: suite) pos' :: hds) ((c, i, ts) :: l)
section
variable {X : Cx} {body : List Stmt} {h₀ : ExceptHandler} {hds : List ExceptHandler} {l : List (Value × Nat × (Addr → Value → Option Addr → TS))} {pos : Pos} {tb : WX → TS} {Wout : WX}
theorem ps_try_manyAs (hs : X.stack = X.env :: X.outer) (hf : X.env.frame = some X.env.locals) (hN : X.N.Nodup) (tk : Takes X Wout)
    (hb : ∀ (W : WX) (pn : List (Addr × Obj)) (xe : Value → Shared → Prop), Takes (X.tr pn xe) W → PassesOwn (model X.prog X.w) X.A X.env xe → PSs (X.tr pn xe) body (tb W))
    (hh : HdsAs X (h₀ :: hds) l) : PS X (.Try body (h₀ :: hds) [] [] pos) (fun D σ H => tb (wManyAs X.K Wout D l) D σ H) := by
  refine ⟨fun pins s σ H D I h => ?_⟩
  have ok := I.ok
  have hfr : X.A.frames = some (X.env :: X.outer) := by rw [ok.frames, hs]
  refine wpAny_Try_except ?_
  refine wpAny_mono ((hb (wManyAs X.K Wout D l) (X.pn ++ pins) (fun e s₁ => wpAny (model X.prog X.w) X.A (noteFrame e X.env) (fun _ s₂ => wpAny (model X.prog X.w) X.A (setFlight e none) (fun _ s₃ =>
    wpAny (model X.prog X.w) X.A (handleBy e X.env (h₀ :: hds)) (SP X pins D) X.xe s₃) X.xe s₂) X.xe s₁) (fun u s' xx => ?_) PassesOwn.looking).run [] s σ H D (I.toTry _) h) (fun f s1 hsp => ?_) (fun e s1 he => he)
  · -- the catch
    obtain ⟨a, B, sI, pins', σ', H', cls, d, rfl, J', nb, up, sky, na, os, ag, w⟩ := xx
    have J : Inv X pins σ' H' sI := J'.ofTry ok
    have sky' : Sky B (X.env :: X.outer) a (Zn cls d) X.env.locals s'.heap := by rw [← hs]; exact sky
    show wpAny (model X.prog X.w) X.A (noteFrame (.ref a) X.env) _ _ _
    refine Sky.land Zn.steady hfr hf sky' fun h3 fl3 up3 => ?_
    have J3 : Inv X pins σ' H' { s' with heap := h3 } := J.landed nb fl3.1 (up.trans up3) os ag
    obtain ⟨oe3, vs3, he3, hz3, hd3⟩ := fl3.there
    have notFr : ∀ {h : Heap} {o : Obj} {vs : Array Value}, h.FunFrames B (X.env :: X.outer) → h.get? a = some o → o.data = .fields vs → a ∉ frs (X.env :: X.outer) := fun {h o vs} ff e dd hm => by
      obtain ⟨_, o', e', hnf⟩ := ff.mem hm
      rw [e] at e'; cases e'
      exact hnf _ dd
    have nfr := notFr fl3.2.2.1 he3 hd3
    have nL : a ≠ X.env.locals := fun z => nfr (List.mem_filterMap.mpr ⟨X.env, List.mem_cons_self, by rw [hf, z]⟩)
    have nF : a ∉ X.fs := fun hm => by
      obtain ⟨e, he, q⟩ := List.mem_filterMap.mp hm
      exact nfr (List.mem_filterMap.mpr ⟨e, List.mem_cons_of_mem _ he, q⟩)
    have S3 := J3.suite he3 hd3 na nL nF
    have go : ∀ {hds' : List ExceptHandler} {l' : List (Value × Nat × (Addr → Value → Option Addr → TS))}, HdsAs X hds' l' → wManyAs X.K Wout D l' cls d σ' H' →
        wpAny (model X.prog X.w) X.A (handleBy (.ref a) X.env hds') (SP X pins D) X.xe { s' with heap := h3 } := by
      intro hds' l' hk
      induction hk with
      | nil =>
        intro w
        refine wpAny_handleBy_nil ?_
        obtain ⟨k1, k2, k3, oe, vs, T, oT, ts', he, hz, hd, h1, hr⟩ := id fl3
        unfold PySem.passOn
        refine wpAny_bind (wpAny_field he hd h1 ?_)
        rw [if_neg (show ¬ ((Value.ref T == Value.none) = true) from by simp)]
        have fin : wpAny (model X.prog X.w) X.A (setFlight (.ref a) X.env.frame) (fun _ s4 => wpAny (model X.prog X.w) X.A (throw (.ref a) : Sem Flow) (SP X pins D) X.xe s4) X.xe { s' with heap := h3 } := by
          rw [hf]
          refine HandSPX.setFlight_upZ fl3 fun h4 hh4 up4 => wpAny_throw (tk _ _ ?_)
          exact ⟨a, B, sI, pins, σ', H', cls, d, rfl, J, nb, (up.trans up3).trans up4, .inr (.inr (by rw [hs]; exact hh4)), na, os, ag, w⟩
        first
          | exact wpAny_bind (wpAny_pure (wpAny_bind fin))
          | exact wpAny_bind fin
      | @cons x n c i ts b₀ suite np pos' hds2 l2 hc hi hln hsu r ih =>
        intro w
        obtain ⟨b, hb1, hyes, hno⟩ := w
        have hloc : Loc X.env.scope n := .inl hln
        refine wpAny_handleBy_cons (codeAny_handlers_test ?_) (by intro q; cases q)
        have LT : PySem.W.Looks (model X.prog X.w) h3 (typeOf (.ref a)) cls := fun A Q E s k q => wpAny_typeOf_ref (k _ _ he3) (by rw [hz3.1]; exact q)
        have LM := PySem.W.exm_one (M := model X.prog X.w) (J3.kIn) LT hb1
        have test : ∀ {Q : Value → Shared → Prop} {E : Value → Shared → Prop}, Q c { s' with heap := h3 } → wpAny (model X.prog X.w) (X.A.mark (some (.ref a))) (eval (.Name x np) X.env) Q E { s' with heap := h3 } := fun {Q E} q => by
          obtain ⟨hg, hdbg, hm | ⟨hm, hv, hnn⟩⟩ := hc
          · exact ld_glob (X := X.suite a ((a, oe3) :: (X.pn ++ pins))) S3 hg hm q hdbg
          · exact ld_blt (X := X.suite a ((a, oe3) :: (X.pn ++ pins))) S3 hg hm hv q hnn hdbg
        refine test (LM.here ?_)
        cases b with
        | true =>
          refine codeAny_handlers_suite_as ?_
          refine HandSPX.lands_againZ fl3 fun h4 fl4 up4 => ?_
          have J4 : Inv X pins σ' H' { s' with heap := h4 } := J.landed nb fl4.1 ((up.trans up3).trans up4) os ag
          obtain ⟨oe4, vs4, he4, hz4, hd4⟩ := fl4.there
          have S4 := J4.suite he4 hd4 na nL nF
          refine store_ok (X := X.suite a ((a, oe4) :: (X.pn ++ pins))) (v := .ref a) S4 hN hi hloc rfl (fun s5 S5 => ?_) (.inr hln)
          refine wpAny_mono ((hsu a oe4 cls d (X.pn ++ pins) hz4 ⟨_, hd4⟩).run [] s5 _ H' _ S5 (hyes rfl a na)) (fun f s6 hsp => ?_) (fun _ _ z => False.elim z)
          have end_ : ∀ {σ6 : St} {H6 : Hp} {Q : Shared → Prop}, Inv (X.suite a ((a, oe4) :: (X.pn ++ pins))) [] σ6 H6 s6 → (∀ s7, Inv X pins (σ6.set i none) H6 s7 → Q s7) →
              wpAny (model X.prog X.w) X.A (do bindName X.env n .none; unbindBehindTheSuite X.env n pos') (fun _ s7 => Q s7) X.xe s6 := fun {σ6 H6 Q} S6 hq => gone_ok (S6.unsuite ok) hN hi hln hq
          cases f with
          | next =>
            obtain ⟨σ6, H6, S6, q6⟩ := hsp
            exact end_ S6 fun s7 J7 => ⟨_, _, J7, q6⟩
          | brk =>
            obtain ⟨σ6, H6, S6, q6⟩ := hsp
            exact end_ S6 fun s7 J7 => ⟨_, _, J7, q6⟩
          | cont =>
            obtain ⟨σ6, H6, S6, q6⟩ := hsp
            exact end_ S6 fun s7 J7 => ⟨_, _, J7, q6⟩
          | ret u =>
            obtain ⟨v6, σ6, H6, S6, r6, q6⟩ := hsp
            exact end_ S6 fun s7 J7 => ⟨_, _, _, J7, r6, q6⟩
        | false =>
          show wpAny _ X.A (handleBy (.ref a) X.env hds2) _ _ _
          exact ih (hno rfl)
    exact go hh w
  · cases f with
    | next =>
      obtain ⟨σ', H', J', q⟩ := hsp
      exact wpAny_execs_nil ⟨σ', H', J'.ofTry ok, q⟩
    | brk =>
      obtain ⟨σ', H', J', q⟩ := hsp
      exact ⟨σ', H', J'.ofTry ok, q⟩
    | cont =>
      obtain ⟨σ', H', J', q⟩ := hsp
      exact ⟨σ', H', J'.ofTry ok, q⟩
    | ret u =>
      obtain ⟨v, σ', H', J', r, q⟩ := hsp
      exact ⟨v, σ', H', J'.ofTry ok, r, q⟩
end
end L2N

/-! raise C(..), a class with an __init__ of its own, values by name too -/
namespace L2
open PySem PySem.Spec PyProof.Rows
/-- what is asked of C(..) that is raised -/
def tMkN (C : Addr) (n m : Nat) (sp : Sp) (gV : List V → List V → List V) (t tk : TA) : St → Hp → XK → Prop := fun σ H Q =>
  t σ H fun vs H1 => tk σ H1 fun zs H2 => vs.length = n ∧ zs.length = m ∧ ∀ a, H2 a = none → sp (gV (.ref a :: vs) zs) (upd H2 a (exo a C none))
    (fun v H3 => v = .non ∧ ∃ (d : Addr) (fs : List (Str × V)), H3 a = some (exo a C (some d)) ∧ H3 d = some (exd d fs) ∧ H2 d = none ∧ Q (.ref C) (some d) (upd (del H3 a) d (.xd fs))) fun _ _ _ => False
section
variable {X : Cx} {CX : CXT} {k n : Nat} {C fI : Addr} {fd : FuncData} {ps ks : List Str} {sp : Sp} {x : Str} {p pos : Pos}
variable {e : Expr} {es : List Expr} {kws : List Keyword} {t tk : TA} {g : List Value → List Value → List Value} {gV : List V → List V → List V}
theorem run_mkN {pins : List Pin} {σ : St} {H : Hp} {s : Shared} {Q : XK} {us ws : List Value} {vs zs : List V} (T : OexC X.K C)
    (iC : PySem.W.findIn X.K (.ref C) "__init__" = some (some (.ref fI))) (tI : PySem.W.typeIn X.K (.ref fI) = some (.type "function"))
    (F : FnOk X.prog X.w X.K X.mg X.base CX k fI fd ps sp) (hr : Room (k + 1) X.A) (hb : KBn X.K fd ps (n + 1) ks g gV)
    (hx : Passes CX X fun _ _ _ => False) (I : Inv X pins σ H s) (r : Vals vs us) (rz : Vals zs ws) (l1 : vs.length = n)
    (l2 : zs.length = ks.length) (hn : n ≤ 1000)
    (h : ∀ a, H a = none → sp (gV (.ref a :: vs) zs) (upd H a (exo a C none)) (fun v H3 => v = .non ∧ ∃ (d : Addr) (fs : List (Str × V)), H3 a = some (exo a C (some d)) ∧ H3 d = some (exd d fs) ∧ H d = none ∧ Q (.ref C) (some d) (upd (del H3 a) d (.xd fs))) fun _ _ _ => False) :
    wpAny (model X.prog X.w) X.A (call (.ref C) us (ks.zip ws)) (L2N.MkP X pins σ Q) X.xe s := by
  obtain ⟨nm, q, N, bs, bm, sn, sub, ab, col, dd, k0, k1, k2, k3, k5, hC, hbm⟩ := T.cls
  obtain ⟨hp, gs, dr, tk0, os⟩ := s
  have le1 : hp.objs.size ≤ hp.objs.size + 1 := Nat.le_succ _
  have hq := h (hp.objs.size + 1) (I.hok.fresh le1)
  have up : ∀ b o, hp.get? b = some o → (PySem.MlE.withNew hp C us).get? b = some o :=
    fun b o e => Heap.get?_push_of_some _ (Heap.get?_push_of_some _ e)
  have atE : (PySem.MlE.withNew hp C us).get? (hp.objs.size + 1) = some (PySem.HandSPX.excO C hp.objs.size) := by heap_get
  have I2 : Inv X pins σ (upd H (hp.objs.size + 1) (exo (hp.objs.size + 1) C none)) ⟨PySem.MlE.withNew hp C us, gs, dr, tk0, os⟩ :=
    I.laid (t' := tk0) (a := hp.objs.size + 1) (o := exo (hp.objs.size + 1) C none) (h' := PySem.MlE.withNew hp C us) up le1 (exo_ok atE)
  have r1 : Vals (V.ref (hp.objs.size + 1) :: vs) (Value.ref (hp.objs.size + 1) :: us) := .cons rfl r
  have r2 := hb.rel r1 rz
  have e1 : (Value.ref (hp.objs.size + 1) :: us).length = n + 1 := r1.length.symm.trans (congrArg Nat.succ l1)
  have e2 : ws.length = ks.length := rz.length.symm.trans l2
  have hus : us.length ≤ sizeLine := by
    have z := r.length
    rw [sizeLine_eq]
    omega
  refine wpAny_call (PySem.MlE.callK PySem.F.excBase_ValueError (fun Y => PySem.HandSPX.refsVE_contains Y bm hbm)
    (I.kIn _ _ hC) (PySem.W.looks_findIn I.kIn iC) (fun self => PySem.W.bind_fn I.kIn self tI) hus ?_)
  refine codeAny_mono (F.run _ X.stack _ _ ⟨Value.ref (hp.objs.size + 1) :: us, ks.zip ws⟩ (g (Value.ref (hp.objs.size + 1) :: us) ws)
    _ _ (fun _ _ _ => False) (hr.make C us (ks.zip ws)) (I2.env0.make C us (ks.zip ws))
    (hb.to _ (Value.ref (hp.objs.size + 1) :: us) ws I2.kIn e1 e2) r2 hq) fun r s1 h1 => ?_
  cases r with
  | error er => exact hx pins σ _ _ er s1 I2 h1
  | ok fl =>
    cases fl with
    | ret u =>
      obtain ⟨v, H3, os2, bare2, un2, hok2, rv, ev, d, fs, ea, ed, hd1, q2⟩ := h1
      subst ev
      obtain ⟨h2, g2, d2, t2, os'⟩ := s1
      obtain ⟨t0, G, J, kG, ge, hoe, na⟩ := mk_end0 (d2 := d2) (t2 := t2) I le1 up un2 hok2 os2 bare2 ea ed hd1
      refine ⟨rv, ⟨hp.objs.size + 1, _, _, ⟨G, g2, d2, t2, os'⟩, _, .ref C, some d, rfl, J, kG, ge, hoe, ⟨rfl, rfl, fun vs hv => ?_⟩, rfl, rfl, na, rfl, bare2, raises_own T.exC T.tyC, q2⟩⟩
      cases hv
      rfl
    | next => exact False.elim h1
    | brk => exact False.elim h1
    | cont => exact False.elim h1
theorem pmk_mkN (T : OexC X.K C) (iC : PySem.W.findIn X.K (.ref C) "__init__" = some (some (.ref fI)))
    (tI : PySem.W.typeIn X.K (.ref fI) = some (.type "function")) (FI : FnOk X.prog X.w X.K X.mg X.base CX k fI fd ps sp) (hr : Room (k + 1) X.A)
    (hb : KBn X.K fd ps (n + 1) [] g gV) (hx : Passes CX X fun _ _ _ => False) (hn : n ≤ 1000) (hg : Gl X x) (hm : X.mg x = some (.ref C)) (ha : PA X (e :: es) t)
    (hdb : (x == ("__debug__" : Str)) = false := by decide) (he : starEach (e :: es) X.env = (false, eval e X.env) :: starEach es X.env := by rfl)
    (hpl : (backTo pos (starEach es X.env)).any (·.1) = false := by rfl) : L2N.PMk X (.Call (.Name x p) (e :: es) [] pos) (tMkN C n 0 sp gV t tNil) := by
  intro pins s σ H Q I h
  refine wpAny_Call_Name_kw (ld_glob I hg hm ?_ hdb)
  refine PySem.W.callWith_K (h₀ := X.base) I.ok.mod.kin T.kC ?_ he hpl
  refine thn (ha.run pos pins s σ H _ I h) fun us s1 ⟨vs, H1, I1, r, l1, l2, q⟩ => ⟨I1.kIn, ?_⟩
  exact run_mkN (ks := []) (ws := []) (zs := []) T iC tI FI hr hb hx I1 r .nil l1 rfl hn q
theorem pmk_mkNK (T : OexC X.K C) (iC : PySem.W.findIn X.K (.ref C) "__init__" = some (some (.ref fI)))
    (tI : PySem.W.typeIn X.K (.ref fI) = some (.type "function")) (FI : FnOk X.prog X.w X.K X.mg X.base CX k fI fd ps sp) (hr : Room (k + 1) X.A)
    (hb : KBn X.K fd ps 1 ks g gV) (hx : Passes CX X fun _ _ _ => False) (hg : Gl X x) (hm : X.mg x = some (.ref C)) (hkw : PK X kws tk)
    (hall : (backToKw pos (keywordEach kws X.env)).all (·.1.isSome) = true := by rfl)
    (hks : (backToKw pos (keywordEach kws X.env)).filterMap (·.1) = ks := by rfl) (hdb : (x == ("__debug__" : Str)) = false := by decide)
    (hpl : ((backTo pos (starEach [] X.env)).any (·.1) || (backToKw pos (keywordEach kws X.env)).any (·.1.isNone)) = false := by rfl) :
    L2N.PMk X (.Call (.Name x p) [] kws pos) (tMkN C 0 ks.length sp gV tNil tk) := by
  intro pins s σ H Q I h
  refine wpAny_Call_Name_kw (ld_glob I hg hm ?_ hdb)
  refine PySem.W.callWith_KW0 (h₀ := X.base) I.ok.mod.kin T.kC hall ?_ hpl
  refine thn (hkw.run pos pins s σ H _ I h) fun ws s2 ⟨zs, H2, I2, rz, l1, l2, q2⟩ => ⟨I2.kIn, ?_⟩
  rw [hks]
  exact run_mkN (us := []) (vs := []) T iC tI FI hr hb hx I2 .nil rz rfl l2 (Nat.zero_le _) q2
end
theorem pmk_mono {X : Cx} {e : Expr} {t u : St → Hp → XK → Prop} (h : L2N.PMk X e t) (k : ∀ σ H Q, u σ H Q → t σ H Q) : L2N.PMk X e u := fun pins s σ H Q I q => h pins s σ H Q I (k _ _ _ q)
/-- X(v), v in slot i, that is raised -/
def tRs1 (i : Nat) (C : Addr) (f : Str) : St → Hp → XK → Prop := fun σ H Q => ∃ v, σ[i]? = some (some v) ∧ ∀ d H', Same H H' → H' d = some (.xd [(f, v)]) → Q (.ref C) (some d) H'
def tRs2 (i j : Nat) (C : Addr) (f g : Str) : St → Hp → XK → Prop := fun σ H Q => ∃ v w, σ[i]? = some (some v) ∧ σ[j]? = some (some w) ∧ ∀ d H', Same H H' → H' d = some (.xd [(g, w), (f, v)]) → Q (.ref C) (some d) H'
theorem raised_at {H : Hp} {a C d : Addr} {fs : List (Str × V)} {Q : XK} (ha : H a = none) (n : upd H a (exo a C none) d = none) (ne : d ≠ a) (q : ∀ d H', Same H H' → H' d = some (.xd fs) → Q (.ref C) (some d) H') :
    ∃ (d' : Addr) (fs' : List (Str × V)), withEv (upd H a (exo a C none)) a C d fs a = some (exo a C (some d')) ∧ withEv (upd H a (exo a C none)) a C d fs d' = some (exd d' fs') ∧ H d' = none ∧
      Q (.ref C) (some d') (upd (del (withEv (upd H a (exo a C none)) a C d fs) a) d' (.xd fs')) := by
  rw [upd_withEv]
  have n2 : H d = none := by rwa [upd_ne ne] at n
  refine ⟨d, fs, by unfold withEv; rw [upd_same], by unfold withEv; rw [upd_ne ne, upd_same], n2, q _ _ (fun b o z => ?_) upd_same⟩
  have hb : b ≠ a := ne_of_none z ha
  have hd : b ≠ d := ne_of_none z n2
  unfold withEv
  rw [upd_ne hd, del_ne hb, upd_ne hb, upd_ne hd]
  exact z
section
variable {X : Cx} {x f g : Str} {i j : Nat} {v u : Expr} {p pos kp kp2 : Pos}
theorem pmk_e1 (O : One X.prog X.w X.K X.mg X.base x f) (hr : Room 2 X.A) (hv : PE X v (tVar i)) (hg : Gl X x) (hdb : (x == ("__debug__" : Str)) = false := by decide)
    (he : starEach [v] X.env = (false, eval v X.env) :: starEach [] X.env := by rfl) (hpl : (backTo pos (starEach [] X.env)).any (·.1) = false := by rfl) :
    L2N.PMk X (.Call (.Name x p) [v] [] pos) (tRs1 i (He.ga X.K x) f) := by
  obtain ⟨fd, F, b1, b2⟩ := O.ini
  refine pmk_mono (pmk_mkN O.T O.iC O.tI F hr b1 pass0 (by decide) hg O.mgx (pa_cons hv pa_nil he) hdb he hpl) fun σ H Q h => ?_
  obtain ⟨y, hy, q⟩ := h
  exact ⟨y, hy, rfl, rfl, fun a ha => ⟨a, y, rfl, upd_same, fun dx n ne => ⟨rfl, raised_at ha n ne q⟩⟩⟩
theorem pmk_e1K (O : One X.prog X.w X.K X.mg X.base x f) (hr : Room 2 X.A) (hv : PE X v (tVar i)) (hg : Gl X x) (hdb : (x == ("__debug__" : Str)) = false := by decide)
    (hall : (backToKw pos (keywordEach [⟨some f, v, kp⟩] X.env)).all (·.1.isSome) = true := by rfl)
    (hks : (backToKw pos (keywordEach [⟨some f, v, kp⟩] X.env)).filterMap (·.1) = [f] := by rfl)
    (hpl : ((backTo pos (starEach [] X.env)).any (·.1) || (backToKw pos (keywordEach [⟨some f, v, kp⟩] X.env)).any (·.1.isNone)) = false := by rfl) :
    L2N.PMk X (.Call (.Name x p) [] [⟨some f, v, kp⟩] pos) (tRs1 i (He.ga X.K x) f) := by
  obtain ⟨fd, F, b1, b2⟩ := O.ini
  refine pmk_mono (pmk_mkNK O.T O.iC O.tI F hr b2 pass0 hg O.mgx (pk_cons hv pk_nil) hall hks hdb hpl) fun σ H Q h => ?_
  obtain ⟨y, hy, q⟩ := h
  exact ⟨y, hy, rfl, rfl, fun a ha => ⟨a, y, rfl, upd_same, fun dx n ne => ⟨rfl, raised_at ha n ne q⟩⟩⟩
theorem pmk_e2 (O : Two X.prog X.w X.K X.mg X.base x f g) (hr : Room 2 X.A) (hv : PE X v (tVar i)) (hu : PE X u (tVar j)) (hg : Gl X x) (hdb : (x == ("__debug__" : Str)) = false := by decide)
    (he : starEach [v, u] X.env = (false, eval v X.env) :: starEach [u] X.env := by rfl) (he2 : starEach [u] X.env = (false, eval u X.env) :: starEach [] X.env := by rfl)
    (hpl : (backTo pos (starEach [u] X.env)).any (·.1) = false := by rfl) : L2N.PMk X (.Call (.Name x p) [v, u] [] pos) (tRs2 i j (He.ga X.K x) f g) := by
  obtain ⟨fd, F, b1, b2, b3, b4⟩ := O.ini
  refine pmk_mono (pmk_mkN O.T O.iC O.tI F hr b1 pass0 (by decide) hg O.mgx (pa_cons hv (pa_cons hu pa_nil he2) he) hdb he hpl) fun σ H Q h => ?_
  obtain ⟨y, z, hy, hz, q⟩ := h
  exact ⟨y, hy, z, hz, rfl, rfl, fun a ha => ⟨a, y, z, rfl, upd_same, fun dx n ne => ⟨rfl, raised_at ha n ne q⟩⟩⟩
theorem pmk_e2R (O : Two X.prog X.w X.K X.mg X.base x f g) (hr : Room 2 X.A) (hv : PE X v (tVar i)) (hu : PE X u (tVar j)) (hg : Gl X x) (hdb : (x == ("__debug__" : Str)) = false := by decide)
    (hall : (backToKw pos (keywordEach [⟨some g, u, kp⟩, ⟨some f, v, kp2⟩] X.env)).all (·.1.isSome) = true := by rfl)
    (hks : (backToKw pos (keywordEach [⟨some g, u, kp⟩, ⟨some f, v, kp2⟩] X.env)).filterMap (·.1) = [g, f] := by rfl)
    (hpl : ((backTo pos (starEach [] X.env)).any (·.1) || (backToKw pos (keywordEach [⟨some g, u, kp⟩, ⟨some f, v, kp2⟩] X.env)).any (·.1.isNone)) = false := by rfl) :
    L2N.PMk X (.Call (.Name x p) [] [⟨some g, u, kp⟩, ⟨some f, v, kp2⟩] pos) (tRs2 i j (He.ga X.K x) f g) := by
  obtain ⟨fd, F, b1, b2, b3, b4⟩ := O.ini
  refine pmk_mono (pmk_mkNK O.T O.iC O.tI F hr b3 pass0 hg O.mgx (pk_cons hu (pk_cons hv pk_nil)) hall hks hdb hpl) fun σ H Q h => ?_
  obtain ⟨y, z, hy, hz, q⟩ := h
  exact ⟨z, hz, y, hy, rfl, rfl, fun a ha => ⟨a, y, z, rfl, upd_same, fun dx n ne => ⟨rfl, raised_at ha n ne q⟩⟩⟩
end
end L2

/-! a string's signs, whether or not an exception is handled -/
namespace L2
open PySem PySem.Spec PyProof.Rows
open HotX (HotAt)
section
variable {prog : Program} {w : World} {A : Around} {E : Value → Shared → Prop} {s : Shared} {it x1 : Addr} {x : Str} {t : Tok} {i : Nat} {Q : Option Value → Shared → Prop}
/-- the handled exception is no string's iterator -/
theorem hot_ne {ty : String} (hot : HotAt A x1 s.heap) (hit : s.heap.IsStrIter it ty x t i) : x1 ≠ it := by
  obtain ⟨_, o1, vs1, h1, d1, c1⟩ := hot
  obtain ⟨o, ho, hc, hd⟩ := hit
  intro z
  rw [z, ho] at h1
  cases h1
  rw [hd] at d1
  cases d1
  cases c1
theorem end_ascii_hot (hot : HotAt A x1 s.heap) (hit : s.heap.IsStrIter it "str_ascii_iterator" x t i) (hx : x.cps[i]? = none)
    (hQ : ∀ h1, (∀ b o, b ≠ it → s.heap.get? b = some o → h1.get? b = some o) → Q none { s with heap := h1 }) :
    wpAny (model prog w) A (pyNext (.ref it)) Q E s := by
  have ne := hot_ne hot hit
  obtain ⟨hh, o1, vs1, g1, d1, c1⟩ := hot
  have hT := hit.typeIs
  obtain ⟨o, ho, hc, hd⟩ := hit
  unfold pyNext
  refine wpAny_bind (wpAny_attempt (wpAny_callSpecial?_slot (name := Str.ofString "__next__") hT F.slot_str_ascii_iterator_next (wpAny_call_entry F.slot_str_ascii_iterator_next hT F.entry_str_ascii_iterator_next ?_
    (F.args_str_ascii_iterator_next_1 _))))
  show wpAny _ _ (field (.ref it) 0 >>= _) _ _ s
  refine wpAny_bind (wpAny_field ho hd (x := .str x t) rfl ?_)
  show wpAny _ _ (field (.ref it) 1 >>= _) _ _ s
  refine wpAny_bind (wpAny_field ho hd (x := .int i 0) rfl ?_)
  simp only [Int.toNat_natCast, hx]
  refine wpAny_bind (wpAny_rule (wpAny_bind (wpAny_setField ho hd (by simp) (wpAny_bind (wpAny_letGo ?_)))))
  show wpAny _ _ (newExc (.type "StopIteration") [] >>= _) _ _ _
  generalize hU : s.heap.update it _ = U
  have up : ∀ b u, b ≠ it → s.heap.get? b = some u → U.get? b = some u := fun b u n e => by
    rw [← hU, Heap.get?_update_other _ _ n.symm]
    exact e
  refine wpAny_bind ?_
  simp only [newExc, newTuple]
  refine wpAny_bind (wpAny_newObj_type ?_ (by size_fits))
  refine wpAny_bind (m := firstArgMember _ _) (wpAny_of_eq (a := Value.none) (by first | rfl | (simp only [firstArgMember]; rfl)) ?_)
  refine wpAny_newObj_type ?_ (by size_fits)
  have p1 := up _ _ ne g1
  refine HotX.raiseNew_hot ⟨hh, o1, vs1, Heap.get?_push_of_some _ (Heap.get?_push_of_some _ p1), d1, c1⟩ (Nat.ne_of_lt (Heap.lt_size (Heap.get?_push_of_some _ p1))) (Heap.get?_push_size _ rfl) rfl (by first | (simp; done) | (simp; omega)) ?_
  refine wpAny_bind (wpAny_isInstance (T := "StopIteration") (b := true) ⟨_, Heap.get?_update_self _ (Heap.get?_push_size _ rfl) rfl, rfl⟩ isSubtype_stop ?_)
  refine wpAny_pure (hQ _ fun b u n e => ?_)
  have e2 := up _ _ n e
  rw [Heap.get?_update_other _ _ (Nat.ne_of_gt (Heap.lt_size (Heap.get?_push_of_some _ e2)))]
  exact Heap.get?_push_of_some _ (Heap.get?_push_of_some _ e2)
theorem end_wide_hot (hot : HotAt A x1 s.heap) (hit : s.heap.IsStrIter it "str_iterator" x t i) (hx : x.cps[i]? = none)
    (hQ : ∀ h1, (∀ b o, b ≠ it → s.heap.get? b = some o → h1.get? b = some o) → Q none { s with heap := h1 }) :
    wpAny (model prog w) A (pyNext (.ref it)) Q E s := by
  have ne := hot_ne hot hit
  obtain ⟨hh, o1, vs1, g1, d1, c1⟩ := hot
  have hT := hit.typeIs
  obtain ⟨o, ho, hc, hd⟩ := hit
  unfold pyNext
  refine wpAny_bind (wpAny_attempt (wpAny_callSpecial?_slot (name := Str.ofString "__next__") hT F.slot_str_iterator_next (wpAny_call_entry F.slot_str_iterator_next hT F.entry_str_iterator_next ?_
    (F.args_str_iterator_next_1 _))))
  show wpAny _ _ (field (.ref it) 0 >>= _) _ _ s
  refine wpAny_bind (wpAny_field ho hd (x := .str x t) rfl ?_)
  show wpAny _ _ (field (.ref it) 1 >>= _) _ _ s
  refine wpAny_bind (wpAny_field ho hd (x := .int i 0) rfl ?_)
  simp only [Int.toNat_natCast, hx]
  refine wpAny_bind (wpAny_rule (wpAny_bind (wpAny_setField ho hd (by simp) (wpAny_bind (wpAny_letGo ?_)))))
  show wpAny _ _ (newExc (.type "StopIteration") [] >>= _) _ _ _
  generalize hU : s.heap.update it _ = U
  have up : ∀ b u, b ≠ it → s.heap.get? b = some u → U.get? b = some u := fun b u n e => by
    rw [← hU, Heap.get?_update_other _ _ n.symm]
    exact e
  refine wpAny_bind ?_
  simp only [newExc, newTuple]
  refine wpAny_bind (wpAny_newObj_type ?_ (by size_fits))
  refine wpAny_bind (m := firstArgMember _ _) (wpAny_of_eq (a := Value.none) (by first | rfl | (simp only [firstArgMember]; rfl)) ?_)
  refine wpAny_newObj_type ?_ (by size_fits)
  have p1 := up _ _ ne g1
  refine HotX.raiseNew_hot ⟨hh, o1, vs1, Heap.get?_push_of_some _ (Heap.get?_push_of_some _ p1), d1, c1⟩ (Nat.ne_of_lt (Heap.lt_size (Heap.get?_push_of_some _ p1))) (Heap.get?_push_size _ rfl) rfl (by first | (simp; done) | (simp; omega)) ?_
  refine wpAny_bind (wpAny_isInstance (T := "StopIteration") (b := true) ⟨_, Heap.get?_update_self _ (Heap.get?_push_size _ rfl) rfl, rfl⟩ isSubtype_stop ?_)
  refine wpAny_pure (hQ _ fun b u n e => ?_)
  have e2 := up _ _ n e
  rw [Heap.get?_update_other _ _ (Nat.ne_of_gt (Heap.lt_size (Heap.get?_push_of_some _ e2)))]
  exact Heap.get?_push_of_some _ (Heap.get?_push_of_some _ e2)
end
theorem turn_strW {P : Program} {w : World} {K : PySem.W.Frag} {tg : Expr} (it : Addr) (x : Str) (t : Tok) (ty : String) (hty : ty = "str_ascii_iterator" ∨ ty = "str_iterator") :
    TurnW P w K tg (Its x) [it] it (fun i h => h.IsStrIter it ty x t i) where
  obj := fun i h st b hb => by
    obtain rfl : b = it := by simpa using hb
    obtain ⟨o, e, c, d⟩ := st
    refine ⟨o, e, fun v z => ?_⟩
    rw [d] at z
    cases z
  keep := fun i h h1 st k => by
    obtain ⟨o, ho, r⟩ := st
    exact ⟨o, k it (by simp) o ho, r⟩
  item := by
    rintro X rfl rfl rfl i pins s σ H E hw I hf st hg
    obtain ⟨f0, f1, f2, f3, f4, f5⟩ := hf it (by simp)
    have lt : i < x.cps.size := hg
    have hx : x.cps[i]? = some x.cps[i] := Array.getElem?_eq_getElem lt
    have key : ∀ h1 : Heap, h1.IsStrIter it ty x t (i + 1) → Heap.SameBut it s.heap h1 → wpAny (model X.prog X.w) X.A (letOwnedTupleGo tg (.ref it) (.str ⟨#[x.cps[i]]⟩ s.toks))
        (fun _ s2 => ∃ y H1, Inv X pins σ H1 s2 ∧ RelV y (.str ⟨#[x.cps[i]]⟩ s.toks) ∧ (Its x).yld i H y H1 ∧ s2.heap.IsStrIter it ty x t (i + 1) ∧ ∀ b ∈ [it], H1 b = none) E { s with heap := h1, toks := s.toks + 1 } := by
      intro h1 st1 sb
      have I1 : Inv X pins σ H { s with heap := h1, toks := s.toks + 1 } := I.turned (fun b o hb e => (sb.2 b hb).trans e) f0 f1 f3 f4 f5
      obtain ⟨oi, e, cc, dd⟩ := id st1
      have hno : ["enumerate", "zip", "dict_itemiterator", "dict_reverseitemiterator", "odict_iterator", "itertools.zip_longest", "itertools.pairwise"].contains ty = false := by
        rcases hty with z | z
        · rw [z]; decide
        · rw [z]; decide
      exact go_of (s := { s with heap := h1, toks := s.toks + 1 }) e cc dd hno ⟨.str ⟨#[x.cps[i]]⟩, H, I1, ⟨s.toks, rfl⟩, ⟨rfl, _, hx, rfl⟩, st1, fun b hb => (hf b hb).1⟩
    rcases hty with z | z
    · subst z
      exact wpAny_pyNext_ascii_item st hx fun h1 st1 sb => ⟨_, rfl, key h1 st1 sb⟩
    · subst z
      exact wpAny_pyNext_wide_item st hx fun h1 st1 sb => ⟨_, rfl, key h1 st1 sb⟩
  done := by
    rintro X rfl rfl rfl i pins s σ H E hw I hf st hg
    obtain ⟨f0, f1, f2, f3, f4, f5⟩ := hf it (by simp)
    have hx : x.cps[i]? = none := Array.getElem?_eq_none hg
    rcases hty with z | z
    · subst z
      rcases hw with hw | ⟨x1, hot⟩
      · exact wpAny_pyNext_ascii_end hw st hx fun h1 eb => ⟨rfl, I.turned (t' := s.toks) (fun b o hb e => eb b o hb e) f0 f1 f3 f4 f5⟩
      · exact end_ascii_hot hot st hx fun h1 eb => ⟨rfl, I.turned (t' := s.toks) (fun b o hb e => eb b o hb e) f0 f1 f3 f4 f5⟩
    · subst z
      rcases hw with hw | ⟨x1, hot⟩
      · exact wpAny_pyNext_wide_end hw st hx fun h1 eb => ⟨rfl, I.turned (t' := s.toks) (fun b o hb e => eb b o hb e) f0 f1 f3 f4 f5⟩
      · exact end_wide_hot hot st hx fun h1 eb => ⟨rfl, I.turned (t' := s.toks) (fun b o hb e => eb b o hb e) f0 f1 f3 f4 f5⟩
  self := fun A i s Q E st h => by
    rcases hty with z | z
    · subst z
      exact wpAny_pyIter_striter_ascii st h
    · subst z
      exact wpAny_pyIter_striter_wide st h
theorem one_itW {X : Cx} {tg : Expr} {pins : List Pin} {σ : St} {H : Hp} {s : Shared} {R : It → Hp → Prop} {x : Str} {t : Tok} {ty : String} {o : Obj} {tk : Nat} (I : Inv X pins σ H s) (hty : ty = "str_ascii_iterator" ∨ ty = "str_iterator")
    (st : (s.heap.push o).IsStrIter s.heap.objs.size ty x t 0) (q : R (Its x) H) : PIEW X pins σ tg R (.ref s.heap.objs.size) { s with heap := s.heap.push o, toks := tk } := by
  refine ⟨s.heap.objs.size, [s.heap.objs.size], _, _, H, rfl, I.kept (t' := tk) fun b o e => Heap.get?_push_of_some _ e, turn_strW _ x t ty hty, st, fun b hb => ?_, q⟩
  obtain rfl : b = s.heap.objs.size := by simpa using hb
  exact I.fpOk (Nat.le_refl _) (I.hok.fresh (Nat.le_refl _))
theorem pi_strW {X : Cx} {tg e : Expr} {te : TE} (he : PE X e te) : PIW X tg e (iStr te) := by
  refine ⟨fun pins s σ H R I h => ?_⟩
  refine thn (he.run pins s σ H _ I h) fun v s1 ⟨y, H1, I1, r1, x, ex, q⟩ => ?_
  subst ex
  obtain ⟨t, rfl⟩ := r1
  cases ha : x.cps.all (· < 128)
  · exact wpAny_pyIter_wide ha (one_itW I1 (.inr rfl) ⟨_, Heap.get?_push_size _ rfl, rfl, rfl⟩ q)
  · exact wpAny_pyIter_ascii ha (one_itW I1 (.inl rfl) ⟨_, Heap.get?_push_size _ rfl, rfl, rfl⟩ q)
end L2

namespace L2
open PySem PySem.Spec PyProof.Rows
section
variable {X : Cx} {ps : List Pin}
/-- type(e), e an exception -/
theorem call_typeEv (hps : ∀ p ∈ ps, p ∈ X.pn) : CallR X (.type "type") (fun xs H Q => ∃ (a C d : Addr) (fs : List (Str × V)), xs = [.ref a] ∧ EvP ps H a C d fs ∧ Q (.ref C) H) := by
  intro pins s σ H xs us Q I r h
  obtain ⟨a, C, d, fs, rfl, ev, q⟩ := h
  obtain ⟨u, rfl, ru⟩ := vals1 r
  obtain rfl : u = Value.ref a := ru
  obtain ⟨oe, od, mA, J, _⟩ := ev.look I hps
  obtain ⟨hh, g, d2, t, os⟩ := s
  refine call_type_obj J.at_ (by rw [J.cls]; rfl) ?_
  rw [J.cls]
  exact ⟨.ref C, H, I, rfl, q⟩
theorem op_isRT : OpR X (compareOp .Is) (fun x y H Q => ∃ a b, x = .ref a ∧ y = .ty b ∧ Q (.bl false) H) := by
  intro pins s σ H x y v u Q I rx ry h
  obtain ⟨a, b, rfl, rfl, q⟩ := h
  obtain rfl : v = Value.ref a := rx
  obtain rfl : u = Value.type b := ry
  exact wpAny_is_other rfl (fun z => nomatch z) ⟨.bl false, H, I, rfl, q⟩
theorem op_notRT : OpR X (compareOp .IsNot) (fun x y H Q => ∃ a b, x = .ref a ∧ y = .ty b ∧ Q (.bl true) H) := by
  intro pins s σ H x y v u Q I rx ry h
  obtain ⟨a, b, rfl, rfl, q⟩ := h
  obtain rfl : v = Value.ref a := rx
  obtain rfl : u = Value.type b := ry
  exact wpAny_isNot_plain rfl (fin_bl I q rfl)
end
/-- data as in Rdd: its type's name -/
theorem Rdd.tyb {K : PySem.W.Frag} {H : Hp} {v : V} {d : PyData} (r : Rdd H v d) : ∃ T : String, TyB K H v T ∧ TyX K H v (.type T) ∧ (T = "str" → ∃ z, v = .str z ∧ d = .str z) ∧ (T = "tuple" → ∃ p xs ds, v = .ref p ∧ d = .tuple ds ∧ H p = some (.tup xs) ∧ RddAll H xs ds) := by
  cases r with
  | non => exact ⟨_, .non, .base .non, (fun z => absurd z (by decide)), fun z => absurd z (by decide)⟩
  | bl b => exact ⟨_, .bl b, .base (.bl b), (fun z => absurd z (by decide)), fun z => absurd z (by decide)⟩
  | int i => exact ⟨_, .int i, .base (.int i), (fun z => absurd z (by decide)), fun z => absurd z (by decide)⟩
  | str x => exact ⟨_, .str x, .base (.str x), (fun _ => ⟨_, rfl, rfl⟩), fun z => absurd z (by decide)⟩
  | lst h r => exact ⟨_, .lst (SqL.of h), .base (.lst h), (fun z => absurd z (by decide)), fun z => absurd z (by decide)⟩
  | tup h r => exact ⟨_, .tup (SqT.of h), .base (.tup h), (fun z => absurd z (by decide)), fun _ => ⟨_, _, _, rfl, rfl, h, r⟩⟩
  | dK h r1 r2 => exact ⟨_, .dK h, .base (.dK h), (fun z => absurd z (by decide)), fun z => absurd z (by decide)⟩
end L2

/-! how long the text of data can be -/
namespace L2
open PySem PySem.Spec PyProof.Rows
open PySem.PyData
mutual
/-- its text is at most so long -/
def wt : PyData → Nat
  | .none => 4
  | .bool _ => 5
  | .int i => (PyData.shown (.int i)).length
  | .str x => 10 * x.length + 2
  | .list xs => wtAll xs + 2
  | .tuple xs => wtAll xs + 3
  | .dict kvs => wtKv kvs + 2
def wtAll : List PyData → Nat
  | [] => 0
  | x :: xs => wt x + 2 + wtAll xs
def wtKv : List (PyData × PyData) → Nat
  | [] => 0
  | q :: r => wt q.1 + wt q.2 + 4 + wtKv r
end
mutual
/-- all signs of it are plain ones -/
def asc : PyData → Bool
  | .str x => x.cps.toList.all fun c => decide (c < 128)
  | .list xs => ascAll xs
  | .tuple xs => ascAll xs
  | .dict kvs => ascKv kvs
  | _ => true
def ascAll : List PyData → Bool
  | [] => true
  | x :: xs => asc x && ascAll xs
def ascKv : List (PyData × PyData) → Bool
  | [] => true
  | q :: r => asc q.1 && (asc q.2 && ascKv r)
end
theorem from_le : ∀ (ts : List Str) (k : Nat) (acc : Str), (textFrom k acc ts).length ≤ acc.length + piled ts
  | [], k, acc => by
    show acc.length ≤ _
    omega
  | t :: r, k, acc => by
    have h := from_le r (k + 1) (acc ++ (if k > 0 then ", " else "" : String) ++ t)
    have e : (acc ++ (if k > 0 then ", " else "" : String) ++ t).length ≤ acc.length + 2 + t.length := by
      rw [strLen_append, strLen_append]
      have e2 : ((", " : String) : Str).length = 2 := rfl
      have e0 : (("" : String) : Str).length = 0 := rfl
      split
      · rw [e2] <;> omega
      · rw [e0] <;> omega
    have p : piled (t :: r) = t.length + 2 + piled r := by simp [piled]
    show (textFrom (k + 1) _ r).length ≤ _
    omega
theorem list_le (ts : List Str) : (listText ts).length ≤ piled ts + 2 := by
  unfold listText
  rw [strLen_append]
  have h := from_le ts 0 "["
  have e1 : (("[" : String) : Str).length = 1 := rfl
  have e2 : (("]" : String) : Str).length = 1 := rfl
  omega
theorem join_le (ts : List Str) : (Str.join ", " ts).length ≤ piled ts := by
  by_cases h : ts = []
  · subst h
    exact Nat.zero_le _
  · have z := join_length_add ts h
    omega
theorem tuple_le (ts : List Str) : (tupleText ts).length ≤ piled ts + 3 := by
  unfold tupleText
  rw [strLen_append, strLen_append]
  have h := join_le ts
  have e1 : (("(" : String) : Str).length = 1 := rfl
  have e2 : ((",)" : String) : Str).length = 2 := rfl
  have e3 : ((")" : String) : Str).length = 1 := rfl
  split
  · rw [e2] <;> omega
  · rw [e3] <;> omega
theorem dict_le (ts : List Str) : (dictText ts).length ≤ piled ts + 2 := by
  unfold dictText
  rw [strLen_append, strLen_append]
  have h := join_le ts
  have e1 : (("{" : String) : Str).length = 1 := rfl
  have e2 : (("}" : String) : Str).length = 1 := rfl
  omega
mutual
theorem shown_le : ∀ d : PyData, asc d = true → (PyData.shown d).length ≤ wt d
  | .none, _ => by simp only [PyData.shown, wt]; decide
  | .bool b, _ => by cases b <;> (simp only [PyData.shown, wt]; decide)
  | .int i, _ => by simp only [wt]; exact Nat.le_refl _
  | .str x, h => by
    simp only [PyData.shown, wt]
    refine PySem.StrLaws.reprText_len x fun c hc => ?_
    simp only [asc] at h
    have z := of_decide_eq_true (List.all_eq_true.mp h c hc)
    exact Nat.lt_of_lt_of_le z (by decide)
  | .list xs, h => by
    simp only [PyData.shown, wt]
    simp only [asc] at h
    have z := shownAll_le xs h
    have y := list_le (PyData.shownAll xs)
    omega
  | .tuple xs, h => by
    simp only [PyData.shown, wt]
    simp only [asc] at h
    have z := shownAll_le xs h
    have y := tuple_le (PyData.shownAll xs)
    omega
  | .dict kvs, h => by
    simp only [PyData.shown, wt]
    simp only [asc] at h
    have z := shownKv_le kvs h
    have y := dict_le (PyData.shownKv kvs)
    omega
theorem shownAll_le : ∀ xs : List PyData, ascAll xs = true → piled (PyData.shownAll xs) ≤ wtAll xs
  | [], _ => by simp [PyData.shownAll, piled, wtAll]
  | x :: xs, h => by
    simp only [ascAll, Bool.and_eq_true] at h
    have z := shown_le x h.1
    have y := shownAll_le xs h.2
    simp only [PyData.shownAll, wtAll]
    have p : piled (PyData.shown x :: PyData.shownAll xs) = (PyData.shown x).length + 2 + piled (PyData.shownAll xs) := by simp [piled]
    omega
theorem shownKv_le : ∀ kvs : List (PyData × PyData), ascKv kvs = true → piled (PyData.shownKv kvs) ≤ wtKv kvs
  | [], _ => by simp [PyData.shownKv, piled, wtKv]
  | q :: r, h => by
    obtain ⟨k, v⟩ := q
    simp only [ascKv, Bool.and_eq_true] at h
    have z := shown_le k h.1
    have y := shown_le v h.2.1
    have x := shownKv_le r h.2.2
    simp only [PyData.shownKv, wtKv]
    have p : piled ((PyData.shown k ++ (": " : Str) ++ PyData.shown v) :: PyData.shownKv r) = (PyData.shown k ++ (": " : Str) ++ PyData.shown v).length + 2 + piled (PyData.shownKv r) := by simp [piled]
    rw [p, strLen_append, strLen_append]
    have e2 : ((": " : String) : Str).length = 2 := rfl
    omega
end
/-- data whose text is told -/
structure Tame (d : PyData) : Prop where
  a : asc d = true
  s : d.showable = true
  h : d.depth ≤ 32
  w : wt d ≤ 1000000
theorem Tame.len {d : PyData} (t : Tame d) : d.shown.length ≤ sizeLine := by
  have z := shown_le d t.a
  have y := t.w
  rw [sizeLine_eq]
  omega
end L2

/-! != of two lists whose items are equal, whatever these are -/
namespace PySem.SeqAt
open AutoSeq1 (wpAny_loadPart')
open MeetsSeq MeetsSeq2 MeetsSeq3
section
variable {prog : Program} {w : World}
theorem ne_loopE (l r : Addr) (xs ys : Array Value) (n m : Nat) (d1 d2 : Option Addr) (s1 s2 : Array (Option Value)) (hsz : xs.size = ys.size) (k : Nat) :
    ∀ i : Nat, xs.size - i = k → MeetsIn prog w (Builtin.«list.__eq__.loop» ⟨[.ref l, .ref r, rawInt i, rawInt 3], []⟩)
      (fun A R s => s.heap.get? l = some { cls := .type "list", dict := d1, data := .seq xs n, slots := s1 } ∧
        s.heap.get? r = some { cls := .type "list", dict := d2, data := .seq ys m, slots := s2 } ∧
        (∀ j (h1 : j < xs.size) (h2 : j < ys.size), EqP prog w A.in1 s xs[j] ys[j] true) ∧ R (.ok (.ret (.bool false))) s) := by
  induction k with
  | zero =>
    intro i hk A R s h
    obtain ⟨hp, gs, dr, tk, os⟩ := s
    obtain ⟨hl, hr, he, h⟩ := h
    wp_walk using wpAny_loadPart' hl, wpAny_loadPart' hr
    have z1 : xs[((i : Nat) : Int).toNat]? = none := by simp; omega
    have z2 : ys[((i : Nat) : Int).toNat]? = none := by simp; omega
    rw [z1, z2]
    wp_walk using wpAny_loadPart' hl, wpAny_loadPart' hr
    show R (.ok (.ret (.bool (xs.size != ys.size)))) _
    rw [hsz]
    simpa using h
  | succ k ih =>
    intro i hk A R s h
    obtain ⟨hp, gs, dr, tk, os⟩ := s
    obtain ⟨hl, hr, he, h⟩ := h
    wp_walk using wpAny_loadPart' hl, wpAny_loadPart' hr
    have l1 : i < xs.size := by omega
    have l2 : i < ys.size := by omega
    have z1 : xs[((i : Nat) : Int).toNat]? = some xs[i] := by simp [l1]
    have z2 : ys[((i : Nat) : Int).toNat]? = some ys[i] := by simp [l2]
    have up : ((i : Int) + 1) = ((i + 1 : Nat) : Int) := by omega
    rw [z1, z2]
    refine wpAny_bind (he i l1 l2 _ _ ?_)
    wp_walk
    rw [up]
    refine ⟨plainId_quiet plain_eq_loop _, codeAny_builtin entry_eq_loop ?_⟩
    rw [Around.under_plainId plain_eq_loop _]
    exact ih (i + 1) (by omega) A R _ ⟨hl, hr, he, h⟩
theorem list_neE (l r : Addr) (xs ys : Array Value) (n m : Nat) (d1 d2 : Option Addr) (s1 s2 : Array (Option Value)) (hsz : xs.size = ys.size) :
    MeetsIn prog w (Builtin.«list.__ne__» ⟨[.ref l, .ref r], []⟩)
      (fun A R s => s.heap.get? l = some { cls := .type "list", dict := d1, data := .seq xs n, slots := s1 } ∧
        s.heap.get? r = some { cls := .type "list", dict := d2, data := .seq ys m, slots := s2 } ∧
        (∀ j (h1 : j < xs.size) (h2 : j < ys.size), EqP prog w A.in1 s xs[j] ys[j] true) ∧ R (.ok (.ret (.bool false))) s) := by
  intro A R s h
  obtain ⟨hp, gs, dr, tk, os⟩ := s
  obtain ⟨hl, hr, he, h⟩ := h
  have f3 := AutoSeq1.sub_list_list
  have same : ¬ (xs.size != ys.size) = true := by simp [hsz]
  wp_walk using wpAny_loadPart' hl, wpAny_loadPart' hr
  refine ⟨plainId_quiet plain_eq_loop _, codeAny_builtin entry_eq_loop ?_⟩
  rw [Around.under_plainId plain_eq_loop _]
  exact ne_loopE l r xs ys n m d1 d2 s1 s2 hsz _ 0 rfl A R _ ⟨hl, hr, he, h⟩
theorem rcNe_lists {A : Around} {s : Shared} {l r : Addr} {xs ys : Array Value} (hl : s.heap.IsList l xs) (hr : s.heap.IsList r ys) (hsz : xs.size = ys.size) (hu : A.units < cLine)
    (he : ∀ j (h1 : j < xs.size) (h2 : j < ys.size), EqP prog w A.in1 s xs[j] ys[j] true) (E Q : Value → Shared → Prop) (h : Q (.bool false) s) :
    wpAny (model prog w) A (richCompare .NotEq (.ref l) (.ref r)) Q E s := by
  obtain ⟨⟨c1, e1, f1, g1⟩, o1, hc1, n, hd1⟩ := id hl
  obtain ⟨⟨c2, e2, f2, g2⟩, o2, hc2, m, hd2⟩ := id hr
  simp only at hc1 hd1 hc2 hd2
  subst hc1 hd1 hc2 hd2
  have t1 : s.TypeIs (.ref l) "list" := ⟨_, o1, rfl⟩
  have t2 : s.TypeIs (.ref r) "list" := ⟨_, o2, rfl⟩
  refine wpAny_richCompare_same_room (op := .NotEq) t1 t2 F.slot_list_ne ?_ hu
  refine call_meetsIn F.slot_list_ne t1 F.entry_list_ne (F.args_list_ne_2 _ _) (list_neE l r xs ys n m e1 e2 g1 g2 hsz) ?_
  exact ⟨o1, o2, he, show Value.bool false ≠ Value.notImplemented ∧ Q (.bool false) s from ⟨(fun x => nomatch x), h⟩⟩
end
end PySem.SeqAt
namespace L2
open PySem PySem.Spec PyProof.Rows
/-- a != b, two lists of equal items -/
def rNeV (K : PySem.W.Frag) : R2 := fun x y H Q => ∃ (n : Nat) (a b : Addr) (xs ys : List V), n ≤ 60 ∧ x = .ref a ∧ y = .ref b ∧ SqL K H a xs ∧ SqL K H b ys ∧ Paired (EqV K H n) xs ys ∧ Q (.bl false) H
theorem op_neV {X : Cx} (hu : X.A.units + 64 < cLine) : OpR X (compareOp .NotEq) (rNeV X.K) := by
  intro pins s σ H x y v u Q I rx ry h
  obtain ⟨n, a, b, xs, ys, hn, rfl, rfl, ha, hb, hp, q⟩ := h
  obtain rfl : v = Value.ref a := rx
  obtain rfl : u = Value.ref b := ry
  obtain ⟨us, r1, p1, _⟩ := I.list ha
  obtain ⟨ws, r2, p2, _⟩ := I.list hb
  have hsz : us.toArray.size = ws.toArray.size := by
    rw [List.size_toArray, List.size_toArray, ← r1.length, ← r2.length]
    exact Paired.length hp
  refine SeqAt.rcNe_lists p1.isList p2.isList hsz (by omega) (fun j h1 h2 => ?_) _ _ ⟨.bl false, H, I, rfl, q⟩
  have k := items_run (fun x y v u => eqV_run I n X.A.in1 (by show X.A.units + 1 + n < cLine; omega) x y v u) hp r1 r2 j (by simpa using h1) (by simpa using h2)
  simpa using k
end L2

/-! a def of the text with its promise; small lemmas -/
namespace L2
open PySem PySem.Spec PyProof.Rows
abbrev Fd (K : PySem.W.Frag) (x : Str) (st : Stmt) (f : Addr) (fd : FuncData) : Prop := FunD K x x (defArgs st) (defBody st) (defScope st) [] [] f fd
/-- the def st of the text, called x, keeps sp -/
structure Ok (P : Program) (w : World) (K : PySem.W.Frag) (mg : Str → Option Value) (base : Heap) (CX : CXT) (k : Nat) (x : Str) (st : Stmt) (ps : List Str) (sp : Sp) : Prop where
  ex : ∃ f fd, mg x = some (.ref f) ∧ Fd K x st f fd ∧ Binds K fd ps [] ∧ FnOk P w K mg base CX k f fd ps sp
theorem Ok.mono {P : Program} {w : World} {K : PySem.W.Frag} {mg : Str → Option Value} {base : Heap} {CX : CXT} {j k : Nat} {x : Str} {st : Stmt} {ps : List Str} {sp : Sp} (O : Ok P w K mg base CX j x st ps sp) (h : j ≤ k) : Ok P w K mg base CX k x st ps sp :=
  let ⟨f, fd, g, F, b, o⟩ := O.ex
  ⟨f, fd, g, F, b, o.mono h⟩
theorem Ok.imp {P : Program} {w : World} {K : PySem.W.Frag} {mg : Str → Option Value} {base : Heap} {CX : CXT} {k : Nat} {x : Str} {st : Stmt} {ps : List Str} {sp sp' : Sp} (O : Ok P w K mg base CX k x st ps sp) (h : ∀ vs H Q E, sp' vs H Q E → sp vs H Q E) : Ok P w K mg base CX k x st ps sp' :=
  let ⟨f, fd, g, F, b, o⟩ := O.ex
  ⟨f, fd, g, F, b, o.imp h⟩
/-- .. that is called where no repr is under way -/
structure OkG (P : Program) (w : World) (K : PySem.W.Frag) (mg : Str → Option Value) (base : Heap) (k : Nat) (x : Str) (st : Stmt) (ps : List Str) (sp : Sp) : Prop where
  ex : ∃ f fd, mg x = some (.ref f) ∧ Fd K x st f fd ∧ Binds K fd ps [] ∧ FnG P w K mg base k f fd ps sp
/-- names of the machine that the text does not hide -/
structure Blts (mg : Str → Option Value) (us : List Str) : Prop where
  u : ∀ x, x ∈ us → mg x = none
theorem pass_none {X : Cx} (σ : St) : PassesAt CX0 X σ fun _ _ _ => False := fun _ _ _ _ _ _ h => h.elim
theorem takes_none {X : Cx} : L2N.Takes X fun _ _ _ _ => False := fun _ _ ⟨_, _, _, _, _, _, _, _, _, _, _, _, _, _, _, _, w⟩ => w.elim
theorem pass_noneN {X : Cx} (σ : St) : PassesAt (L2N.CX X.prog X.w) X σ fun _ _ _ => False := fun _ _ _ _ _ _ ⟨_, _, _, _, _, _, _, _, _, _, _, _, h⟩ => h.elim
section
variable {X : Cx} {CX : CXT} {j k n : Nat} {x : Str} {st : Stmt} {ps ks : List Str} {sp : Sp} {E : St → XK} {np pos : Pos} {e : Expr} {es : List Expr} {kws : List Keyword} {t tk : TA} {g : List Value → List Value → List Value} {gV : List V → List V → List V}
theorem pe_o (O : Ok X.prog X.w X.K X.mg X.base CX0 k x st ps sp) (hr : Room k X.A) (hg : Gl X x) (ha : PA X (e :: es) t) (hdb : (x == ("__debug__" : Str)) = false := by decide)
    (he : starEach (e :: es) X.env = (false, eval e X.env) :: starEach es X.env := by rfl) (hpl : (backTo pos (starEach es X.env)).any (·.1) = false := by rfl) : PE X (.Call (.Name x np) (e :: es) [] pos) (tCallS sp (fun _ => noE) t) := by
  obtain ⟨f, fd, gm, F, b, o⟩ := O.ex
  exact pe_callS o hr hg gm F.kp b pass_none ha hdb he hpl
theorem pe_oS (O : Ok X.prog X.w X.K X.mg X.base CX k x st ps sp) (hr : Room k X.A) (hg : Gl X x) (hx : ∀ σ, PassesAt CX X σ (E σ)) (ha : PA X (e :: es) t) (hdb : (x == ("__debug__" : Str)) = false := by decide)
    (he : starEach (e :: es) X.env = (false, eval e X.env) :: starEach es X.env := by rfl) (hpl : (backTo pos (starEach es X.env)).any (·.1) = false := by rfl) : PE X (.Call (.Name x np) (e :: es) [] pos) (tCallS sp E t) := by
  obtain ⟨f, fd, gm, F, b, o⟩ := O.ex
  exact pe_callS o hr hg gm F.kp b hx ha hdb he hpl
theorem pe_oG (O : OkG X.prog X.w X.K X.mg X.base k x st ps sp) (hgd : X.A.guards = some []) (hr : Room k X.A) (hg : Gl X x) (ha : PA X (e :: es) t) (hdb : (x == ("__debug__" : Str)) = false := by decide)
    (he : starEach (e :: es) X.env = (false, eval e X.env) :: starEach es X.env := by rfl) (hpl : (backTo pos (starEach es X.env)).any (·.1) = false := by rfl) : PE X (.Call (.Name x np) (e :: es) [] pos) (tCall sp [] noE t) := by
  obtain ⟨f, fd, gm, F, b, o⟩ := O.ex
  exact pe_callG o hgd hr hg gm F.kp b ha hdb he hpl
/-- f(k = v, ..) -/
theorem pe_oK0 (O : Ok X.prog X.w X.K X.mg X.base CX k x st ps sp) (hr : Room k X.A) (hg : Gl X x) (hb : ∀ f fd, Fd X.K x st f fd → KBn X.K fd ps 0 ks g gV) (hx : ∀ σ, PassesAt CX X σ (E σ)) (hkw : PK X kws tk)
    (hall : (backToKw pos (keywordEach kws X.env)).all (·.1.isSome) = true := by rfl) (hks : (backToKw pos (keywordEach kws X.env)).filterMap (·.1) = ks := by rfl) (hdb : (x == ("__debug__" : Str)) = false := by decide)
    (hpl : ((backTo pos (starEach [] X.env)).any (·.1) || (backToKw pos (keywordEach kws X.env)).any (·.1.isNone)) = false := by rfl) : PE X (.Call (.Name x np) [] kws pos) (tCallKS 0 ks.length sp gV E tNil tk) := by
  obtain ⟨f, fd, gm, F, b, o⟩ := O.ex
  exact pe_callKS0 o hr hg gm F.kp (hb f fd F) hx hkw hall hks hdb hpl
/-- f(e, .., k = v, ..) -/
theorem pe_oK (O : Ok X.prog X.w X.K X.mg X.base CX k x st ps sp) (hr : Room k X.A) (hg : Gl X x) (hb : ∀ f fd, Fd X.K x st f fd → KBn X.K fd ps n ks g gV) (hx : ∀ σ, PassesAt CX X σ (E σ)) (ha : PA X (e :: es) t) (hkw : PK X kws tk)
    (hall : (backToKw pos (keywordEach kws X.env)).all (·.1.isSome) = true := by rfl) (hks : (backToKw pos (keywordEach kws X.env)).filterMap (·.1) = ks := by rfl) (hdb : (x == ("__debug__" : Str)) = false := by decide)
    (he : starEach (e :: es) X.env = (false, eval e X.env) :: starEach es X.env := by rfl) (hpl : ((backTo pos (starEach (e :: es) X.env)).any (·.1) || (backToKw pos (keywordEach kws X.env)).any (·.1.isNone)) = false := by rfl) :
    PE X (.Call (.Name x np) (e :: es) kws pos) (tCallKS n ks.length sp gV E t tk) := by
  obtain ⟨f, fd, gm, F, b, o⟩ := O.ex
  exact pe_callKS o hr hg gm F.kp (hb f fd F) hx ha hkw hall hks hdb he hpl
end
/-! ### type(x) in (A, B) -/
theorem meta_ty {T : String} (h : T ∈ ["NoneType", "bool", "int", "str", "list", "tuple", "dict"]) (s : Shared) : s.TypeIs (.type T) "type" := by
  simp only [List.mem_cons, List.not_mem_nil, or_false] at h
  rcases h with rfl | rfl | rfl | rfl | rfl | rfl | rfl
  · exact TypeEq.meta_NoneType s
  · exact TypeEq.meta_bool s
  · exact TypeEq.meta_int s
  · exact TypeEq.meta_str s
  · exact TypeEq.meta_list s
  · exact TypeEq.meta_tuple s
  · exact TypeEq.meta_dict s
theorem eqAt_ty {A : Around} {s : Shared} {a b : String} (ha : a ∈ ["NoneType", "bool", "int", "str", "list", "tuple", "dict"]) (hb : b ∈ ["NoneType", "bool", "int", "str", "list", "tuple", "dict"]) : SeqAt.EqAt A s (.type a) (.type b) (decide (a = b)) := fun prog w E Q h => by
  by_cases e : a = b
  · subst e
    rw [decide_eq_true rfl] at h
    exact SeqAt.EqAt.same (.type a) prog w E Q h
  · rw [decide_eq_false e] at h
    have ne : (Value.type a == Value.type b) = false := by rw [ty_beq, decide_eq_false e]
    unfold eqBool
    refine wpAny_holding ?_
    refine wpAny_ite_split (fun hab => absurd hab (by rw [ne]; exact Bool.false_ne_true)) (fun _ => ?_)
    refine wpAny_bind ?_
    exact TypeEq.eq_type_other (fun s' => meta_ty ha s') (fun s' => meta_ty hb s') ne (wpAny_truthy_bool h)
def rInTy (K : PySem.W.Frag) : R2 := fun x y H Q => ∃ (p : Addr) (T : String) (Us : List String), x = .ty T ∧ y = .ref p ∧ SqT K H p (Us.map V.ty) ∧ T ∈ ["NoneType", "bool", "int", "str", "list", "tuple", "dict"] ∧ (∀ U ∈ Us, U ∈ ["NoneType", "bool", "int", "str", "list", "tuple", "dict"]) ∧ Q (.bl (decide (T ∈ Us))) H
theorem vals_ty : ∀ {Us : List String} {its : List Value}, Vals (Us.map V.ty) its → its = Us.map Value.type
  | [], _, .nil => rfl
  | U :: Us, _, .cons r t => by rw [show _ = Value.type U from r, vals_ty t]; rfl
theorem op_inTy {X : Cx} : OpR X (compareOp .In) (rInTy X.K) := by
  intro pins s σ H x y v u Q I rx ry h
  obtain ⟨p, T, Us, rfl, rfl, hp, hT, hU, q⟩ := h
  obtain rfl : v = Value.type T := rx
  obtain rfl : u = Value.ref p := ry
  obtain ⟨its, r, pl, hz⟩ := I.tuple hp
  have e := vals_ty r
  subst e
  refine SeqAt.in_tupleAt (fun w => match w with | .type U => decide (U = T) | _ => false) pl (fun w hw => ?_) ⟨.bl _, H, I, rfl, ?_⟩
  · obtain ⟨U, hm, rfl⟩ := List.mem_map.mp (show w ∈ Us.map Value.type by simpa using hw)
    exact eqAt_ty (hU U hm) hT
  · have : ((Us.map Value.type).toArray.any fun w => match w with | .type U => decide (U = T) | _ => false) = decide (T ∈ Us) := by
      rw [List.any_toArray, List.any_map]
      clear hU r pl hz q hp
      induction Us with
      | nil => rfl
      | cons U Us ih =>
        rw [List.any_cons, ih]
        show (decide (U = T) || decide (T ∈ Us)) = _
        by_cases e : U = T
        · subst e; simp
        · have e2 : ¬ T = U := fun z => e z.symm
          simp [e, e2]
    rw [this]
    exact q
abbrev rTupOf (K : PySem.W.Frag) : List V → Hp → VK → Prop := fun xs H Q => ∃ p ys, xs = [V.ref p] ∧ ((SqL K H p ys ∧ ∀ (l : Addr), H l = none → Q (V.ref l) (upd H l (HO.tup ys))) ∨ SqT K H p ys ∧ Q (V.ref p) H)
abbrev rLstOf (K : PySem.W.Frag) : List V → Hp → VK → Prop := fun xs H Q => ∃ p ys, xs = [.ref p] ∧ (SqL K H p ys ∨ SqT K H p ys) ∧ ∀ l, H l = none → Q (.ref l) (upd H l (.lst ys))
/-! ### small words -/
theorem pss_mono {X : Cx} {st : List Stmt} {t u : TS} (h : PSs X st t) (k : ∀ D σ H, u D σ H → t D σ H) : PSs X st u := ⟨fun pins s σ H D I q => h.run pins s σ H D I (k _ _ _ q)⟩
theorem two_ln {n : Nat} (h : n ≤ 16777216) : n ≤ sizeLine := by
  rw [sizeLine_eq]
  exact h
theorem lt_ln {n : Nat} (h : n < 16777216) : n < sizeLine := by
  rw [sizeLine_eq]
  exact h
theorem upd_grow {H : Hp} {p : Addr} {o : HO} (h : H p = none) : Same H (upd H p o) := fun b u e => by
  rw [upd_ne (ne_of_none e h)]
  exact e
theorem iteB {c : Bool} {A B : Prop} (h1 : c = true → A) (h2 : c = false → B) : if c = true then A else B := by
  cases c with
  | true => exact iteT (h1 rfl)
  | false => exact iteF (h2 rfl)
/-- all but what stands at p is kept -/
def But (p : Addr) (H H' : Hp) : Prop := ∀ b o, b ≠ p → H b = some o → H' b = some o
theorem But.of {p : Addr} {H H' : Hp} (k : Same H H') : But p H H' := fun b o _ e => k b o e
theorem But.trans {p : Addr} {H H1 H2 : Hp} (a : But p H H1) (b : But p H1 H2) : But p H H2 := fun c o hc e => b c o hc (a c o hc e)
theorem But.upd {p : Addr} {H : Hp} {o : HO} : But p H (L2.upd H p o) := fun b u hb e => by
  rw [upd_ne hb]
  exact e
theorem del_mono {p : Addr} {H H' : Hp} (k : Same H H') : Same (del H p) (del H' p) := fun b o e => by
  by_cases z : b = p
  · rw [z, del_same] at e
    cases e
  · rw [del_ne z] at e ⊢
    exact k b o e
theorem del_upd {p : Addr} {H : Hp} {o : HO} : Same (del H p) (L2.upd H p o) := fun b u e => by
  by_cases z : b = p
  · rw [z, del_same] at e
    cases e
  · rw [upd_ne z]
    rwa [del_ne z] at e
theorem del_le {p : Addr} {H : Hp} : Same (del H p) H := fun b o e => by
  by_cases z : b = p
  · rw [z, del_same] at e
    cases e
  · rwa [del_ne z] at e
theorem but_del {p : Addr} {H H' : Hp} (k : But p H H') : Same (del H p) (del H' p) := fun b o e => by
  by_cases z : b = p
  · rw [z, del_same] at e
    cases e
  · rw [del_ne z] at e ⊢
    exact k b o z e
theorem fresh_same {l : Addr} {H H' : Hp} {o : HO} (hl : H l = none) (k : But l (L2.upd H l o) H') : Same H H' := fun b u e => k b u (ne_of_none e hl) (by rw [upd_ne (ne_of_none e hl)]; exact e)
theorem ixAt {K : PySem.W.Frag} {H : Hp} {p : Addr} {xs : List V} {i : Int} {v : V} {Q : VK} (h : H p = some (.lst xs)) (e : atI xs i = some v) (q : Q v H) : rIx K (.ref p) (.int i) H Q :=
  .inl ⟨p, xs, i, v, rfl, rfl, SqL.of h, e, q⟩
theorem ixTup {K : PySem.W.Frag} {H : Hp} {p : Addr} {xs : List V} {i : Int} {v : V} {Q : VK} (h : SqT K H p xs) (e : atI xs i = some v) (q : Q v H) : rIx K (.ref p) (.int i) H Q :=
  .inr (.inl ⟨p, xs, i, v, rfl, rfl, h, e, q⟩)
theorem not_t {b : Bool} (h : (!b) = true) : b = false := by simpa using h
theorem not_f {b : Bool} (h : (!b) = false) : b = true := by simpa using h
theorem rdds_len {H : Hp} : ∀ {xs : List V} {ds : List PyData}, RddAll H xs ds → xs.length = ds.length
  | _, _, .nil => rfl
  | _, _, .cons _ t => congrArg Nat.succ (rdds_len t)
theorem rdds_two {H : Hp} {xs : List V} {a b : PyData} : RddAll H xs [a, b] → ∃ x y, xs = [x, y] ∧ Rdd H x a ∧ Rdd H y b
  | .cons r1 (.cons r2 .nil) => ⟨_, _, rfl, r1, r2⟩
theorem rdds_add {H : Hp} {v : V} {d : PyData} (h : Rdd H v d) : ∀ {xs : List V} {ds : List PyData}, RddAll H xs ds → RddAll H (xs ++ [v]) (ds ++ [d])
  | _, _, .nil => .cons h .nil
  | _, _, .cons r t => .cons r (rdds_add h t)
theorem rdds_get {H : Hp} : ∀ {xs : List V} {ds : List PyData} {i : Nat} {d : PyData}, RddAll H xs ds → ds[i]? = some d → ∃ x, xs[i]? = some x ∧ Rdd H x d
  | _, _, _, _, .nil, e => by simp at e
  | _, _, 0, _, .cons r _, e => by simp at e; subst e; exact ⟨_, rfl, r⟩
  | _, _, i + 1, _, .cons _ t, e => rdds_get (i := i) t (by simpa using e)
theorem rdds_of {H : Hp} : ∀ {xs : List V} {ds : List PyData}, xs.length = ds.length → (∀ (i : Nat) (x : V) (d : PyData), xs[i]? = some x → ds[i]? = some d → Rdd H x d) → RddAll H xs ds
  | [], [], _, _ => .nil
  | x :: xs, d :: ds, l, h => by
    refine .cons (h 0 x d rfl rfl) (rdds_of (by simpa using l) fun i y e h1 h2 => h (i + 1) y e ?_ ?_)
    · rw [List.getElem?_cons_succ]; exact h1
    · rw [List.getElem?_cons_succ]; exact h2
  | [], _ :: _, l, _ => nomatch l
  | _ :: _, [], l, _ => nomatch l
theorem rdds_app {H : Hp} : ∀ {xs ys : List V} {ds es : List PyData}, RddAll H xs ds → RddAll H ys es → RddAll H (xs ++ ys) (ds ++ es)
  | _, _, _, _, .nil, s => s
  | _, _, _, _, .cons r t, s => .cons r (rdds_app t s)
theorem str_eq {a b : Str} (h : a.cps.toList = b.cps.toList) : a = b := by
  cases a; cases b
  simp at h
  rw [h]
theorem same_del {H H' : Hp} {D : Addr} (k : Same H H') (h : H D = none) : Same H (del H' D) := fun b o e => by
  rw [del_ne (ne_of_none e h)]
  exact k b o e
theorem del_new {b p : Addr} {H : Hp} {o u : HO} (hb : H b = some o) (hp : H p = none) : del (upd H p u) b p = some u := by
  rw [del_ne (ne_of_none hb hp).symm]
  exact upd_same
/-- a comprehension over what is walked, its test p, its items as R tells; the new list at D is no part of what R speaks of -/
theorem lc_gen {J : It} {n : Nat} {G : Hp → Prop} {Y : Nat → Hp → V → Hp → Prop} (w : Walk J n G Y) {g : TG} {tt : TT} {te : TE} {vs : List Nat} {σ : St} {H : Hp} {D : Addr} {Qd : Hp → Prop} (p : Nat → Bool) (R : Nat → V → Hp → Prop)
    (Rm : ∀ i y H1 H2, Same H1 H2 → R i y H1 → R i y H2) (hD : H D = none) (hn : n ≤ 16777215) (hG : ∀ H', Same H (del H' D) → G H')
    (he : ∀ i x H1 H2 (K : V → Hp → Prop) (N : Hp → Prop), i < n → Same H (del H1 D) → (∃ o, H1 D = some o) → Y i H1 x H2 → (p i = true → ∀ y H4, Same H1 H4 → R i y (del H4 D) → K y H4) → (p i = false → ∀ H4, Same H1 H4 → N H4) →
      g x (wipe σ vs) H2 fun σ2 H2' => wipe σ2 vs = wipe σ vs ∧ tt σ2 H2' fun b H3 => if b = true then te σ2 H3 K else N H3)
    (q : ∀ (ys : List V) (H' : Hp), Same H (del H' D) → H' D = some (.lst ys) → ys.length = ((List.range n).filter p).length → (∀ (k i : Nat) (y : V), ((List.range n).filter p)[k]? = some i → ys[k]? = some y → R i y (del H' D)) → Qd H') :
    ∃ W : Nat → Nat → Hp → Prop, (∃ m, W 0 m (upd H D (.lst []))) ∧ ∀ i m H, W i m H →
      (J.stop i H ∧ Qd H) ∨ (J.go i H ∧ ∃ Nx : Hp → Prop, (∀ H', Nx H' → ∃ m', m' < m ∧ W (i + 1) m' H') ∧ ∀ x H', J.yld i H x H' → g x (wipe σ vs) H' fun σ2 H2 => wipe σ2 vs = wipe σ vs ∧ tt σ2 H2 fun b H3 =>
        if b = true then te σ2 H3 fun y H4 => ∃ acc, H4 D = some (.lst acc) ∧ acc.length < sizeLine ∧ Nx (upd H4 D (.lst (acc ++ [y]))) else Nx H3) := by
  have step : ∀ i, (List.range (i + 1)).filter p = (List.range i).filter p ++ (if p i = true then [i] else []) := fun i => by
    rw [List.range_succ, List.filter_append]
    by_cases e : p i = true
    · rw [if_pos e, List.filter_cons_of_pos e] <;> rfl
    · rw [if_neg e, List.filter_cons_of_neg e] <;> rfl
  refine lc_it w (fun i H' => Same H (del H' D) ∧ ∃ ys, H' D = some (.lst ys) ∧ ys.length = ((List.range i).filter p).length ∧ ∀ (k j : Nat) (y : V), ((List.range i).filter p)[k]? = some j → ys[k]? = some y → R j y (del H' D)) ?_ (fun i H' _ h => hG H' h.1) ?_ ?_
  · refine ⟨fun b o e => ?_, [], upd_same, rfl, fun k j y h => by simp at h⟩
    rw [del_ne (ne_of_none e hD), upd_ne (ne_of_none e hD)]
    exact e
  · rintro i x H1 H2 hi ⟨k1, ys, h1, l1, r1⟩ hy
    have bound : ((List.range i).filter p).length ≤ i := by
      have := List.length_filter_le p (List.range i)
      rwa [List.length_range] at this
    refine he i x H1 H2 _ _ hi k1 ⟨_, h1⟩ hy (fun e y H4 k4 r4 => ?_) (fun e H4 k4 => ?_)
    · refine ⟨ys, k4 _ _ h1, by rw [l1]; exact lt_ln (by omega), (fun b o z => ?_), _, upd_same, ?_, ?_⟩
      · have z1 := k1 b o z
        have nb : b ≠ D := ne_of_none z hD
        rw [del_ne nb] at z1 ⊢
        rw [upd_ne nb]
        exact k4 _ _ z1
      · rw [step, if_pos e, List.length_append, List.length_append, l1] <;> rfl
      · intro k j y2 hk hy2
        have dd : del (upd H4 D (.lst (ys ++ [y]))) D = del H4 D := by
          funext b
          by_cases nb : b = D
          · rw [nb, del_same, del_same]
          · rw [del_ne nb, del_ne nb, upd_ne nb]
        rw [dd]
        rw [step, if_pos e] at hk
        by_cases c : k < ys.length
        · rw [List.getElem?_append_left (by omega)] at hk
          rw [List.getElem?_append_left c] at hy2
          exact Rm _ _ _ _ (del_mono k4) (r1 k j y2 hk hy2)
        · have lt := (List.getElem?_eq_some_iff.mp hy2).1
          rw [List.length_append] at lt
          have ek : k = ys.length := by
            have : ([y] : List V).length = 1 := rfl
            omega
          subst ek
          rw [List.getElem?_append_right (by omega)] at hk
          rw [List.getElem?_append_right (Nat.le_refl _)] at hy2
          rw [← l1, Nat.sub_self] at hk
          rw [Nat.sub_self] at hy2
          obtain rfl : i = j := by simpa using hk
          obtain rfl : y = y2 := by simpa using hy2
          exact r4
    · refine ⟨(fun b o z => ?_), ys, k4 _ _ h1, ?_, ?_⟩
      · have z1 := k1 b o z
        have nb : b ≠ D := ne_of_none z hD
        rw [del_ne nb] at z1 ⊢
        exact k4 _ _ z1
      · rw [step, if_neg (by rw [e]; exact Bool.false_ne_true), List.append_nil, l1]
      · intro k j y2 hk hy2
        rw [step, if_neg (by rw [e]; exact Bool.false_ne_true), List.append_nil] at hk
        exact Rm _ _ _ _ (del_mono k4) (r1 k j y2 hk hy2)
  · rintro H1 ⟨k1, ys, h1, l1, r1⟩
    exact q ys H1 k1 h1 l1 r1
theorem map_of {F : Nat → V} : ∀ {is : List Nat} {ys : List V}, ys.length = is.length → (∀ (k i : Nat) (y : V), is[k]? = some i → ys[k]? = some y → y = F i) → ys = is.map F
  | [], [], _, _ => rfl
  | i :: is, y :: ys, l, h => by
    have e0 := h 0 i y rfl rfl
    have e1 : ys = is.map F := map_of (by simpa using l) fun k j z h1 h2 => h (k + 1) j z (by rw [List.getElem?_cons_succ]; exact h1) (by rw [List.getElem?_cons_succ]; exact h2)
    rw [e0, e1]
    rfl
  | [], _ :: _, l, _ => nomatch l
  | _ :: _, [], l, _ => nomatch l
/-- what is a list or a tuple, walked -/
def iSeq (K : PySem.W.Frag) (tl : TE) : TI := fun σ H R => tl σ H fun x H1 => ∃ a xs, x = .ref a ∧ (SqL K H1 a xs ∨ SqT K H1 a xs) ∧ ∀ J, Walk J xs.length (fun H => H a = H1 a) (YAt xs) → R J H1
theorem sqL_at {K : PySem.W.Frag} {H H' : Hp} {a : Addr} {xs : List V} (e : H' a = H a) (h : SqL K H a xs) : SqL K H' a xs :=
  h.elim (fun h => .inl (h.elim (fun h => .inl (e.trans h)) fun ⟨o, h⟩ => .inr ⟨o, e.trans h⟩)) fun h => .inr h
theorem sqT_at {K : PySem.W.Frag} {H H' : Hp} {a : Addr} {xs : List V} (e : H' a = H a) (h : SqT K H a xs) : SqT K H' a xs :=
  h.elim (fun h => .inl (h.elim (fun h => .inl (e.trans h)) fun ⟨o, h⟩ => .inr ⟨o, e.trans h⟩)) fun h => .inr h
theorem pi_seq {X : Cx} {tg l : Expr} {tl : TE} (hl : PE X l tl) : PI X tg l (iSeq X.K tl) := by
  refine ⟨fun pins s σ H R I h => ?_⟩
  refine thn (hl.run pins s σ H _ I h) fun v s1 ⟨x, H1, I1, r1, q1⟩ => ?_
  obtain ⟨a, xs, e, hq, q⟩ := q1
  subst e
  cases r1
  rcases hq with hq | hq
  · have q := q (Itl X.K a) (walk_list.mono (fun H e => sqL_at e hq) fun _ _ _ _ _ _ y => y)
    obtain ⟨its, rv, p, hz⟩ := I1.list hq
    refine wpAny_pyIter_list p.isList ?_
    refine ⟨s1.heap.objs.size, [s1.heap.objs.size], _, _, H1, rfl, I1.kept (t' := s1.toks) fun b o e => Heap.get?_push_of_some _ e, turn_list a _, ⟨_, Heap.get?_push_size _ rfl, rfl, rfl⟩, fun b hb => ?_, q⟩
    have e : b = s1.heap.objs.size := by simpa using hb
    subst e
    exact I1.fpOk (Nat.le_refl _) (I1.hok.fresh (Nat.le_refl _))
  · have q := q (Itt X.K a) (walk_tup.mono (fun H e => sqT_at e hq) fun _ _ _ _ _ _ y => y)
    obtain ⟨its, rv, p, hz⟩ := I1.tuple hq
    refine wpAny_pyIter_tuple (show s1.heap.IsTuple a its.toArray from p) ?_
    refine ⟨s1.heap.objs.size, [s1.heap.objs.size], _, _, H1, rfl, I1.kept (t' := s1.toks) fun b o e => Heap.get?_push_of_some _ e, turn_tuple a _, ⟨_, Heap.get?_push_size _ rfl, rfl, rfl⟩, fun b hb => ?_, q⟩
    have e : b = s1.heap.objs.size := by simpa using hb
    subst e
    exact I1.fpOk (Nat.le_refl _) (I1.hok.fresh (Nat.le_refl _))
theorem filt_all (n : Nat) : (List.range n).filter (fun _ => true) = List.range n := by
  rw [List.filter_eq_self]
  exact fun _ _ => rfl
theorem sqL_same {K : PySem.W.Frag} {H H' : Hp} {a : Addr} {xs : List V} (k : Same H H') (h : SqL K H a xs) : SqL K H' a xs := SqL.ext h k
theorem sqT_same {K : PySem.W.Frag} {H H' : Hp} {a : Addr} {xs : List V} (k : Same H H') (h : SqT K H a xs) : SqT K H' a xs := SqT.ext h k
theorem del_sub {H H' : Hp} {D : Addr} (k : Same H (del H' D)) : Same H H' := fun b o e => del_le b o (k b o e)
theorem rel_app {vs zs : List V} {us ws : List Value} (r : Vals vs us) (q : Vals zs ws) : Vals (vs ++ zs) (us ++ ws) := r.append q
end L2

/-! trees: their roads, their walks -/
namespace Tm
abbrev Road := Nat × Nat
/-- the order of two roads -/
def ltR (a b : Road) : Bool := decide (a.1 < b.1) || (decide (a.1 = b.1) && decide (a.2 < b.2))
structure RoadsOk (n : Nat) (rs : List Road) : Prop where
  len : rs.length + 1 = n
  bnd : ∀ r ∈ rs, r.1 < r.2 ∧ r.2 < n
  asc : rs.Pairwise (fun a b => ltR a b = true)
/-- the other end of a road at a house -/
def nb (h : Nat) (r : Road) : Option Nat := if r.1 = h then some r.2 else if r.2 = h then some r.1 else none
def near (rs : List Road) (h : Nat) : List Nat := rs.filterMap (nb h)
theorem near_snoc (rs : List Road) (r : Road) (h : Nat) : near (rs ++ [r]) h = near rs h ++ (nb h r).toList := by
  unfold near
  rw [List.filterMap_append]
  cases e : nb h r with
  | none => simp [e]
  | some x => simp [e]
theorem mem_near {rs : List Road} {h x : Nat} (H : x ∈ near rs h) : (h, x) ∈ rs ∨ (x, h) ∈ rs := by
  obtain ⟨r, hr, e⟩ := List.mem_filterMap.mp H
  unfold nb at e
  obtain ⟨a, b⟩ := r
  by_cases h1 : a = h
  · simp [h1] at e
    subst h1 e
    exact .inl hr
  · by_cases h2 : b = h
    · simp [h1, h2] at e
      subst h2 e
      exact .inr hr
    · simp [h1, h2] at e
theorem near_of {rs : List Road} {h x : Nat} (ne : ∀ r ∈ rs, r.1 < r.2) (H : (h, x) ∈ rs ∨ (x, h) ∈ rs) : x ∈ near rs h := by
  rcases H with H | H
  · exact List.mem_filterMap.mpr ⟨_, H, by simp [nb]⟩
  · have := ne _ H
    refine List.mem_filterMap.mpr ⟨_, H, ?_⟩
    have h1 : ¬ x = h := by
      intro e
      subst e
      exact absurd this (Nat.lt_irrefl _)
    simp [nb, h1]
theorem near_sym {rs : List Road} {h x : Nat} (ne : ∀ r ∈ rs, r.1 < r.2) (H : x ∈ near rs h) : h ∈ near rs x := near_of ne (mem_near H).symm
theorem near_lt {n : Nat} {rs : List Road} (ok : ∀ r ∈ rs, r.1 < r.2 ∧ r.2 < n) {h x : Nat} (H : x ∈ near rs h) : x < n ∧ h < n ∧ x ≠ h := by
  rcases mem_near H with H | H
  · have := ok _ H
    simp only at this
    omega
  · have := ok _ H
    simp only at this
    omega
/-- ascending -/
theorem near_asc {rs : List Road} (ne : ∀ r ∈ rs, r.1 < r.2) (asc : rs.Pairwise (fun a b => ltR a b = true)) (h : Nat) : (near rs h).Pairwise (· < ·) := by
  unfold near
  refine List.Pairwise.filterMap (R := fun a b => ltR a b = true ∧ a.1 < a.2 ∧ b.1 < b.2) (nb h) ?_ ?_
  · rintro ⟨a, b⟩ ⟨c, d⟩ ⟨l, l1, l2⟩ x hx y hy
    simp only [ltR, Bool.or_eq_true, Bool.and_eq_true, decide_eq_true_eq] at l
    simp only at l1 l2
    unfold nb at hx hy
    simp only at hx hy
    split at hx
    · split at hy
      · cases hx; cases hy; omega
      · split at hy
        · cases hx; cases hy; omega
        · cases hy
    · split at hx
      · split at hy
        · cases hx; cases hy; omega
        · split at hy
          · cases hx; cases hy; omega
          · cases hy
      · cases hx
  · exact asc.imp_of_mem fun ha hb e => ⟨e, ne _ ha, ne _ hb⟩
/-! ### the walk over all houses -/
abbrev B := List (Nat × Nat)
def keys (b : B) : List Nat := b.map (·.1)
/-- one neighbour o of h is looked at; the stack's top is its head -/
def visit (bar : Option Nat) (h : Nat) (s : B × List Nat) (o : Nat) : B × List Nat :=
  if some o = bar ∨ o ∈ keys s.1 then s else (s.1 ++ [(o, h)], o :: s.2)
abbrev visits (nr : Nat → List Nat) (bar : Option Nat) (h : Nat) (b : B) (st : List Nat) : B × List Nat := (nr h).foldl (visit bar h) (b, st)
inductive Dfs (nr : Nat → List Nat) (bar : Option Nat) : B → List Nat → B → Prop
  | done {b : B} : Dfs nr bar b [] b
  | step {b : B} {h : Nat} {st : List Nat} {r : B} : Dfs nr bar (visits nr bar h b st).1 (visits nr bar h b st).2 r → Dfs nr bar b (h :: st) r
theorem Dfs.det {nr : Nat → List Nat} {bar : Option Nat} {b : B} {st : List Nat} {r r' : B} (h : Dfs nr bar b st r) : Dfs nr bar b st r' → r = r' := by
  induction h with
  | done => intro k; cases k; rfl
  | step _ ih => intro k; cases k with | step k => exact ih k
/-- what has grown from the start -/
inductive Grown (nr : Nat → List Nat) (bar : Option Nat) (s : Nat) : B → Prop
  | base : Grown nr bar s [(s, s)]
  | grow {b : B} {x p : Nat} : Grown nr bar s b → p ∈ keys b → x ∈ nr p → some x ≠ bar → x ∉ keys b → Grown nr bar s (b ++ [(x, p)])
section
variable {nr : Nat → List Nat} {bar : Option Nat} {s : Nat}
theorem keys_snoc (b : B) (x p : Nat) : keys (b ++ [(x, p)]) = keys b ++ [x] := by simp [keys]
theorem Grown.nodup {b : B} (g : Grown nr bar s b) : (keys b).Nodup := by
  induction g with
  | base => simp [keys]
  | grow _ _ _ _ hx ih =>
    rw [keys_snoc]
    refine List.nodup_append.mpr ⟨ih, by simp, ?_⟩
    intro a ha c hc e
    simp at hc
    subst e hc
    exact hx ha
theorem Grown.start {b : B} (g : Grown nr bar s b) : s ∈ keys b := by
  induction g with
  | base => simp [keys]
  | grow _ _ _ _ _ ih => rw [keys_snoc]; exact List.mem_append_left _ ih
theorem Grown.bound {b : B} {n : Nat} (g : Grown nr bar s b) (hs : s < n) (hn : ∀ h, ∀ x ∈ nr h, x < n) : ∀ x ∈ keys b, x < n := by
  induction g with
  | base => intro x hx; simp [keys] at hx; omega
  | grow _ _ hx _ _ ih =>
    intro y hy
    rw [keys_snoc] at hy
    rcases List.mem_append.mp hy with hy | hy
    · exact ih y hy
    · simp at hy
      subst hy
      exact hn _ _ hx
theorem Grown.nobar {b : B} (g : Grown nr bar s b) (hs : some s ≠ bar) : ∀ x ∈ keys b, some x ≠ bar := by
  induction g with
  | base => intro x hx; simp [keys] at hx; subst hx; exact hs
  | grow _ _ _ hb _ ih =>
    intro y hy
    rw [keys_snoc] at hy
    rcases List.mem_append.mp hy with hy | hy
    · exact ih y hy
    · simp at hy
      subst hy
      exact hb
/-- a list of different numbers below n is no longer than n -/
theorem nodup_len : ∀ {n : Nat} {l : List Nat}, l.Nodup → (∀ x ∈ l, x < n) → l.length ≤ n
  | 0, [], _, _ => Nat.le_refl 0
  | 0, x :: l, _, h => absurd (h x List.mem_cons_self) (Nat.not_lt_zero _)
  | n + 1, l, d, h => by
    by_cases m : n ∈ l
    · have d2 := d.erase n
      have z := nodup_len (n := n) d2 fun x hx => by
        have h1 := h x (List.mem_of_mem_erase hx)
        have h2 : x ≠ n := fun e => by
          subst e
          exact (List.Nodup.mem_erase_iff d).mp hx |>.1 rfl
        omega
      have l1 := List.length_erase_of_mem m
      have l2 := List.length_pos_of_mem m
      omega
    · have z := nodup_len (n := n) d fun x hx => by
        have h1 := h x hx
        have h2 : x ≠ n := fun e => by
          subst e
          exact m hx
        omega
      omega
/-- what the neighbours of h leave -/
theorem visit_grown {h : Nat} : ∀ {os : List Nat} {b : B} {st : List Nat}, Grown nr bar s b → h ∈ keys b → (∀ o ∈ os, o ∈ nr h) →
    Grown nr bar s (os.foldl (visit bar h) (b, st)).1 ∧ (∀ x ∈ keys b, x ∈ keys (os.foldl (visit bar h) (b, st)).1) ∧ (∀ o ∈ os, some o ≠ bar → o ∈ keys (os.foldl (visit bar h) (b, st)).1) ∧
    (∀ x ∈ keys (os.foldl (visit bar h) (b, st)).1, x ∈ keys b ∨ x ∈ (os.foldl (visit bar h) (b, st)).2) ∧ (∀ x ∈ st, x ∈ (os.foldl (visit bar h) (b, st)).2) ∧
    (∀ x ∈ (os.foldl (visit bar h) (b, st)).2, x ∈ st ∨ x ∈ keys (os.foldl (visit bar h) (b, st)).1) ∧
    (os.foldl (visit bar h) (b, st)).1.length + st.length = b.length + (os.foldl (visit bar h) (b, st)).2.length
  | [], b, st, g, hh, ho => ⟨g, fun x hx => hx, (fun o ho => nomatch ho), fun x hx => .inl hx, fun x hx => hx, fun x hx => .inl hx, by simp⟩
  | o :: os, b, st, g, hh, ho => by
    rw [List.foldl_cons]
    by_cases c : some o = bar ∨ o ∈ keys b
    · have e : visit bar h (b, st) o = (b, st) := by simp [visit, c]
      rw [e]
      obtain ⟨h1, h2, h3, h4, h5, h6, h7⟩ := visit_grown (os := os) (st := st) g hh fun x hx => ho x (List.mem_cons_of_mem _ hx)
      refine ⟨h1, h2, fun x hx nb => ?_, h4, h5, h6, h7⟩
      rcases List.mem_cons.mp hx with rfl | hx
      · rcases c with c | c
        · exact absurd c nb
        · exact h2 _ c
      · exact h3 x hx nb
    · have e : visit bar h (b, st) o = (b ++ [(o, h)], o :: st) := by simp [visit, c]
      rw [e]
      have c1 : ¬ some o = bar := fun z => c (.inl z)
      have c2 : ¬ o ∈ keys b := fun z => c (.inr z)
      have g2 : Grown nr bar s (b ++ [(o, h)]) := .grow g hh (ho o List.mem_cons_self) c1 c2
      have up : ∀ x ∈ keys b, x ∈ keys (b ++ [(o, h)]) := fun x hx => by rw [keys_snoc]; exact List.mem_append_left _ hx
      obtain ⟨h1, h2, h3, h4, h5, h6, h7⟩ := visit_grown (os := os) (st := o :: st) g2 (up _ hh) fun x hx => ho x (List.mem_cons_of_mem _ hx)
      have ok : o ∈ keys (b ++ [(o, h)]) := by rw [keys_snoc]; simp
      refine ⟨h1, fun x hx => h2 _ (up _ hx), fun x hx nb => ?_, fun x hx => ?_, fun x hx => h5 x (List.mem_cons_of_mem _ hx), fun x hx => ?_, ?_⟩
      · rcases List.mem_cons.mp hx with rfl | hx
        · exact h2 _ ok
        · exact h3 x hx nb
      · rcases h4 x hx with h | h
        · rw [keys_snoc] at h
          rcases List.mem_append.mp h with h | h
          · exact .inl h
          · simp at h
            subst h
            exact .inr (h5 _ List.mem_cons_self)
        · exact .inr h
      · rcases h6 x hx with h | h
        · rcases List.mem_cons.mp h with rfl | h
          · exact .inr (h2 _ ok)
          · exact .inl h
        · exact .inr h
      · simp only [List.length_append, List.length_cons, List.length_nil] at h7 ⊢
        omega
/-- all neighbours of what is done are there -/
def Closed (nr : Nat → List Nat) (bar : Option Nat) (b : B) (st : List Nat) : Prop := ∀ x ∈ keys b, x ∉ st → ∀ o ∈ nr x, some o ≠ bar → o ∈ keys b
structure Going (nr : Nat → List Nat) (bar : Option Nat) (s : Nat) (b : B) (st : List Nat) : Prop where
  g : Grown nr bar s b
  c : Closed nr bar b st
  sub : ∀ x ∈ st, x ∈ keys b
theorem Going.start : Going nr bar s [(s, s)] [s] := ⟨.base, fun x hx nx => absurd (by simpa [keys] using hx) (by simpa using nx), fun x hx => by simpa [keys] using hx⟩
theorem Going.next {b : B} {h : Nat} {st : List Nat} (G : Going nr bar s b (h :: st)) : Going nr bar s (visits nr bar h b st).1 (visits nr bar h b st).2 ∧
    (visits nr bar h b st).1.length + st.length = b.length + (visits nr bar h b st).2.length := by
  obtain ⟨h1, h2, h3, h4, h5, h6, h7⟩ := visit_grown (os := nr h) (st := st) G.g (G.sub h List.mem_cons_self) fun o ho => ho
  refine ⟨⟨h1, fun x hx nx o ho nb => ?_, fun x hx => ?_⟩, h7⟩
  · rcases h4 x hx with hb | hb
    · by_cases e : x = h
      · subst e
        exact h3 o ho nb
      · refine h2 _ (G.c x hb (fun hm => ?_) o ho nb)
        rcases List.mem_cons.mp hm with rfl | hm
        · exact e rfl
        · exact nx (h5 _ hm)
    · exact absurd hb nx
  · rcases h6 x hx with h | h
    · exact h2 _ (G.sub x (List.mem_cons_of_mem _ h))
    · exact h
theorem Dfs.going {b : B} {st : List Nat} {r : B} (d : Dfs nr bar b st r) (G : Going nr bar s b st) : Going nr bar s r [] := by
  induction d with
  | done => exact G
  | step _ ih => exact ih G.next.1
/-- how many houses are still to be looked at -/
theorem Going.room {b : B} {st : List Nat} {n : Nat} (G : Going nr bar s b st) (hs : s < n) (hn : ∀ h, ∀ x ∈ nr h, x < n) : b.length ≤ n := by
  have z := nodup_len G.g.nodup (G.g.bound hs hn)
  simpa [keys] using z
theorem Dfs.ex {n : Nat} (hs : s < n) (hn : ∀ h, ∀ x ∈ nr h, x < n) : ∀ (k : Nat) {b : B} {st : List Nat}, Going nr bar s b st → st.length + (n - b.length) ≤ k → ∃ r, Dfs nr bar b st r := by
  intro k
  induction k with
  | zero =>
    intro b st G h
    cases st with
    | nil => exact ⟨b, .done⟩
    | cons x st => simp at h
  | succ k ih =>
    intro b st G h
    cases st with
    | nil => exact ⟨b, .done⟩
    | cons x st =>
      obtain ⟨G2, e⟩ := G.next
      have l1 := G2.room hs hn
      have l0 := G.room hs hn
      rw [List.length_cons] at h
      obtain ⟨r, d⟩ := ih G2 (by omega)
      exact ⟨r, .step d⟩
theorem dfs_all {n : Nat} (hs : s < n) (hn : ∀ h, ∀ x ∈ nr h, x < n) : ∃ r, Dfs nr bar [(s, s)] [s] r ∧ Going nr bar s r [] := by
  obtain ⟨r, d⟩ := Dfs.ex hs hn _ (b := [(s, s)]) (st := [s]) .start (Nat.le_refl _)
  exact ⟨r, d, d.going .start⟩
end
end Tm

namespace Tm
/-! ### ways -/
/-- from x upward to the start s -/
inductive Up (b : B) (s : Nat) : Nat → List Nat → Prop
  | here : Up b s s [s]
  | step {x p : Nat} {l : List Nat} : x ≠ s → (x, p) ∈ b → Up b s p l → Up b s x (x :: l)
theorem key_mem {b : B} {x p : Nat} (h : (x, p) ∈ b) : x ∈ keys b := List.mem_map.mpr ⟨_, h, rfl⟩
theorem key_one {b : B} {x p q : Nat} (d : (keys b).Nodup) (h : (x, p) ∈ b) (k : (x, q) ∈ b) : p = q := by
  induction b with
  | nil => cases h
  | cons y b ih =>
    have d' : y.1 ∉ keys b ∧ (keys b).Nodup := by simpa [keys] using d
    rcases List.mem_cons.mp h with h | h
    · rcases List.mem_cons.mp k with k | k
      · rw [← h] at k
        exact (Prod.mk.inj k).2.symm
      · rw [← h] at d'
        exact absurd (key_mem k) d'.1
    · rcases List.mem_cons.mp k with k | k
      · rw [← k] at d'
        exact absurd (key_mem h) d'.1
      · exact ih d'.2 h k
theorem Up.det {b : B} {s x : Nat} {l l' : List Nat} (d : (keys b).Nodup) (h : Up b s x l) : Up b s x l' → l = l' := by
  induction h generalizing l' with
  | here =>
    intro k
    cases k with
    | here => rfl
    | step ne _ _ => exact absurd rfl ne
  | step ne m _ ih =>
    intro k
    cases k with
    | here => exact absurd rfl ne
    | step _ m' k =>
      have e := key_one d m m'
      subst e
      rw [ih k]
theorem Up.mono {b b' : B} {s x : Nat} {l : List Nat} (h : Up b s x l) (k : ∀ y ∈ b, y ∈ b') : Up b' s x l := by
  induction h with
  | here => exact .here
  | step ne m _ ih => exact .step ne (k _ m) ih
/-- y lies next to the one ahead of it -/
def Adj (nr : Nat → List Nat) : List Nat → Prop
  | [] => True
  | [_] => True
  | x :: y :: l => x ∈ nr y ∧ Adj nr (y :: l)
/-- a way from x to y -/
structure Path (nr : Nat → List Nat) (x y : Nat) (l : List Nat) : Prop where
  hd : l.head? = some x
  la : l.getLast? = some y
  nd : l.Nodup
  ad : Adj nr l
section
variable {nr : Nat → List Nat} {bar : Option Nat} {s : Nat}
theorem Grown.up {b : B} (g : Grown nr bar s b) : ∀ x ∈ keys b, ∃ l, Up b s x l ∧ Path nr x s l ∧ ∀ y ∈ l, y ∈ keys b := by
  induction g with
  | base =>
    intro x hx
    simp [keys] at hx
    subst hx
    exact ⟨[x], .here, ⟨rfl, rfl, by simp, True.intro⟩, fun y hy => by simpa [keys] using hy⟩
  | @grow b x p g hp hx nb nk ih =>
    intro z hz
    rw [keys_snoc] at hz
    have mo : ∀ y ∈ b, y ∈ b ++ [(x, p)] := fun y hy => List.mem_append_left _ hy
    have mk : ∀ y ∈ keys b, y ∈ keys (b ++ [(x, p)]) := fun y hy => by rw [keys_snoc]; exact List.mem_append_left _ hy
    rcases List.mem_append.mp hz with hz | hz
    · obtain ⟨l, u, pa, sub⟩ := ih z hz
      exact ⟨l, u.mono mo, pa, fun y hy => mk y (sub y hy)⟩
    · simp at hz
      subst hz
      obtain ⟨l, u, pa, sub⟩ := ih p hp
      have ns : z ≠ s := fun e => by
        subst e
        exact nk g.start
      refine ⟨z :: l, .step ns (by simp) (u.mono mo), ⟨rfl, ?_, ?_, ?_⟩, fun y hy => ?_⟩
      · have h1 := pa.hd
        cases l with
        | nil => cases h1
        | cons a l =>
          rw [List.getLast?_cons_cons]
          exact pa.la
      · exact List.nodup_cons.mpr ⟨fun m => nk (sub _ m), pa.nd⟩
      · have h1 := pa.hd
        cases l with
        | nil => cases h1
        | cons a l =>
          simp at h1
          subst h1
          exact ⟨hx, pa.ad⟩
      · rcases List.mem_cons.mp hy with rfl | hy
        · rw [keys_snoc]
          simp
        · exact mk y (sub y hy)
end
/-! ### a tree's roads are the steps of its walk -/
theorem erase_sub {α : Type} [DecidableEq α] : ∀ {l m : List α}, l.Nodup → (∀ x ∈ l, x ∈ m) → m.length ≤ l.length → ∀ x ∈ m, x ∈ l
  | [], m, _, _, h, x, hx => by
    cases m with
    | nil => cases hx
    | cons y m => simp at h
  | a :: l, m, d, s, h, x, hx => by
    have d' := List.nodup_cons.mp d
    have ha := s a List.mem_cons_self
    by_cases e : x = a
    · subst e
      exact List.mem_cons_self
    · refine List.mem_cons_of_mem _ (erase_sub (m := m.erase a) d'.2 (fun y hy => ?_) ?_ x ?_)
      · have ne : y ≠ a := fun q => by
          subst q
          exact d'.1 hy
        exact (List.mem_erase_of_ne ne).mpr (s y (List.mem_cons_of_mem _ hy))
      · have l1 := List.length_erase_of_mem ha
        rw [List.length_cons] at h
        omega
      · exact (List.mem_erase_of_ne e).mpr hx
/-- the road between two -/
def mkR (x p : Nat) : Road := (min x p, max x p)
/-- the steps upward, the first left out -/
def stepsR (b : B) : List Road := b.tail.map fun y => mkR y.1 y.2
/-- its place in the walk -/
def idx (b : B) (x : Nat) : Nat := (keys b).findIdx (· == x)
theorem idx_snoc_old {b : B} {x p y : Nat} (h : y ∈ keys b) : idx (b ++ [(x, p)]) y = idx b y := by
  unfold idx
  rw [keys_snoc, List.findIdx_append]
  have : (keys b).findIdx (· == y) < (keys b).length := List.findIdx_lt_length_of_exists ⟨y, h, by simp⟩
  simp [this]
theorem idx_lt {b : B} {y : Nat} (h : y ∈ keys b) : idx b y < (keys b).length := List.findIdx_lt_length_of_exists ⟨y, h, by simp⟩
theorem idx_snoc_new {b : B} {x p : Nat} (h : x ∉ keys b) : idx (b ++ [(x, p)]) x = (keys b).length := by
  unfold idx
  rw [keys_snoc, List.findIdx_append]
  have e : (keys b).findIdx (· == x) = (keys b).length := by
    rw [List.findIdx_eq_length]
    intro y hy
    simp
    intro e
    subst e
    exact h hy
  simp [e]
section
variable {nr : Nat → List Nat} {bar : Option Nat} {s : Nat}
theorem Grown.tail {b : B} (g : Grown nr bar s b) : ∃ t, b = (s, s) :: t := by
  induction g with
  | base => exact ⟨[], rfl⟩
  | grow _ _ _ _ _ ih =>
    obtain ⟨t, e⟩ := ih
    subst e
    exact ⟨t ++ [_], rfl⟩
theorem Grown.par {b : B} (g : Grown nr bar s b) : ∀ y ∈ b.tail, y.2 ∈ keys b ∧ y.1 ∈ nr y.2 ∧ idx b y.2 < idx b y.1 ∧ y.1 ≠ s := by
  induction g with
  | base => intro y hy; cases hy
  | @grow b x p g hp hx nb nk ih =>
    obtain ⟨t, e⟩ := g.tail
    intro y hy
    have hy : y ∈ b.tail ++ [(x, p)] := by
      subst e
      exact hy
    rcases List.mem_append.mp hy with hy | hy
    · obtain ⟨h1, h2, h3, h4⟩ := ih y hy
      have k : y.1 ∈ keys b := List.mem_map.mpr ⟨y, by subst e; exact List.mem_cons_of_mem _ hy, rfl⟩
      refine ⟨by rw [keys_snoc]; exact List.mem_append_left _ h1, h2, ?_, h4⟩
      rw [idx_snoc_old h1, idx_snoc_old k]
      exact h3
    · simp at hy
      subst hy
      refine ⟨by rw [keys_snoc]; exact List.mem_append_left _ hp, hx, ?_, fun e => nk (by rw [show x = s from e]; exact g.start)⟩
      rw [idx_snoc_old hp, idx_snoc_new nk]
      exact idx_lt hp
theorem mem_tail {b : B} {x p : Nat} (g : Grown nr bar s b) (h : (x, p) ∈ b) (ne : x ≠ s) : (x, p) ∈ b.tail := by
  obtain ⟨t, e⟩ := g.tail
  subst e
  rcases List.mem_cons.mp h with h | h
  · cases h
    exact absurd rfl ne
  · exact h
end
/-- whatever tree: its roads are steps -/
theorem roads_steps {n : Nat} {rs : List Road} {b : B} (ok : RoadsOk n rs) (g : Grown (near rs) none 0 b) (all : b.length = n) : ∀ r ∈ rs, (r.1, r.2) ∈ b.tail ∨ (r.2, r.1) ∈ b.tail := by
  have ne : ∀ r ∈ rs, r.1 < r.2 := fun r hr => (ok.bnd r hr).1
  obtain ⟨t, e⟩ := g.tail
  have lt : t.length + 1 = n := by
    rw [e] at all
    simpa using all
  have sub : ∀ r ∈ stepsR b, r ∈ rs := by
    intro r hr
    obtain ⟨y, hy, rfl⟩ := List.mem_map.mp hr
    obtain ⟨h1, h2, h3, h4⟩ := g.par y hy
    unfold mkR
    rcases mem_near h2 with h | h
    · have z := ne _ h
      simp only at z
      rw [Nat.min_eq_right (by omega), Nat.max_eq_left (by omega)]
      exact h
    · have z := ne _ h
      simp only at z
      rw [Nat.min_eq_left (by omega), Nat.max_eq_right (by omega)]
      exact h
  have nd : (stepsR b).Nodup := by
    have d := g.nodup
    have dt : (b.tail.map (·.1)).Nodup := by
      subst e
      have : (0 :: t.map (·.1)).Nodup := d
      exact (List.nodup_cons.mp this).2
    unfold stepsR
    refine List.pairwise_map.mpr ?_
    have d2 := List.pairwise_map.mp dt
    refine d2.imp_of_mem fun {y z} hy hz hne q => ?_
    have p1 := g.par y hy
    have p2 := g.par z hz
    unfold mkR at q
    have q1 := (Prod.mk.inj q).1
    have q2 := (Prod.mk.inj q).2
    have : y.1 = z.2 ∧ y.2 = z.1 := by omega
    rw [this.1, this.2] at p1
    omega
  have back := erase_sub nd sub (by unfold stepsR; rw [List.length_map, e]; show rs.length ≤ t.length; have := ok.len; omega)
  intro r hr
  obtain ⟨y, hy, q⟩ := List.mem_map.mp (back r hr)
  have l := ne r hr
  unfold mkR at q
  have q1 : min y.1 y.2 = r.1 := congrArg Prod.fst q
  have q2 : max y.1 y.2 = r.2 := congrArg Prod.snd q
  obtain ⟨y1, y2⟩ := y
  simp only at q1 q2
  by_cases c : y1 ≤ y2
  · have e1 : y1 = r.1 := by omega
    have e2 : y2 = r.2 := by omega
    subst e1 e2
    exact .inl hy
  · have e1 : y1 = r.2 := by omega
    have e2 : y2 = r.1 := by omega
    subst e1 e2
    exact .inr hy
end Tm

namespace Tm
/-! ### there is just one way -/
structure Rooted (n : Nat) (nr : Nat → List Nat) (b : B) : Prop where
  g : Grown nr none 0 b
  st : ∀ x y, x ∈ nr y → (x, y) ∈ b.tail ∨ (y, x) ∈ b.tail
  sym : ∀ x y, x ∈ nr y → y ∈ nr x
  all : ∀ x, x < n → x ∈ keys b
  lt : ∀ x y, x ∈ nr y → x < n
  nr0 : 0 < n
section
variable {n : Nat} {nr : Nat → List Nat} {b : B}
theorem par_one (R : Rooted n nr b) {x p q : Nat} (h : (x, p) ∈ b.tail) (k : (x, q) ∈ b.tail) : p = q :=
  key_one R.g.nodup (List.mem_of_mem_tail h) (List.mem_of_mem_tail k)
theorem idx_inj {x y : Nat} (hx : x ∈ keys b) (hy : y ∈ keys b) (e : idx b x = idx b y) : x = y := by
  have h1 := idx_lt hx
  have h2 := idx_lt hy
  have e1 : (keys b)[idx b x] = x := by
    exact beq_iff_eq.mp (List.findIdx_getElem (xs := keys b) (p := (· == x)) (w := h1))
  have e2 : (keys b)[idx b y] = y := by
    exact beq_iff_eq.mp (List.findIdx_getElem (xs := keys b) (p := (· == y)) (w := h2))
  rw [← e1, ← e2]
  simp [e]
theorem climb (R : Rooted n nr b) : ∀ {x z y : Nat} {l : List Nat}, (x :: z :: l).Nodup → Adj nr (x :: z :: l) → (x :: z :: l).getLast? = some y → (z, x) ∈ b.tail → idx b x < idx b y
  | x, z, y, [], _, _, la, h => by
    simp at la
    subst la
    exact (R.g.par _ h).2.2.1
  | x, z, y, w :: l, nd, ad, la, h => by
    have h1 := (R.g.par _ h).2.2.1
    simp only at h1
    have ad2 : z ∈ nr w ∧ Adj nr (w :: l) := ad.2
    rcases R.st z w ad2.1 with k | k
    · have e := par_one R h k
      subst e
      have := List.nodup_cons.mp nd
      exact absurd (by simp) this.1
    · have i := climb R (List.nodup_cons.mp nd).2 ad.2 (by rw [← la]; exact List.getLast?_cons_cons.symm) k
      omega
theorem path_step (R : Rooted n nr b) {x y : Nat} {l : List Nat} (p : Path nr x y l) (h : idx b y < idx b x) : ∃ z r, l = x :: r ∧ (x, z) ∈ b.tail ∧ Path nr z y r := by
  obtain ⟨hd, la, nd, ad⟩ := p
  match l, hd, la, nd, ad with
  | [a], hd, la, nd, ad =>
    simp at hd la
    subst hd la
    exact absurd h (Nat.lt_irrefl _)
  | a :: z :: r, hd, la, nd, ad =>
    simp at hd
    subst hd
    rcases R.st a z ad.1 with k | k
    · exact ⟨z, z :: r, rfl, k, ⟨rfl, by rw [← la, List.getLast?_cons_cons], (List.nodup_cons.mp nd).2, ad.2⟩⟩
    · have := climb R nd ad la k
      omega
theorem adj_split : ∀ {p : List Nat} {m : Nat} {q : List Nat}, Adj nr (p ++ m :: q) ↔ Adj nr (p ++ [m]) ∧ Adj nr (m :: q)
  | [], m, q => by simp [Adj]
  | [a], m, q => by simp [Adj]
  | a :: c :: p, m, q => by
    have i := adj_split (p := c :: p) (m := m) (q := q)
    simp only [List.cons_append] at i ⊢
    show (a ∈ nr c ∧ Adj nr (c :: (p ++ m :: q))) ↔ (a ∈ nr c ∧ Adj nr (c :: (p ++ [m]))) ∧ _
    rw [i]
    constructor
    · rintro ⟨h1, h2, h3⟩; exact ⟨⟨h1, h2⟩, h3⟩
    · rintro ⟨⟨h1, h2⟩, h3⟩; exact ⟨h1, h2, h3⟩
theorem adj_rev (sym : ∀ x y, x ∈ nr y → y ∈ nr x) : ∀ {l : List Nat}, Adj nr l → Adj nr l.reverse
  | [], _ => True.intro
  | [a], _ => True.intro
  | a :: c :: l, h => by
    have i := adj_rev sym h.2
    rw [List.reverse_cons] at i
    rw [List.reverse_cons, List.reverse_cons, List.append_assoc]
    show Adj nr (l.reverse ++ c :: [a])
    exact adj_split.mpr ⟨i, sym _ _ h.1, True.intro⟩
theorem Path.rev (sym : ∀ x y, x ∈ nr y → y ∈ nr x) {x y : Nat} {l : List Nat} (p : Path nr x y l) : Path nr y x l.reverse where
  hd := by rw [List.head?_reverse]; exact p.la
  la := by rw [List.getLast?_reverse]; exact p.hd
  nd := List.pairwise_reverse.mpr (p.nd.imp fun h e => h e.symm)
  ad := adj_rev sym p.ad
theorem path_one (R : Rooted n nr b) : ∀ (k : Nat) {x y : Nat} {l l' : List Nat}, x < n → y < n → l.length ≤ k → Path nr x y l → Path nr x y l' → l = l' := by
  intro k
  induction k with
  | zero =>
    intro x y l l' hx hy hk p p'
    have h := p.hd
    cases l with
    | nil => cases h
    | cons a l => simp at hk
  | succ k ih =>
    intro x y l l' hx hy hk p p'
    rcases Nat.lt_trichotomy (idx b x) (idx b y) with c | c | c
    · obtain ⟨z, r, e, hz, q⟩ := path_step R (p.rev R.sym) c
      obtain ⟨z', r', e', hz', q'⟩ := path_step R (p'.rev R.sym) c
      have ez := par_one R hz hz'
      subst ez
      have l1 : l.length = r.length + 1 := by rw [← List.length_reverse, e, List.length_cons]
      have zn : z < n := R.lt _ _ (R.sym _ _ (R.g.par _ hz).2.1)
      have i := ih zn hx (by omega) q q'
      rw [← List.reverse_reverse l, ← List.reverse_reverse l', e, e', i]
    · have e := idx_inj (R.all x hx) (R.all y hy) c
      subst e
      have one : ∀ {l : List Nat}, Path nr x x l → l = [x] := by
        intro l p
        obtain ⟨hd, la, nd, ad⟩ := p
        match l, hd, la, nd with
        | [a], hd, la, nd => simp at hd; rw [hd]
        | a :: c :: r, hd, la, nd =>
          simp at hd
          subst hd
          rw [List.getLast?_cons_cons] at la
          exact absurd (List.mem_of_getLast? la) (List.nodup_cons.mp nd).1
      rw [one p, one p']
    · obtain ⟨z, r, e, hz, q⟩ := path_step R p c
      obtain ⟨z', r', e', hz', q'⟩ := path_step R p' c
      have ez := par_one R hz hz'
      subst ez
      have zn : z < n := R.lt _ _ (R.sym _ _ (R.g.par _ hz).2.1)
      have i := ih zn hy (by rw [e, List.length_cons] at hk; omega) q q'
      rw [e, e', i]
theorem Path.uniq (R : Rooted n nr b) {x y : Nat} {l l' : List Nat} (hx : x < n) (hy : y < n) (p : Path nr x y l) (p' : Path nr x y l') : l = l' := path_one R _ hx hy (Nat.le_refl _) p p'
theorem last_app (p : List Nat) (m : Nat) (q : List Nat) : (p ++ m :: q).getLast? = (m :: q).getLast? := by
  rw [List.getLast?_append]
  cases e : (m :: q).getLast? with
  | none => simp at e
  | some x => rfl
/-- the first of m that is in l -/
theorem first_split (l : List Nat) : ∀ {m : List Nat}, (∃ x ∈ m, x ∈ l) → ∃ p x q, m = p ++ x :: q ∧ x ∈ l ∧ ∀ y ∈ p, y ∉ l
  | [], ⟨x, hx, _⟩ => nomatch hx
  | a :: m, ⟨x, hx, k⟩ => by
    by_cases c : a ∈ l
    · exact ⟨[], a, m, rfl, c, fun y hy => nomatch hy⟩
    · rcases List.mem_cons.mp hx with rfl | hx
      · exact absurd k c
      · obtain ⟨p, x2, q, e, h1, h2⟩ := first_split l (m := m) ⟨x, hx, k⟩
        refine ⟨a :: p, x2, q, by rw [e]; rfl, h1, fun y hy => ?_⟩
        rcases List.mem_cons.mp hy with rfl | hy
        · exact c
        · exact h2 y hy
theorem foot_eq (R : Rooted n nr b) {u v c : Nat} {L M1 M2 : List Nat} (hv : v < n) (hc : c < n) (pL : Path nr u v L) (p1 : Path nr c u M1) (p2 : Path nr c v M2) :
    ∃ m, (M1.filter fun h => decide (h ∈ L)).head? = some m ∧ (L.filter fun h => decide (h ∈ M1) && decide (h ∈ M2)).head? = some m ∧ m ∈ L := by
  have uL : u ∈ L := List.mem_of_mem_head? pL.hd
  have uM : u ∈ M1 := List.mem_of_getLast? p1.la
  obtain ⟨p, m, q, e1, hm, hp⟩ := first_split L ⟨u, uM, uL⟩
  obtain ⟨p', q', e2⟩ := List.append_of_mem hm
  have ndL := pL.nd
  have nd1 := p1.nd
  rw [e2] at ndL
  rw [e1] at nd1
  have N : Path nr c v (p ++ m :: q') := by
    refine ⟨?_, ?_, ?_, ?_⟩
    · have h := p1.hd
      rw [e1] at h
      cases p with
      | nil => exact h
      | cons a p => exact h
    · have h := pL.la
      rw [e2, last_app] at h
      rw [last_app]
      exact h
    · refine List.nodup_append.mpr ⟨(List.nodup_append.mp nd1).1, (List.nodup_append.mp ndL).2.1, fun a ha d hd e => ?_⟩
      subst e
      refine hp a ha ?_
      rw [e2]
      exact List.mem_append_right _ hd
    · have a1 := p1.ad
      have a2 := pL.ad
      rw [e1] at a1
      rw [e2] at a2
      exact adj_split.mpr ⟨(adj_split.mp a1).1, (adj_split.mp a2).2⟩
  have e3 := p2.uniq R hc hv N
  refine ⟨m, ?_, ?_, hm⟩
  · rw [e1, List.filter_append]
    have z : p.filter (fun h => decide (h ∈ L)) = [] := List.filter_eq_nil_iff.mpr fun y hy => by simpa using hp y hy
    rw [z, List.nil_append, List.filter_cons_of_pos (by simpa using hm)]
    rfl
  · have key : ∀ y ∈ p', y ∉ M2 := by
      intro y hy hm2
      rw [e3] at hm2
      rcases List.mem_append.mp hm2 with k | k
      · exact hp y k (by rw [e2]; exact List.mem_append_left _ hy)
      · exact (List.nodup_append.mp ndL).2.2 y hy y k rfl
    have m1 : m ∈ M1 := by rw [e1]; simp
    have m2 : m ∈ M2 := by rw [e3]; simp
    conv => lhs; rw [e2]
    rw [List.filter_append]
    have z : p'.filter (fun h => decide (h ∈ M1) && decide (h ∈ M2)) = [] := List.filter_eq_nil_iff.mpr fun y hy => by
      have := key y hy
      simp [this]
    rw [z, List.nil_append, List.filter_cons_of_pos (by simp [m1, m2])]
    rfl
end
/-- all houses are joined -/
def Joined (n : Nat) (rs : List Road) : Prop := ∃ b, Dfs (near rs) none [(0, 0)] [0] b ∧ b.length = n
theorem all_keys {n : Nat} {l : List Nat} (d : l.Nodup) (h : ∀ x ∈ l, x < n) (e : l.length = n) : ∀ x, x < n → x ∈ l := by
  intro x hx
  refine erase_sub (m := List.range n) d (fun y hy => List.mem_range.mpr (h y hy)) (by rw [List.length_range, e]; exact Nat.le_refl n) x (List.mem_range.mpr hx)
theorem rooted {n : Nat} {rs : List Road} (ok : RoadsOk n rs) (j : Joined n rs) : ∃ b, Rooted n (near rs) b := by
  obtain ⟨b, d, e⟩ := j
  have G := d.going .start
  have n0 : 0 < n := by have := ok.len; omega
  have lt : ∀ h, ∀ x ∈ near rs h, x < n := fun h x hx => (near_lt ok.bnd hx).1
  refine ⟨b, G.g, fun x y hx => ?_, fun x y => near_sym fun r hr => (ok.bnd r hr).1, fun x hx => ?_, fun x y hx => (near_lt ok.bnd hx).1, n0⟩
  · have st := roads_steps ok G.g e
    rcases mem_near hx with h | h
    · exact (st _ h).symm
    · exact st _ h
  · exact all_keys G.g.nodup (G.g.bound n0 lt) (by simpa [keys] using e) x hx
end Tm

namespace Tm
theorem ltR_irr (a : Road) : ltR a a = false := by simp [ltR]
theorem ltR_tri {a b : Road} (h : ltR b a = false) (ne : a ≠ b) : ltR a b = true := by
  obtain ⟨a1, a2⟩ := a
  obtain ⟨b1, b2⟩ := b
  simp only [ltR, Bool.or_eq_false_iff, Bool.and_eq_false_iff, decide_eq_false_iff_not, Bool.or_eq_true, Bool.and_eq_true, decide_eq_true_eq] at h ⊢
  rcases Nat.lt_trichotomy a1 b1 with c | c | c
  · exact .inl c
  · subst c
    rcases Nat.lt_trichotomy a2 b2 with d | d | d
    · exact .inr ⟨rfl, d⟩
    · exact absurd (by rw [d]) ne
    · omega
  · omega
theorem mkR_eq {x y z w : Nat} (h : mkR x y = mkR z w) : (x = z ∧ y = w) ∨ (x = w ∧ y = z) := by
  have h1 : min x y = min z w := congrArg Prod.fst h
  have h2 : max x y = max z w := congrArg Prod.snd h
  omega
theorem mkR_lt {x y : Nat} (h : x ≠ y) : (mkR x y).1 < (mkR x y).2 := by
  show min x y < max x y
  omega
theorem mkR_near {rs : List Road} {x y : Nat} (ne : ∀ r ∈ rs, r.1 < r.2) (h : mkR x y ∈ rs) : x ∈ near rs y ∧ y ∈ near rs x := by
  have k : (x, y) ∈ rs ∨ (y, x) ∈ rs := by
    by_cases c : x ≤ y
    · left
      have : mkR x y = (x, y) := by
        unfold mkR
        rw [Nat.min_eq_left c, Nat.max_eq_right c]
      rwa [this] at h
    · right
      have : mkR x y = (y, x) := by
        unfold mkR
        rw [Nat.min_eq_right (by omega), Nat.max_eq_left (by omega)]
      rwa [this] at h
  exact ⟨near_of ne k.symm, near_of ne k⟩
theorem nodup_inj : ∀ {l : List Nat} {i j : Nat}, l.Nodup → (hi : i < l.length) → (hj : j < l.length) → l[i] = l[j] → i = j
  | [], i, _, _, hi, _, _ => absurd hi (Nat.not_lt_zero _)
  | a :: l, 0, 0, _, _, _, _ => rfl
  | a :: l, 0, j + 1, d, hi, hj, e => by
    have d' := List.nodup_cons.mp d
    simp only [List.getElem_cons_zero, List.getElem_cons_succ] at e
    exact absurd (by rw [e]; exact List.getElem_mem _) d'.1
  | a :: l, i + 1, 0, d, hi, hj, e => by
    have d' := List.nodup_cons.mp d
    simp only [List.getElem_cons_zero, List.getElem_cons_succ] at e
    exact absurd (by rw [← e]; exact List.getElem_mem _) d'.1
  | a :: l, i + 1, j + 1, d, hi, hj, e => by
    have d' := List.nodup_cons.mp d
    simp only [List.getElem_cons_succ] at e
    rw [nodup_inj d'.2 (by simpa using hi) (by simpa using hj) e]
/-- a tree out of houses in any order, each joined to one ahead of it -/
theorem tree_of {n : Nat} {ms : List Nat} {js : Nat → Nat} {rs : List Road} (n0 : 0 < n) (hl : ms.length = n) (nd : ms.Nodup) (bd : ∀ x ∈ ms, x < n)
    (hj : ∀ i, i + 1 < n → js (i + 1) ≤ i) (hp : rs.Perm ((List.range (n - 1)).map fun i => mkR (ms.getD (i + 1) 0) (ms.getD (js (i + 1)) 0)))
    (hs : rs.Pairwise fun a b => ltR b a = false) : RoadsOk n rs ∧ Joined n rs := by
  have gd : ∀ i, i < n → ∃ h : i < ms.length, ms.getD i 0 = ms[i] := fun i hi => ⟨by omega, by rw [List.getD_eq_getElem?_getD, List.getElem?_eq_getElem (by omega)]; rfl⟩
  have inj : ∀ i j, i < n → j < n → ms.getD i 0 = ms.getD j 0 → i = j := by
    intro i j hi hj e
    obtain ⟨h1, e1⟩ := gd i hi
    obtain ⟨h2, e2⟩ := gd j hj
    rw [e1, e2] at e
    exact nodup_inj nd h1 h2 e
  have mem : ∀ i, i < n → ms.getD i 0 < n := fun i hi => by
    obtain ⟨h1, e1⟩ := gd i hi
    rw [e1]
    exact bd _ (List.getElem_mem h1)
  have isr : ∀ i, i + 1 < n → mkR (ms.getD (i + 1) 0) (ms.getD (js (i + 1)) 0) ∈ rs := fun i hi =>
    hp.mem_iff.mpr (List.mem_map.mpr ⟨i, List.mem_range.mpr (by omega), rfl⟩)
  have bnd : ∀ r ∈ rs, r.1 < r.2 ∧ r.2 < n := by
    intro r hr
    obtain ⟨i, hi, rfl⟩ := List.mem_map.mp (hp.mem_iff.mp hr)
    have hi := List.mem_range.mp hi
    have j1 := hj i (by omega)
    refine ⟨mkR_lt fun e => ?_, ?_⟩
    · have := inj _ _ (by omega) (by omega) e
      omega
    · have m1 := mem (i + 1) (by omega)
      have m2 := mem (js (i + 1)) (by omega)
      show max _ _ < n
      omega
  have ne : ∀ r ∈ rs, r.1 < r.2 := fun r hr => (bnd r hr).1
  have ndr : rs.Nodup := by
    refine hp.nodup_iff.mpr (List.pairwise_map.mpr ?_)
    refine (List.nodup_range (n := n - 1)).imp_of_mem fun {i k} hi hk hne q => ?_
    have hi := List.mem_range.mp hi
    have hk := List.mem_range.mp hk
    have j1 := hj i (by omega)
    have j2 := hj k (by omega)
    rcases mkR_eq q with ⟨q1, q2⟩ | ⟨q1, q2⟩
    · have := inj _ _ (by omega) (by omega) q1
      omega
    · have e1 := inj _ _ (by omega) (by omega) q1
      have e2 := inj _ _ (by omega) (by omega) q2
      omega
  have ok : RoadsOk n rs := by
    refine ⟨?_, bnd, ?_⟩
    · rw [hp.length_eq, List.length_map, List.length_range]
      omega
    · refine (hs.and ndr).imp fun {a b} h => ltR_tri h.1 h.2
  refine ⟨ok, ?_⟩
  have lt : ∀ h, ∀ x ∈ near rs h, x < n := fun h x hx => (near_lt bnd hx).1
  obtain ⟨b, d, G⟩ := dfs_all (nr := near rs) (bar := none) n0 lt
  refine ⟨b, d, ?_⟩
  have cl : ∀ x y, x ∈ keys b → y ∈ near rs x → y ∈ keys b := fun x y hx hy => G.c x hx (fun z => nomatch z) y hy (fun z => nomatch z)
  have down : ∀ k, k < n → ms.getD k 0 ∈ keys b → ms.getD 0 0 ∈ keys b := by
    intro k
    induction k using Nat.strongRecOn with
    | ind k ih =>
      intro hk h
      cases k with
      | zero => exact h
      | succ k =>
        have j1 := hj k hk
        exact ih _ (by omega) (by omega) (cl _ _ h (mkR_near ne (isr k hk)).2)
  have z0 : ms.getD 0 0 ∈ keys b := by
    have m0 : (0 : Nat) ∈ ms := all_keys nd bd hl 0 n0
    obtain ⟨k, hk, e⟩ := List.mem_iff_getElem.mp m0
    refine down k (by omega) ?_
    rw [(gd k (by omega)).2, e]
    exact G.g.start
  have up : ∀ k, k < n → ms.getD k 0 ∈ keys b := by
    intro k
    induction k using Nat.strongRecOn with
    | ind k ih =>
      intro hk
      cases k with
      | zero => exact z0
      | succ k =>
        have j1 := hj k hk
        exact cl _ _ (ih _ (by omega) (by omega)) (mkR_near ne (isr k hk)).1
  have le := G.room n0 lt
  have ge : ms.length ≤ (keys b).length := by
    by_cases c : ms.length ≤ (keys b).length
    · exact c
    · have sub := erase_sub (l := keys b) (m := ms) G.g.nodup (fun x hx => all_keys nd bd hl x (G.g.bound n0 lt x hx))
      exfalso
      have c2 : ∀ (l m : List Nat), l.Nodup → (∀ x ∈ l, x ∈ m) → l.length ≤ m.length := by
        intro l
        induction l with
        | nil => intro m _ _; exact Nat.zero_le _
        | cons a l ih =>
          intro m d s
          have d' := List.nodup_cons.mp d
          have ha := s a List.mem_cons_self
          have l1 := List.length_erase_of_mem ha
          have l2 := List.length_pos_of_mem ha
          have i := ih (m.erase a) d'.2 fun y hy => (List.mem_erase_of_ne fun q => d'.1 (by rw [← q]; exact hy)).mpr (s y (List.mem_cons_of_mem _ hy))
          rw [List.length_cons]
          omega
      exact c (c2 ms (keys b) nd fun x hx => by
        obtain ⟨k, hk, e⟩ := List.mem_iff_getElem.mp hx
        have := up k (by omega)
        rw [(gd k (by omega)).2, e] at this
        exact this)
  have : (keys b).length = b.length := by simp [keys]
  omega
end Tm

namespace L2
open PySem PySem.Spec PyProof.Rows
/-- the type's name of data -/
def tyd : PyData → String
  | .none => "NoneType"
  | .bool _ => "bool"
  | .int _ => "int"
  | .str _ => "str"
  | .list _ => "list"
  | .tuple _ => "tuple"
  | .dict _ => "dict"
theorem tyd_mem (d : PyData) : tyd d ∈ tys := by cases d <;> simp [tyd, tys]
theorem Rdd.tb {K : PySem.W.Frag} {H : Hp} {v : V} {d : PyData} (r : Rdd H v d) : TyB K H v (tyd d) := by
  cases r with
  | non => exact .non
  | bl b => exact .bl b
  | int i => exact .int i
  | str x => exact .str x
  | lst h r => exact .lst (SqL.of h)
  | tup h r => exact .tup (SqT.of h)
  | dK h r1 r2 => exact .dK h
theorem Rdd.tx {K : PySem.W.Frag} {H : Hp} {v : V} {d : PyData} (r : Rdd H v d) : TyX K H v (.type (tyd d)) := by
  cases r with
  | non => exact .base .non
  | bl b => exact .base (.bl b)
  | int i => exact .base (.int i)
  | str x => exact .base (.str x)
  | lst h r => exact .base (.lst h)
  | tup h r => exact .base (.tup h)
  | dK h r1 r2 => exact .base (.dK h)
theorem Rdd.int_of {H : Hp} {v : V} {d : PyData} (r : Rdd H v d) (h : tyd d = "int") : ∃ i, v = .int i ∧ d = .int i := by
  cases r with
  | int i => exact ⟨i, rfl, rfl⟩
  | _ => exact absurd h (by simp [tyd])
theorem Rdd.tup_of {H : Hp} {v : V} {d : PyData} (r : Rdd H v d) (h : tyd d = "tuple") : ∃ p xs ds, v = .ref p ∧ d = .tuple ds ∧ H p = some (.tup xs) ∧ RddAll H xs ds := by
  cases r with
  | tup h1 r => exact ⟨_, _, _, rfl, rfl, h1, r⟩
  | _ => exact absurd h (by simp [tyd])
end L2
namespace K10
open PySem PySem.Spec PyProof.Rows L2
abbrev Bl (mg : Str → Option Value) : Prop := Blts mg bnames
abbrev sIsBelow : Stmt := top 5
theorem scIsBelow : FnScope ["value", "bound"] ["value", "bound"] (defScope sIsBelow) := ⟨rfl, rfl, rfl, by decide +kernel, rfl, by decide +kernel, by decide +kernel⟩
abbrev sIsList : Stmt := top 6
theorem scIsList : FnScope ["value"] ["value"] (defScope sIsList) := ⟨rfl, rfl, rfl, by decide +kernel, rfl, by decide +kernel, by decide +kernel⟩
abbrev sIsTuple : Stmt := top 7
theorem scIsTuple : FnScope ["value", "many"] ["value", "many"] (defScope sIsTuple) := ⟨rfl, rfl, rfl, by decide +kernel, rfl, by decide +kernel, by decide +kernel⟩
def belowD (b : Int) : PyData → Bool
  | .int i => decide (0 ≤ i) && decide (i < b)
  | _ => false
def tupD (n : Nat) : PyData → Bool
  | .tuple ds => decide (ds.length = n)
  | _ => false
def listD (d : PyData) : Bool := decide (tyd d ∈ ["list", "tuple"])
def spIsBelow : Sp := fun vs H Q _ => ∃ v d b, vs = [v, .int b] ∧ Rdd H v d ∧ Q (.bl (belowD b d)) H
def spIsList : Sp := fun vs H Q _ => ∃ v d, vs = [v] ∧ Rdd H v d ∧ ∀ H', Same H H' → Q (.bl (listD d)) H'
def spIsTuple : Sp := fun vs H Q _ => ∃ v d n, vs = [v, .int (n : Nat)] ∧ Rdd H v d ∧ (∀ ds, d = .tuple ds → ds.length ≤ 16777216) ∧ Q (.bl (tupD n d)) H
section
variable {P : Program} {w : World} {K : PySem.W.Frag} {mg : Str → Option Value} {base : Heap} {f : Addr} {fd : FuncData}
theorem ok_is_below (F : Fd K "is_below" sIsBelow f fd) (g : mg "is_below" = some (.ref f)) (B : Bl mg) : Ok P w K mg base CX0 1 "is_below" sIsBelow ["value", "bound"] spIsBelow := by
  refine ⟨f, fd, g, F, F.bindsN fun _ _ _ _ _ _ us hl => match us, hl with | [_, _], _ => rfl, F.ok scIsBelow (fun vs H Q E h => ?_) (fun cdv A outer s H vs Q E hr h => ?_)⟩
  · obtain ⟨v, d, b, rfl, _⟩ := h
    rfl
  · refine ⟨_, (pss_one (ps_ret (pe_and (pe_cmpR op_isTyB (pe_callTy call_type1 (by rfl) (B.u "type" (by decide +kernel)) (by decide +kernel) (pa_cons (pv 0) pa_nil)) (pe_bltn (by rfl) (B.u "int" (by decide +kernel)) (by decide +kernel) (v := .ty "int") rfl) (nomark _)) (pe_one (pe_chain op_le op_lt pe_int (pv 0) (pv 1)))))), ?_⟩
    obtain ⟨v, d, b, rfl, r, q⟩ := h
    refine ⟨_, rfl, _, _, rfl, r.tb, _, _, rfl, rfl, _, rfl, iteB (fun e => ?_) fun e => ?_⟩
    · obtain ⟨i, rfl, rfl⟩ := r.int_of (of_decide_eq_true e)
      refine ⟨_, rfl, _, _, rfl, rfl, _, rfl, iteB (fun e1 => ⟨_, rfl, _, _, rfl, rfl, ?_⟩) fun e1 => ?_⟩
      · have z : belowD b (.int i) = decide (i < b) := by
          simp [belowD, of_decide_eq_true e1]
        rw [z] at q
        exact q
      · have z : belowD b (.int i) = false := by
          have e2 := of_decide_eq_false e1
          simp only [belowD, decide_eq_false e2, Bool.false_and]
        rw [z] at q
        exact q
    · have e := of_decide_eq_false e
      have z : belowD b d = false := by
        cases d with
        | int i => exact absurd rfl e
        | _ => rfl
      rw [z] at q
      exact q
theorem ok_is_list (F : Fd K "is_list" sIsList f fd) (g : mg "is_list" = some (.ref f)) (B : Bl mg) : Ok P w K mg base CX0 1 "is_list" sIsList ["value"] spIsList := by
  refine ⟨f, fd, g, F, F.bindsN fun _ _ _ _ _ _ us hl => match us, hl with | [_], _ => rfl, F.ok scIsList (fun vs H Q E h => ?_) (fun cdv A outer s H vs Q E hr h => ?_)⟩
  · obtain ⟨v, d, rfl, _⟩ := h
    rfl
  · refine ⟨_, (pss_one (ps_ret (pe_cmpR op_inTy (pe_callTy call_type1 (by rfl) (B.u "type" (by decide +kernel)) (by decide +kernel) (pa_cons (pv 0) pa_nil)) (pe_tup (pa_cons (pe_bltn (by rfl) (B.u "list" (by decide +kernel)) (by decide +kernel) (v := .ty "list") rfl) (pa_cons (pe_bltn (by rfl) (B.u "tuple" (by decide +kernel)) (by decide +kernel) (v := .ty "tuple") rfl) pa_nil))) (by rfl)))), ?_⟩
    obtain ⟨v, d, rfl, r, q⟩ := h
    refine ⟨_, rfl, _, _, rfl, r.tb, two_ln (by decide), fun p hp => ?_⟩
    refine ⟨p, tyd d, ["list", "tuple"], rfl, rfl, SqT.of upd_same, tyd_mem d, by decide, q _ (upd_grow hp)⟩
theorem ok_is_tuple (F : Fd K "is_tuple" sIsTuple f fd) (g : mg "is_tuple" = some (.ref f)) (B : Bl mg) : Ok P w K mg base CX0 1 "is_tuple" sIsTuple ["value", "many"] spIsTuple := by
  refine ⟨f, fd, g, F, F.bindsN fun _ _ _ _ _ _ us hl => match us, hl with | [_, _], _ => rfl, F.ok scIsTuple (fun vs H Q E h => ?_) (fun cdv A outer s H vs Q E hr h => ?_)⟩
  · obtain ⟨v, d, n, rfl, _⟩ := h
    rfl
  · refine ⟨_, (pss_one (ps_ret (pe_and (pe_cmpR op_isTyB (pe_callTy call_type1 (by rfl) (B.u "type" (by decide +kernel)) (by decide +kernel) (pa_cons (pv 0) pa_nil)) (pe_bltn (by rfl) (B.u "tuple" (by decide +kernel)) (by decide +kernel) (v := .ty "tuple") rfl) (nomark _)) (pe_one (pe_cmpR op_eq (pe_callB call_len (by rfl) (B.u "len" (by decide +kernel)) boot_len (pa_cons (pv 0) pa_nil)) (pv 1) (nomark _)))))), ?_⟩
    obtain ⟨v, d, n, rfl, r, ln, q⟩ := h
    refine ⟨_, rfl, _, _, rfl, r.tb, _, _, rfl, rfl, _, rfl, iteB (fun e => ?_) fun e => ?_⟩
    · obtain ⟨p, xs, ds, rfl, rfl, hp, ra⟩ := r.tup_of (of_decide_eq_true e)
      refine ⟨_, rfl, _, _, rfl, .inr ⟨_, SqT.of hp, rfl⟩, _, rfl, rfl, ?_⟩
      have l := rdds_len ra
      have y : decide (V.int (xs.length : Int) = V.int (n : Int)) = tupD n (.tuple ds) := by
        unfold tupD
        apply decide_eq_decide.mpr
        rw [l]
        simp
        omega
      show Q (.bl (decide (V.int (xs.length : Int) = V.int (n : Int)))) H
      rw [y]
      exact q
    · have e := of_decide_eq_false e
      have z : tupD n d = false := by
        cases d with
        | tuple i => exact absurd rfl e
        | _ => rfl
      rw [z] at q
      exact q
end
end K10

/-! set(xs) by what one item adds; len(set(xs)) of texts -/
namespace MS
open PySem PySem.Spec PyProof.Rows
section
variable {P : Program} {w : World} {A : Around} {I : Addr} {fp wr : List Addr} {G : Array GenState → Array GenState → Prop} {n : Nat} {Pv : Nat → Value → Prop} {St : Nat → Shared → Prop} {R : Result → Shared → Prop}
/-- J: how the set stands behind i items -/
theorem loopJ (W : WalksS P w A.in1 I fp wr G n Pv St) (S : Addr) (far : S ∉ fp) (J : Nat → Heap → Prop) (mono : ∀ i h h', (∀ b o, b ∉ wr → h.get? b = some o → h'.get? b = some o) → J i h → J i h')
    (add : ∀ i v (z : Shared) (Q : Bool → Shared → Prop) (E : Value → Shared → Prop), i < n → Pv i v → J i z.heap → (∀ b h' tk, Heap.SameBut S z.heap h' → J (i + 1) h' → z.toks ≤ tk → Q b { z with heap := h', toks := tk }) → wpAny (model P w) A.in1 (setAdd S v) Q E z) :
    ∀ (m i : Nat) (z : Shared), n - i = m → i ≤ n → St i z → J i z.heap → (∀ z', Moved (S :: wr) G z z' → J n z'.heap → R (.ok (.ret .none)) z') → codeAny (model P w) A (.builtin "set.update.loop" ⟨[.ref S, .ref I], []⟩) R z := by
  have notW : S ∉ wr := fun h => far (W.sub _ h)
  have more : ∀ b ∈ wr, b ∈ S :: wr := fun b hb => List.mem_cons_of_mem _ hb
  intro m
  induction m with
  | zero =>
    intro i z hm hi st j done
    obtain rfl : i = n := by omega
    refine codeAny_builtin (PyProof.Rows.F.entry_set_update_loop) ?_
    rw [Around.under_plainId (PyProof.Rows.F.plain_set_update_loop) _]
    change wpAny _ A.in1 (pyNext (.ref I) >>= _) _ _ z
    exact wpAny_bind (W.done z _ _ st fun z' mv => wpAny_pure (done z' (mv.mono more) (mono _ _ _ mv.heap j)))
  | succ m ih =>
    intro i z hm hi st j done
    have lt : i < n := by omega
    refine codeAny_builtin (PyProof.Rows.F.entry_set_update_loop) ?_
    rw [Around.under_plainId (PyProof.Rows.F.plain_set_update_loop) _]
    change wpAny _ A.in1 (pyNext (.ref I) >>= _) _ _ z
    refine wpAny_bind (W.item i z _ _ lt st fun v z' pv st' mv => ?_)
    change wpAny _ A.in1 (holding [v] (setAdd S v) >>= _) _ _ z'
    refine wpAny_bind (wpAny_holding (add i v z' _ _ lt pv (mono _ _ _ mv.heap j) fun b h' tk sb j' le => ?_))
    refine wpAny_pure ⟨plainId_quiet (PyProof.Rows.F.plain_set_update_loop) _, ih (i + 1) _ (by omega) lt (W.frame _ z' _ _ st' le fun c hc o e => ?_) j' fun z2 mv2 j2 => ?_⟩
    · rw [sb.2 c fun e2 => far (by rw [← e2]; exact hc)]
      exact e
    · refine done z2 (Moved.trans W.gtrans ((mv.mono more).then_heap le fun c o hc e => ?_) mv2) j2
      rw [sb.2 c fun e2 => hc (by rw [e2]; exact List.mem_cons_self)]
      exact e
end
section
variable {prog : Program} {w : World} {A : Around} {E : Value → Shared → Prop} {s : Shared}
abbrev newSet (led : Bool) : Obj := { cls := .type "set", dict := none, data := .set #[] 0 (.fresh 0 0 led) }
/-- set(xs), xs a list: J 0 of the new set, J at its end -/
theorem call_setL {l : Addr} {its : Array Value} {Q : Value → Shared → Prop} (calm : A.handled = none) (hl : s.heap.IsList l its) (J : Nat → Heap → Prop)
    (new : ∀ (led : Bool) (h : Heap), h.get? s.heap.objs.size = some (newSet led) → (∀ b o, s.heap.get? b = some o → h.get? b = some o) → J 0 h) (mono : ∀ i h h', (∀ b o, b ≤ s.heap.objs.size → h.get? b = some o → h'.get? b = some o) → J i h → J i h')
    (add : ∀ i v (B : Around) (z : Shared) (R : Bool → Shared → Prop) (F : Value → Shared → Prop), B.units ≤ A.units + 3 → i < its.size → its[i]? = some v → J i z.heap → (∀ b h' tk, Heap.SameBut s.heap.objs.size z.heap h' → J (i + 1) h' → z.toks ≤ tk → R b { z with heap := h', toks := tk }) →
      wpAny (model prog w) B (setAdd s.heap.objs.size v) R F z)
    (q : ∀ (h' : Heap) (tk : Nat), J its.size h' → (∀ b o, s.heap.get? b = some o → h'.get? b = some o) → Q (.ref s.heap.objs.size) { s with heap := h', toks := tk }) : wpAny (model prog w) A (call (.type "set") [.ref l]) Q E s := by
  obtain ⟨c, tl, mro⟩ := (PySem.F.called_set).mro
  have made := (PySem.F.called_set).made
  have sub := (PySem.F.called_set).sub
  refine wpAny_call (codeAny_of_tree (?_))
  change wpAny _ _ (callAny (.type "set") _) _ _ _
  refine wpAny_pure ⟨(Code.quiet_builtin _ (by decide +kernel)), (codeAny_builtin (PySem.F.entry_type_call) ?_)⟩
  rw [Around.under_plain (weight_type_call_type ("set") [.ref l] []) (by rfl)]
  have z1 := (PySem.F.called_set).notType
  have z2 := (PySem.F.called_set).canCreate
  have z3 := PySem.F.typeCall_set_1 (.ref l)
  repeat (any_goals (first | assumption | wp_step))
  refine codeAny_mono (code_set_new_1 (.ref l) (E := E) (Q₁ := fun u z => ∃ led : Bool, u = .ref s.heap.objs.size ∧ z = { s with heap := s.heap.push (newSet led) }) fun led => ⟨led, rfl, rfl⟩) fun r1 z1 hr => ?_
  match r1, hr with
  | .error e, hr => exact hr
  | .ok (.next), hr | .ok (.brk), hr | .ok (.cont), hr => exact hr.elim
  | .ok (.ret u), ⟨led, e1, e2⟩ =>
    subst e1 e2
    have hS : (s.heap.push (newSet led)).get? s.heap.objs.size = some (newSet led) := Heap.get?_push_size _ rfl
    have hT : Shared.TypeIs { s with heap := s.heap.push (newSet led) } (.ref s.heap.objs.size) "set" := ⟨_, hS, rfl⟩
    have z4 := (PySem.F.called_set).init.lookup
    have z5 := (PySem.F.called_set).init.bind (.ref s.heap.objs.size)
    repeat (any_goals (first | assumption | wp_step))
    refine codeAny_mono (codeAny_call_builtin (R := wants (fun u z => u = .none ∧ ∃ h' tk, z = { s with heap := h', toks := tk } ∧ J its.size h' ∧ ∀ b o, s.heap.get? b = some o → h'.get? b = some o) E) (PySem.F.called_set).init.plain (PySem.F.entry_set_init) (check_set_init_1 hT ?_)) fun r2 z2 hr2 => ?_
    · obtain ⟨⟨oc, od, odt, osl⟩, hol, hc, nl, hd⟩ := hl
      simp only at hc hd
      subst hc hd
      have hol1 : (s.heap.push (newSet led)).get? l = some { cls := .type "list", dict := od, data := .seq its nl, slots := osl } := Heap.get?_push_of_some _ hol
      have y1 := PySem.F.sub_list_set
      have y2 := PySem.F.sub_list_frozenset
      have y3 : (Value.type "list" == Value.type "dict") = false := by decide
      have hl1 : (s.heap.push (newSet led)).IsList l its := ⟨_, hol1, rfl, nl, rfl⟩
      unfold Builtin.«set.__init__»; unfold noKeywords Builtin.Frozenset.updateFrom
      generalize hIt : pyIter = It
      wp_walk
      subst hIt
      refine wpAny_pyIter_list hl1 (wpAny_bind (wpAny_runValue ?_))
      have lS := Heap.lt_size hol
      have calm3 : A.in1.in1.in1.handled = none := by simp [calm]
      have sz : (s.heap.push (newSet led)).objs.size = s.heap.objs.size + 1 := Heap.size_push ..
      have ne : l ≠ (s.heap.push (newSet led)).objs.size := by
        rw [sz]
        exact Nat.ne_of_lt (Nat.lt_succ_of_lt lS)
      have far : s.heap.objs.size ∉ [(s.heap.push (newSet led)).objs.size, l] := by
        simp only [List.mem_cons, List.not_mem_nil, or_false, not_or]
        exact ⟨fun e => absurd (e.trans sz) (Nat.ne_of_lt (Nat.lt_succ_self _)), Nat.ne_of_gt lS⟩
      have old : ∀ b o, s.heap.get? b = some o → ((s.heap.push (newSet led)).push { cls := .type "list_iterator", data := .fields #[.ref l, .int 0 0] }).get? b = some o := fun b o e => Heap.get?_push_of_some _ (Heap.get?_push_of_some _ e)
      refine loopJ ((Walks.list calm3 _ l ne its).toS) s.heap.objs.size far J (fun i h h' k j => mono i h h' (fun b o hb e => k b o (fun m => absurd hb (by rw [List.mem_singleton.mp m, sz]; exact Nat.not_succ_le_self _)) e) j)
        (fun i v z R F hi pv j k => add i v _ z R F (by show A.units + 1 + 1 + 1 ≤ _; omega) hi pv j k) (its.size - 0) 0 _ (by omega) (Nat.zero_le _)
        ⟨⟨_, Heap.get?_push_size _ rfl, rfl, rfl⟩, hl1.push _⟩ (new led _ (Heap.get?_push_of_some _ hS) old) fun z mv j => ?_
      obtain ⟨h2, g2, d2, t2, o2⟩ := z
      obtain rfl : g2 = s.gens := mv.gens
      obtain rfl : d2 = s.drawn := mv.drawn
      obtain rfl : o2 = s.os := mv.os
      change wpAny _ _ _ _ _ _
      refine wpAny_pure (?_)
      change wpAny _ _ (ret Value.none) _ _ _
      refine wpAny_pure ⟨rfl, h2, t2, rfl, j, fun b o e => mv.heap b o (fun m => ?_) (old b o e)⟩
      have := Heap.lt_size e
      simp only [List.mem_cons, List.not_mem_nil, or_false] at m
      rcases m with m | m
      · exact absurd m (Nat.ne_of_lt this)
      · exact absurd (m.trans sz) (Nat.ne_of_lt (Nat.lt_succ_of_lt this))
    · match r2, hr2 with
      | .error e, hr2 => exact hr2
      | .ok (.next), hr2 | .ok (.brk), hr2 | .ok (.cont), hr2 => exact hr2.elim
      | .ok (.ret u2), ⟨e3, h2, t2, e4, j, old⟩ =>
        subst e3 e4
        repeat (any_goals (first | assumption | wp_step))
        exact q h2 t2 j old
/-- set(xs), xs a tuple: J 0 of the new set, J at its end -/
theorem call_setT {l : Addr} {its : Array Value} {Q : Value → Shared → Prop} (calm : A.handled = none) (hl : s.heap.IsTuple l its) (J : Nat → Heap → Prop)
    (new : ∀ (led : Bool) (h : Heap), h.get? s.heap.objs.size = some (newSet led) → (∀ b o, s.heap.get? b = some o → h.get? b = some o) → J 0 h) (mono : ∀ i h h', (∀ b o, b ≤ s.heap.objs.size → h.get? b = some o → h'.get? b = some o) → J i h → J i h')
    (add : ∀ i v (B : Around) (z : Shared) (R : Bool → Shared → Prop) (F : Value → Shared → Prop), B.units ≤ A.units + 3 → i < its.size → its[i]? = some v → J i z.heap → (∀ b h' tk, Heap.SameBut s.heap.objs.size z.heap h' → J (i + 1) h' → z.toks ≤ tk → R b { z with heap := h', toks := tk }) →
      wpAny (model prog w) B (setAdd s.heap.objs.size v) R F z)
    (q : ∀ (h' : Heap) (tk : Nat), J its.size h' → (∀ b o, s.heap.get? b = some o → h'.get? b = some o) → Q (.ref s.heap.objs.size) { s with heap := h', toks := tk }) : wpAny (model prog w) A (call (.type "set") [.ref l]) Q E s := by
  obtain ⟨c, tl, mro⟩ := (PySem.F.called_set).mro
  have made := (PySem.F.called_set).made
  have sub := (PySem.F.called_set).sub
  refine wpAny_call (codeAny_of_tree (?_))
  change wpAny _ _ (callAny (.type "set") _) _ _ _
  refine wpAny_pure ⟨(Code.quiet_builtin _ (by decide +kernel)), (codeAny_builtin (PySem.F.entry_type_call) ?_)⟩
  rw [Around.under_plain (weight_type_call_type ("set") [.ref l] []) (by rfl)]
  have z1 := (PySem.F.called_set).notType
  have z2 := (PySem.F.called_set).canCreate
  have z3 := PySem.F.typeCall_set_1 (.ref l)
  repeat (any_goals (first | assumption | wp_step))
  refine codeAny_mono (code_set_new_1 (.ref l) (E := E) (Q₁ := fun u z => ∃ led : Bool, u = .ref s.heap.objs.size ∧ z = { s with heap := s.heap.push (newSet led) }) fun led => ⟨led, rfl, rfl⟩) fun r1 z1 hr => ?_
  match r1, hr with
  | .error e, hr => exact hr
  | .ok (.next), hr | .ok (.brk), hr | .ok (.cont), hr => exact hr.elim
  | .ok (.ret u), ⟨led, e1, e2⟩ =>
    subst e1 e2
    have hS : (s.heap.push (newSet led)).get? s.heap.objs.size = some (newSet led) := Heap.get?_push_size _ rfl
    have hT : Shared.TypeIs { s with heap := s.heap.push (newSet led) } (.ref s.heap.objs.size) "set" := ⟨_, hS, rfl⟩
    have z4 := (PySem.F.called_set).init.lookup
    have z5 := (PySem.F.called_set).init.bind (.ref s.heap.objs.size)
    repeat (any_goals (first | assumption | wp_step))
    refine codeAny_mono (codeAny_call_builtin (R := wants (fun u z => u = .none ∧ ∃ h' tk, z = { s with heap := h', toks := tk } ∧ J its.size h' ∧ ∀ b o, s.heap.get? b = some o → h'.get? b = some o) E) (PySem.F.called_set).init.plain (PySem.F.entry_set_init) (check_set_init_1 hT ?_)) fun r2 z2 hr2 => ?_
    · obtain ⟨⟨oc, od, odt, osl⟩, hol, hc, nl, hd⟩ := hl
      simp only at hc hd
      subst hc hd
      have hol1 : (s.heap.push (newSet led)).get? l = some { cls := .type "tuple", dict := od, data := .seq its nl, slots := osl } := Heap.get?_push_of_some _ hol
      have y1 := PySem.F.sub_tuple_set
      have y2 := PySem.F.sub_tuple_frozenset
      have y3 : (Value.type "tuple" == Value.type "dict") = false := by decide
      have hl1 : (s.heap.push (newSet led)).IsTuple l its := ⟨_, hol1, rfl, nl, rfl⟩
      unfold Builtin.«set.__init__»; unfold noKeywords Builtin.Frozenset.updateFrom
      generalize hIt : pyIter = It
      wp_walk
      subst hIt
      refine wpAny_pyIter_tuple hl1 (wpAny_bind (wpAny_runValue ?_))
      have lS := Heap.lt_size hol
      have calm3 : A.in1.in1.in1.handled = none := by simp [calm]
      have sz : (s.heap.push (newSet led)).objs.size = s.heap.objs.size + 1 := Heap.size_push ..
      have ne : l ≠ (s.heap.push (newSet led)).objs.size := by
        rw [sz]
        exact Nat.ne_of_lt (Nat.lt_succ_of_lt lS)
      have far : s.heap.objs.size ∉ [(s.heap.push (newSet led)).objs.size, l] := by
        simp only [List.mem_cons, List.not_mem_nil, or_false, not_or]
        exact ⟨fun e => absurd (e.trans sz) (Nat.ne_of_lt (Nat.lt_succ_self _)), Nat.ne_of_gt lS⟩
      have old : ∀ b o, s.heap.get? b = some o → ((s.heap.push (newSet led)).push { cls := .type "tuple_iterator", data := .fields #[.ref l, .int 0 0] }).get? b = some o := fun b o e => Heap.get?_push_of_some _ (Heap.get?_push_of_some _ e)
      refine loopJ ((Walks.tuple calm3 _ l ne its).toS) s.heap.objs.size far J (fun i h h' k j => mono i h h' (fun b o hb e => k b o (fun m => absurd hb (by rw [List.mem_singleton.mp m, sz]; exact Nat.not_succ_le_self _)) e) j)
        (fun i v z R F hi pv j k => add i v _ z R F (by show A.units + 1 + 1 + 1 ≤ _; omega) hi pv j k) (its.size - 0) 0 _ (by omega) (Nat.zero_le _)
        ⟨⟨_, Heap.get?_push_size _ rfl, rfl, rfl⟩, hl1.push _⟩ (new led _ (Heap.get?_push_of_some _ hS) old) fun z mv j => ?_
      obtain ⟨h2, g2, d2, t2, o2⟩ := z
      obtain rfl : g2 = s.gens := mv.gens
      obtain rfl : d2 = s.drawn := mv.drawn
      obtain rfl : o2 = s.os := mv.os
      change wpAny _ _ _ _ _ _
      refine wpAny_pure (?_)
      change wpAny _ _ (ret Value.none) _ _ _
      refine wpAny_pure ⟨rfl, h2, t2, rfl, j, fun b o e => mv.heap b o (fun m => ?_) (old b o e)⟩
      have := Heap.lt_size e
      simp only [List.mem_cons, List.not_mem_nil, or_false] at m
      rcases m with m | m
      · exact absurd m (Nat.ne_of_lt this)
      · exact absurd (m.trans sz) (Nat.ne_of_lt (Nat.lt_succ_of_lt this))
    · match r2, hr2 with
      | .error e, hr2 => exact hr2
      | .ok (.next), hr2 | .ok (.brk), hr2 | .ok (.cont), hr2 => exact hr2.elim
      | .ok (.ret u2), ⟨e3, h2, t2, e4, j, old⟩ =>
        subst e3 e4
        repeat (any_goals (first | assumption | wp_step))
        exact q h2 t2 j old
end
end MS

/-! len(set(xs)), xs of texts -/
namespace MS
open PySem PySem.Spec PyProof.Rows
/-- the set of the first i texts at S -/
def JS (P : Program) (w : World) (S : Addr) (xs : List Str) (i : Nat) (h : Heap) : Prop := ∃ c, h.SetOf (PySem.strKind P w) S (fun k => decide (k ∈ xs.take i)) c ∧ c ≤ i ∧ (c = i ↔ (xs.take i).Nodup)
theorem take_at {α : Type} {xs : List α} {i : Nat} {x : α} (h : xs[i]? = some x) : xs.take (i + 1) = xs.take i ++ [x] := by rw [List.take_add_one, h]; rfl
theorem nodup_snoc {α : Type} {xs : List α} {x : α} : (xs ++ [x]).Nodup ↔ xs.Nodup ∧ x ∉ xs := by
  rw [List.nodup_append]
  constructor
  · rintro ⟨h1, _, h3⟩
    exact ⟨h1, fun m => h3 x m x (List.mem_singleton.mpr rfl) rfl⟩
  · rintro ⟨h1, h2⟩
    refine ⟨h1, List.nodup_cons.mpr ⟨by simp, List.nodup_nil⟩, fun a ha b hb e => ?_⟩
    rw [List.mem_singleton.mp hb] at e
    exact h2 (e ▸ ha)
section
variable {P : Program} {w : World}
theorem JS.mono {S : Addr} {xs : List Str} {i : Nat} {h h' : Heap} (k : ∀ o, h.get? S = some o → h'.get? S = some o) (j : JS P w S xs i h) : JS P w S xs i h' :=
  let ⟨c, ⟨o, es, ep, t, ho, r⟩, q⟩ := j
  ⟨c, ⟨o, es, ep, t, k o ho, r⟩, q⟩
theorem JS.new {S : Addr} {xs : List Str} {led : Bool} {h : Heap} (hS : h.get? S = some (newSet led)) : JS P w S xs 0 h :=
  ⟨0, PyProof.Rows.SetOf_congr ((PyProof.Rows.setObjOf_fresh (knd := PySem.strKind P w) led).setOf hS (by unfold scanBound; omega)) (fun k => by simp) rfl, Nat.le_refl _, by simp⟩
theorem JS.add {S : Addr} {xs : List Str} {i : Nat} {x : Str} {t : Tok} {B : Around} {z : Shared} {R : Bool → Shared → Prop} {F : Value → Shared → Prop} (hx : xs[i]? = some x) (few : xs.length + 1 < scanBound) (j : JS P w S xs i z.heap)
    (k : ∀ b h' tk, Heap.SameBut S z.heap h' → JS P w S xs (i + 1) h' → z.toks ≤ tk → R b { z with heap := h', toks := tk }) : wpAny (model P w) B (setAdd S (.str x t)) R F z := by
  obtain ⟨c, st, le, iff⟩ := j
  have li := (List.getElem?_eq_some_iff.mp hx).1
  unfold setAdd
  refine wpAny_holding (wpAny_bind ((PySem.strKind P w).pyHash (k := x) (strKind_is _ _ _ _) ?_))
  refine wpAny_setAddHashed_of (knd := PySem.strKind P w) (s := { z with toks := z.toks + 1 }) (strKind_is _ _ _ _) rfl st (by omega) fun h' sb st' => ?_
  refine k _ h' _ sb ?_ (Nat.le_succ _)
  have tk := take_at hx
  by_cases m : x ∈ xs.take i
  · rw [if_pos (decide_eq_true m)] at st'
    refine ⟨c, PyProof.Rows.SetOf_congr st' (fun y => ?_) rfl, by omega, ?_⟩
    · rw [tk]
      by_cases e : y = x
      · subst e
        simp [m]
      · simp [e]
    · rw [tk, nodup_snoc]
      constructor
      · intro e
        omega
      · rintro ⟨_, n⟩
        exact absurd m n
  · rw [if_neg (by simp [m])] at st'
    refine ⟨c + 1, PyProof.Rows.SetOf_congr st' (fun y => ?_) rfl, by omega, ?_⟩
    · rw [tk]
      by_cases e : y = x
      · subst e
        simp
      · simp [e]
    · rw [tk, nodup_snoc, ← iff]
      constructor
      · intro e
        exact ⟨by omega, m⟩
      · rintro ⟨e, _⟩
        omega
end
end MS
namespace L2
open PySem PySem.Spec PyProof.Rows
section
variable {X : Cx}
/-- len(set(xs)): as many as xs has just if they differ -/
def tLenSetS (K : PySem.W.Frag) (ta : TE) : TE := fun σ H Q => ta σ H fun x H1 => ∃ (l : Addr) (xs : List Str), x = V.ref l ∧ (SqL K H1 l (xs.map V.str) ∨ SqT K H1 l (xs.map V.str)) ∧ xs.length < 1000 ∧ ∀ n : Nat, (n = xs.length ↔ xs.Nodup) → Q (.int n) H1
theorem strs_vals : ∀ {xs : List Str} {us : List Value}, Vals (xs.map V.str) us → us.length = xs.length ∧ ∀ (i : Nat) (v : Value), us[i]? = some v → ∃ x t, xs[i]? = some x ∧ v = .str x t
  | [], _, .nil => ⟨rfl, fun _ _ h => by simp at h⟩
  | x :: xs, _, .cons ⟨t, e⟩ r => by
    obtain ⟨l, h⟩ := strs_vals r
    refine ⟨by simp [l], fun i v hv => ?_⟩
    cases i with
    | zero => exact ⟨x, t, rfl, (Option.some.inj hv).symm.trans e⟩
    | succ i => exact h i v (by simpa using hv)
theorem pe_lenSetS {a : Expr} {ta : TE} {p p2 q pos : Pos} (hc : X.calm = true) (hg : Gl X "len") (hm : X.mg "len" = none) (hg2 : Gl X "set") (hm2 : X.mg "set" = none) (ha : PE X a ta)
    (na : starEach [a] X.env = (false, eval a X.env) :: starEach [] X.env := by rfl) : PE X (.Call (.Name "len" p) [.Call (.Name "set" p2) [a] [] q] [] pos) (tLenSetS X.K ta) := by
  refine ⟨fun pins s σ H Q I h => Call_ (ld_blt I hg hm PySem.boot_len ?_)⟩
  refine PyProof.Rows.callWith_builtin1 (PyProof.Rows.args_cons (Call_ (ld_blt I hg2 hm2 (PyProof.Rows.boot_set) ?_)) rfl) rfl rfl
  refine PyProof.Rows.callWith_type1 (PyProof.Rows.args_cons (thn (ha.run pins s σ H _ I h) fun v s1 ⟨x, H1, I1, r1, q1⟩ => PyProof.Rows.args_nil ?_) na) na rfl
  obtain ⟨l, xs, rfl, hs, few, q1⟩ := q1
  cases r1
  have fin : ∀ {us : List Value} (h' : Heap) (tk : Nat), us.length = xs.length → MS.JS X.prog X.w s1.heap.objs.size xs us.toArray.size h' → (∀ b o, s1.heap.get? b = some o → h'.get? b = some o) →
      wpAny (model X.prog X.w) X.A (call (.builtin "len") [.ref s1.heap.objs.size]) (EP X pins σ Q) X.xe { s1 with heap := h', toks := tk } := by
    intro us h' tk lu j old
    obtain ⟨c, ⟨o, es, ep, t, ho, hex, hd, _, _, _, hf, hn⟩, le, iff⟩ := j
    have I2 : Inv X pins σ H1 { s1 with heap := h', toks := tk } := I1.kept fun b o e => old b o e
    rw [List.size_toArray, lu] at le iff
    rw [List.take_length] at iff
    subst hn
    exact call_len_set ho hex hd hf (by omega) ⟨.int es.size, H1, I2.tok _, ⟨_, rfl⟩, q1 _ iff⟩
  have ad : ∀ {us : List Value}, Vals (xs.map V.str) us → ∀ i v (B : Around) (z : Shared) (R : Bool → Shared → Prop) (F : Value → Shared → Prop), B.units ≤ X.A.units + 3 → i < us.toArray.size → us.toArray[i]? = some v → MS.JS X.prog X.w s1.heap.objs.size xs i z.heap →
      (∀ b h' tk, Heap.SameBut s1.heap.objs.size z.heap h' → MS.JS X.prog X.w s1.heap.objs.size xs (i + 1) h' → z.toks ≤ tk → R b { z with heap := h', toks := tk }) → wpAny (model X.prog X.w) B (setAdd s1.heap.objs.size v) R F z := by
    intro us r i v B z R F _ _ hv j k
    obtain ⟨x, t, hx, rfl⟩ := (strs_vals r).2 i v (by simpa using hv)
    exact MS.JS.add hx (by unfold scanBound; omega) j k
  rcases hs with hs | hs
  · obtain ⟨us, r, pl, _⟩ := I1.list hs
    exact MS.call_setL (I1.ok.hd hc) pl.isList (MS.JS X.prog X.w s1.heap.objs.size xs) (fun led h hS _ => MS.JS.new hS) (fun i h h' k j => j.mono fun o e => k _ o (Nat.le_refl _) e) (ad r) fun h' tk j old => PyProof.Rows.args_nil (fin h' tk (strs_vals r).1 j old)
  · obtain ⟨us, r, ⟨o, ho, hc2, n, hd⟩, _⟩ := I1.tuple hs
    exact MS.call_setT (I1.ok.hd hc) ⟨o, ho, hc2, n, hd⟩ (MS.JS X.prog X.w s1.heap.objs.size xs) (fun led h hS _ => MS.JS.new hS) (fun i h h' k j => j.mono fun o e => k _ o (Nat.le_refl _) e) (ad r) fun h' tk j old => PyProof.Rows.args_nil (fin h' tk (strs_vals r).1 j old)
end
end L2

/-! sets of things that are keys by what the heap says of them (tuples of numbers and texts): adding, by the table's walk -/
namespace MS
open PySem PySem.Spec PyProof.Rows L2
section
variable {P : Program} {w : World} {κ : Type} [DecidableEq κ]
/-- what such keys have to be for a set -/
structure Setable (knd : HeapKind P w κ) : Prop where
  at_ : ∀ {h h' : Heap} {k : κ} {a : Addr}, (∀ o, h.get? a = some o → h'.get? a = some o) → knd.is h k a → knd.is h' k a
  seq : ∀ {h : Heap} {k : κ} {a : Addr}, knd.is h k a → ∃ o vs n, h.get? a = some o ∧ o.data = .seq vs n
  cls : ∀ {A : Around} {E : Value → Shared → Prop} {s : Shared} {k : κ} {b : Addr} {Q : Bool → Shared → Prop}, knd.is s.heap k b → Q false s → wpAny (model P w) A (ofAClassStatement 8 (.ref b)) Q E s
  val : ∀ {A : Around} {E : Value → Shared → Prop} {s : Shared} {k : κ} {b : Addr} {Q : Bool → Shared → Prop}, knd.is s.heap k b → (∀ v, Q v s) → wpAny (model P w) A (hashByValue 8 (.ref b)) Q E s
/-- the set at S holds L, in the order of its table -/
structure Hs (knd : HeapKind P w κ) (h : Heap) (S : Addr) (L : List (Addr × κ)) (es : Array (Int × Value)) (ep : Nat) (t : SetTable) : Prop where
  obj : ∃ o, h.get? S = some o ∧ o.ExactSet ∧ o.data = .set es ep t
  row : es.toList = L.map fun p => (knd.hash p.2, Value.ref p.1)
  tab : TabOk t (L.map fun p => knd.hash p.2)
  one : (L.map (·.2)).Nodup
  its : ∀ p ∈ L, knd.is h p.2 p.1
  gap : L.length * 5 < t.mask * 3
  sml : L.length < 64
variable {knd : HeapKind P w κ} {A : Around} {E : Value → Shared → Prop} {s : Shared} {S : Addr} {L : List (Addr × κ)} {es : Array (Int × Value)} {ep : Nat} {t : SetTable}
theorem Hs.size {h : Heap} (R : Hs knd h S L es ep t) : es.size = L.length := by
  rw [← Array.length_toList, R.row, List.length_map]
theorem Hs.fit {h : Heap} (R : Hs knd h S L es ep t) : t.fits es.size = true := by
  have a := R.tab.sz
  have b := R.size
  have c := R.gap
  rw [List.length_map] at a
  unfold SetTable.fits SetTable.fill
  rw [R.tab.dm, Bool.and_eq_true, beq_iff_eq, decide_eq_true_eq]
  refine ⟨by omega, ?_⟩
  show t.place.size + 0 ≤ t.mask
  omega
theorem Hs.at {h : Heap} (R : Hs knd h S L es ep t) {i : Nat} {p : Addr × κ} (e : L[i]? = some p) : es[i]? = some (knd.hash p.2, Value.ref p.1) := by
  rw [← Array.getElem?_toList, R.row, List.getElem?_map, e]
  rfl
theorem Hs.low {h : Heap} (R : Hs knd h S L es ep t) : t.mask < 128 := by
  rcases R.tab.mok with e | e | e <;> omega
theorem no_dummy (m : Nat) : ∀ (n : Nat) (p : SetTable.Probe), p.dummy = none → (nth m p n).dummy = none
  | 0, _, h => h
  | n + 1, p, h => no_dummy m n (adv m p) (by unfold adv; split <;> exact h)
/-- the walk's place behind c steps -/
abbrev pl (t : SetTable) (g : Int) (c : Nat) : SetTable.Probe := nth t.mask (runAt t.mask (SetTable.bits g % (t.mask + 1)) (SetTable.bits g)) c
theorem pl_add (t : SetTable) (g : Int) (c q : Nat) : nth t.mask (pl t g c) q = pl t g (c + q) := (nth_add t.mask c _ q).symm
theorem pl_way (t : SetTable) (g : Int) (c : Nat) : (pl t g c).j = way t.mask g c := rfl
/-- what a probe from the c-th step on answers: K is the first free step -/
theorem probe_at {h : Heap} (R : Hs knd h S L es ep t) {g : Int} {K : Nat} (hf : K < 10 * SetTable.turns t.mask) (h0 : way t.mask g K ∉ t.place.toList) (h1 : ∀ c, c < K → way t.mask g c ∈ t.place.toList) {c : Nat} (hc : c ≤ K) :
    (∃ c2 i, c ≤ c2 ∧ c2 < K ∧ i < L.length ∧ t.place.toList[i]? = some (way t.mask g c2) ∧ (∀ (c3 i3 : Nat) (p : Addr × κ), c ≤ c3 → c3 < c2 → L[i3]? = some p → t.place.toList[i3]? = some (way t.mask g c3) → knd.hash p.2 ≠ g) ∧
      t.probe (fun i => (es[i]?.map (·.1)).getD 0) g (pl t g c) = some (.candidate (way t.mask g c2) i (pl t g (c2 + 1)))) ∨
    ((∀ (c3 i3 : Nat) (p : Addr × κ), c ≤ c3 → c3 < K → L[i3]? = some p → t.place.toList[i3]? = some (way t.mask g c3) → knd.hash p.2 ≠ g) ∧ t.probe (fun i => (es[i]?.map (·.1)).getD 0) g (pl t g c) = some (.empty (way t.mask g K) none)) := by
  have ha : ∀ (i : Nat) p, L[i]? = some p → (es[i]?.map (·.1)).getD 0 = knd.hash p.2 := fun i p e => by
    rw [R.at e]
    rfl
  have sp := go_spec t R.tab.ris R.tab.dm (fun i => (es[i]?.map (·.1)).getD 0) g (10 * SetTable.turns t.mask) (K - c) (pl t g c) (no_dummy _ _ _ rfl) (by omega)
    (fun q hq => by rw [pl_add]; exact h1 _ (by omega)) (by rw [pl_add, Nat.add_sub_cancel' hc]; exact h0)
  rcases sp with ⟨q, i, hq, hi, _, hn, hp⟩ | ⟨hn, hp⟩
  · rw [pl_add] at hi
    refine .inl ⟨c + q, i, by omega, by omega, ?_, hi, fun c3 i3 p a b e z => ?_, ?_⟩
    · have l := (List.getElem?_eq_some_iff.mp hi).1
      have l2 := R.tab.sz
      rw [List.length_map] at l2
      rw [Array.length_toList] at l
      omega
    · have y := hn (c3 - c) i3 (by omega) (by rw [pl_add, Nat.add_sub_cancel' a]; exact z)
      rw [ha i3 p e] at y
      exact y
    · rw [pl_add, pl_add] at hp
      exact hp
  · refine .inr ⟨fun c3 i3 p a b e z => ?_, ?_⟩
    · have y := hn (c3 - c) i3 (by omega) (by rw [pl_add, Nat.add_sub_cancel' a]; exact z)
      rw [ha i3 p e] at y
      exact y
    · rw [pl_add, Nat.add_sub_cancel' hc] at hp
      exact hp
/-- a search among such keys shows nothing -/
theorem unseen (Z : Setable knd) {k : κ} {b : Addr} (hk : knd.is s.heap k b) {Q : Bool → Shared → Prop} (q : Q false s) {ys : List Value} (hy : ∀ y ∈ ys, ∃ k' c, y = Value.ref c ∧ knd.is s.heap k' c) : wpAny (model P w) A (searchCouldBeSeen (.ref b) ys) Q E s := by
  unfold searchCouldBeSeen
  refine wpAny_bind (wpAny_forIn_list _ (fun zs r s' => r.1 = none ∧ s' = s ∧ ∀ y ∈ zs, ∃ k' c, y = Value.ref c ∧ knd.is s.heap k' c) _ (fun v zs r s' hr => ?_) (fun r s' hr => ?_) _ _ ⟨rfl, rfl, hy⟩)
  · obtain ⟨hn, rfl, all⟩ := hr
    obtain ⟨k2, c, rfl, hc⟩ := all v List.mem_cons_self
    have all2 := fun y (m : y ∈ zs) => all y (List.mem_cons_of_mem _ m)
    dsimp only
    by_cases c0 : (b == c || (carriedByValue (.ref b) && carriedByValue (.ref c))) = true
    · exact wp_if_pos c0 (wpAny_pure ⟨rfl, rfl, all2⟩)
    refine wp_if_neg c0 (wpAny_bind (knd.quiet hk ?_))
    refine wp_if_neg (by decide) (wpAny_bind (knd.quiet hc ?_))
    refine wp_if_neg (by decide) (wpAny_bind (Z.cls hk ?_))
    refine wp_if_neg (by decide) (wpAny_bind (Z.cls hc ?_))
    exact wp_if_neg (by decide) (wpAny_pure ⟨rfl, rfl, all2⟩)
  · obtain ⟨r1, r2⟩ := r
    obtain ⟨hn, rfl, _⟩ := hr
    simp only at hn
    subst hn
    exact wpAny_pure q
/-- the walk from its c-th step on; K is the first free one -/
theorem seek (Z : Setable knd) (R : Hs knd s.heap S L es ep t) {x : Addr} {k : κ} (hx : knd.is s.heap k x) (hu : knd.room A) {K : Nat} (hf : K < 10 * SetTable.turns t.mask)
    (h0 : way t.mask (knd.hash k) K ∉ t.place.toList) (h1 : ∀ c, c < K → way t.mask (knd.hash k) c ∈ t.place.toList) {Q : SetFound → Shared → Prop}
    (qin : k ∈ L.map (·.2) → Q (.there none) s) (qout : k ∉ L.map (·.2) → Q (.free (way t.mask (knd.hash k) K) false) s) (fuel : Nat) :
    ∀ (c : Nat) (from_ : Option SetTable.Probe), from_.getD (t.probeStart (knd.hash k)) = pl t (knd.hash k) c → c ≤ K → K < fuel + c →
      (∀ (i : Nat) (p : Addr × κ), L[i]? = some p → p.2 = k → ∃ c', c ≤ c' ∧ c' < K ∧ t.place.toList[i]? = some (way t.mask (knd.hash k) c')) →
      wpAny (model P w) A (setSearchFrom S (.ref x) (knd.hash k) true fuel from_) Q E s := by
  induction fuel with
  | zero => intro c from_ _ a b; omega
  | succ fuel ih =>
    intro c from_ hs hc hl hits
    obtain ⟨o, ho, hex, hd⟩ := R.obj
    rw [setSearchFrom_succ]
    refine wpAny_bind (wpAny_setState_of ho hd R.fit ?_)
    dsimp only
    have odd : ¬ t.gaveWay = true := by
      unfold SetTable.gaveWay
      rw [mask_odd R.tab.mok]
      decide
    refine wp_if_neg odd ?_
    rw [hs]
    rcases probe_at R hf h0 h1 hc with ⟨c2, i, a1, a2, li, hi, hn, hp⟩ | ⟨hn, hp⟩
    · rw [hp]
      dsimp only
      have ep := List.getElem?_eq_getElem li
      generalize L[i] = p at ep
      have mp := List.mem_of_getElem? ep
      have tail : wpAny (model P w) A (searchRest S (.ref x) (knd.hash k) true fuel es t (way t.mask (knd.hash k) c2) i (pl t (knd.hash k) (c2 + 1))) Q E s := by
        unfold searchRest
        rw [R.at ep]
        refine wpAny_bind (wpAny_holding (knd.eqBool hu (R.its p mp) hx ?_))
        refine wpAny_bind (wpAny_setState_of ho hd R.fit ?_)
        dsimp only
        by_cases same : p.2 = k
        · refine wp_if_pos (by simp [same]) (wpAny_pure (qin ?_))
          exact List.mem_map.mpr ⟨p, mp, same⟩
        · refine wp_if_neg (by simp [same]) ?_
          try refine wpAny_bind (wpAny_pure ?_)
          rw [show t.sameMemory t.moves t.mask = some true by unfold SetTable.sameMemory; rw [if_pos (beq_self_eq_true _)]]
          have sl : t.slot (way t.mask (knd.hash k) c2) = .live i := slot_live R.tab.ris hi
          simp only [if_true, sl, R.at ep]
          refine wpAny_bind (wpAny_isSame_ref_self (wpAny_bind (wpAny_pure ?_)))
          simp only [if_true]
          refine wp_if_neg (by simp [same]) (ih (c2 + 1) _ rfl (by omega) (by omega) fun i3 p3 e3 k3 => ?_)
          obtain ⟨c3, b1, b2, b3⟩ := hits i3 p3 e3 k3
          by_cases low : c3 < c2
          · exact absurd (congrArg knd.hash k3) (hn c3 i3 p3 b1 low e3 b3)
          · by_cases eq : c3 = c2
            · subst eq
              have z := slot_live R.tab.ris b3
              rw [sl] at z
              cases z
              rw [ep] at e3
              exact absurd (by rw [Option.some.inj e3]; exact k3) same
            · exact ⟨c3, by omega, b2, b3⟩
      by_cases led : t.led = true
      · refine wp_if_neg (by simp [led]) ?_
        try refine wpAny_bind (wpAny_pure ?_)
        exact tail
      · refine wp_if_pos (by simp [led]) (wpAny_bind (unseen Z hx ?_ fun y hy => ?_))
        · refine wp_if_neg (by decide) ?_
          try refine wpAny_bind (wpAny_pure ?_)
          exact tail
        · obtain ⟨e, he, rfl⟩ := List.mem_map.mp hy
          have h2 : e ∈ es.toList := by
            have h3 : e ∈ es ∧ e.1 = knd.hash k := by simpa using he
            simpa using h3.1
          rw [R.row] at h2
          obtain ⟨p2, m2, rfl⟩ := List.mem_map.mp h2
          exact ⟨p2.2, p2.1, rfl, R.its p2 m2⟩
    · rw [hp]
      refine wpAny_pure (qout fun m => ?_)
      obtain ⟨p3, m3, k3⟩ := List.mem_map.mp m
      obtain ⟨i3, e3⟩ := List.mem_iff_getElem?.mp m3
      obtain ⟨c3, b1, b2, b3⟩ := hits i3 p3 e3 k3
      exact hn c3 i3 p3 b1 b2 e3 b3 (congrArg knd.hash k3)
theorem seek_all (Z : Setable knd) (R : Hs knd s.heap S L es ep t) {x : Addr} {k : κ} (hx : knd.is s.heap k x) (hu : knd.room A) {Q : SetFound → Shared → Prop} (qin : k ∈ L.map (·.2) → Q (.there none) s)
    (qout : ∀ K, k ∉ L.map (·.2) → way t.mask (knd.hash k) K ∉ t.place.toList → (∀ c, c < K → way t.mask (knd.hash k) c ∈ t.place.toList) → Q (.free (way t.mask (knd.hash k) K) false) s) :
    wpAny (model P w) A (setSearch S (.ref x) (knd.hash k) true) Q E s := by
  have gap := R.gap
  have low := R.low
  obtain ⟨K, hf, h0, h1⟩ := R.tab.first (by rw [List.length_map]; omega) (knd.hash k)
  have big : K < 100000 := by
    unfold SetTable.turns at hf
    omega
  refine seek Z R hx hu hf h0 h1 qin (fun n => qout K n h0 h1) 100000 0 none rfl (Nat.zero_le _) (by omega) fun i p e ek => ?_
  have z := R.tab.sz
  rw [List.length_map] at z
  have li := (List.getElem?_eq_some_iff.mp e).1
  have hj := List.getElem?_eq_getElem (show i < t.place.toList.length by rw [Array.length_toList]; omega)
  obtain ⟨c, hc, ec⟩ := R.tab.before h0 (i := i) (by rw [List.getElem?_map, e, ← ek]; rfl) hj
  exact ⟨c, Nat.zero_le _, hc, by rw [hj, ec]⟩
/-- a row of the table -/
abbrev ent (knd : HeapKind P w κ) (p : Addr × κ) : Int × Value := (knd.hash p.2, Value.ref p.1)
theorem range_get {α : Type} (l : List α) : (List.range l.length).filterMap (fun i => l[i]?) = l := by
  induction l with
  | nil => rfl
  | cons x l ih =>
    rw [List.length_cons, List.range_succ_eq_map, List.filterMap_cons_some (b := x) (show (x :: l)[0]? = some x from rfl), List.filterMap_map]
    exact congrArg (List.cons x) ih
theorem picked {es : Array (Int × Value)} {order : Array Nat} (row : es.toList = L.map (ent knd)) (hp : order.toList.Perm (List.range L.length)) :
    ∃ L2 : List (Addr × κ), L2.Perm L ∧ (order.filterMap (es[·]?)).toList = L2.map (ent knd) ∧ (L2.map fun p => knd.hash p.2) = order.toList.map fun i => (es.map (·.1)).getD i 0 := by
  have get : ∀ i, es[i]? = (L[i]?).map (ent knd) := fun i => by rw [← Array.getElem?_toList, row, List.getElem?_map]
  refine ⟨order.toList.filterMap fun i => L[i]?, ?_, ?_, ?_⟩
  · have z := hp.filterMap fun i => L[i]?
    rw [range_get] at z
    exact z
  · rw [Array.toList_filterMap, List.map_filterMap]
    congr 1
    funext i
    exact get i
  · have lt : ∀ i ∈ order.toList, i < L.length := fun i m => List.mem_range.mp (hp.mem_iff.mp m)
    generalize order.toList = l at lt
    clear hp
    induction l with
    | nil => rfl
    | cons i l ih =>
      have hi := lt i List.mem_cons_self
      have e := List.getElem?_eq_getElem hi
      rw [List.filterMap_cons_some e, List.map_cons, List.map_cons, ih fun j m => lt j (List.mem_cons_of_mem _ m)]
      congr 1
      have z : (es.map (·.1))[i]? = some (knd.hash (L[i]).2) := by
        rw [Array.getElem?_map, get i, e]
        rfl
      rw [Array.getD_eq_getD_getElem?, z]
      rfl
theorem same_is (Z : Setable knd) {h h' : Heap} {o : Obj} {k : κ} {b : Addr} (ho : h.get? S = some o) (hd : o.data = .set es ep t) (sb : Heap.SameBut S h h') (hk : knd.is h k b) : knd.is h' k b := by
  refine Z.at_ (fun u e => ?_) hk
  have ne : b ≠ S := fun z => by
    obtain ⟨o2, vs, n, e2, d2⟩ := Z.seq hk
    rw [z, ho] at e2
    rw [← Option.some.inj e2, hd] at d2
    cases d2
  rw [sb.2 b ne]
  exact e
/-- the table is laid anew, with the mask M -/
theorem relay (Z : Setable knd) {o : Obj} (ho : s.heap.get? S = some o) (hex : o.ExactSet) (hd : o.data = .set es ep t) (row : es.toList = L.map (ent knd)) (fit : t.fits es.size = true) (one : (L.map (·.2)).Nodup) (its : ∀ p ∈ L, knd.is s.heap p.2 p.1)
    (sml : L.length < 64) {want M : Nat} (hM : MaskOk M) (hw : SetTable.sizeAbove want = M + 1) (gap : L.length * 5 < M * 3) {Q : Unit → Shared → Prop}
    (q : ∀ h' L' es' ep' t', Heap.SameBut S s.heap h' → Hs knd h' S L' es' ep' t' → L'.Perm L → Q () { s with heap := h' }) : wpAny (model P w) A (setRelay S want) Q E s := by
  have n0 : es.size = L.length := by rw [← Array.length_toList, row, List.length_map]
  have m0 : M < 128 := by rcases hM with e | e | e <;> omega
  obtain ⟨t2, order, e, hp, T, em, _, _, _⟩ := relaid_ok t (hs := es.map (·.1)) (wanted := want) (M := M) (by omega) hM (by rw [Array.size_map, n0]; omega)
  rw [Array.size_map, n0] at hp
  obtain ⟨L2, pm, r2, r3⟩ := picked row hp
  rw [← r3] at T
  have n2 : (order.filterMap (es[·]?)).size = L.length := by rw [← Array.length_toList, r2, List.length_map, pm.length_eq]
  rw [setRelay_eq]
  refine wpAny_bind (wpAny_setState_of ho hd fit ?_)
  dsimp only
  refine wp_if_neg (by rw [sizeLine_eq]; omega) ?_
  try refine wpAny_bind (wpAny_pure ?_)
  rw [e]
  dsimp only
  refine wpAny_bind (wp_if_neg (by rw [n2, n0]; simp) ?_)
  try refine wpAny_bind (wpAny_pure ?_)
  refine wpAny_pure ?_
  dsimp only
  have sb : Heap.SameBut S s.heap (s.heap.update S (Obj.putSet (order.filterMap (es[·]?)) t2)) := Heap.SameBut.update ..
  refine wpAny_storeSet_of ho hd (q _ L2 _ (ep + 1) t2 sb ⟨⟨_, store_at ho hd, ⟨hex.1, hex.2.1, hex.2.2⟩, rfl⟩, r2, T, (pm.map (·.2)).nodup_iff.mpr one, fun p m => same_is Z ho hd sb (its p (pm.mem_iff.mp m)), ?_, ?_⟩ pm) (by rw [n2, sizeLine_eq]; omega)
  · rw [pm.length_eq, em]
    exact gap
  · rw [pm.length_eq]
    exact sml
/-- one more for the set -/
theorem add (Z : Setable knd) (R : Hs knd s.heap S L es ep t) {x : Addr} {k : κ} (hx : knd.is s.heap k x) (hu : knd.room A) (few : L.length + 1 < 64) {Q : Bool → Shared → Prop}
    (q : ∀ b h' L' es' ep' t', Heap.SameBut S s.heap h' → Hs knd h' S L' es' ep' t' → (k ∈ L.map (·.2) → L' = L) → (k ∉ L.map (·.2) → L'.Perm ((x, k) :: L)) → Q b { s with heap := h' }) :
    wpAny (model P w) A (setAddHashed S (.ref x) (knd.hash k)) Q E s := by
  obtain ⟨o, ho, hex, hd⟩ := id R.obj
  have n0 := R.size
  have gap := R.gap
  unfold setAddHashed
  rw [show (100000 : Nat) = Nat.succ 99999 from rfl]
  refine wpAny_holding ?_
  rw [setAddHashedIn_succ]
  refine wpAny_bind (wpAny_setState_of ho hd R.fit ?_)
  dsimp only
  refine wp_if_neg (by simp [byScan, Value.scannable]) ?_
  try refine wpAny_bind (wpAny_pure ?_)
  refine wpAny_bind (seek_all Z R hx hu (fun m => ?_) fun K m h0 h1 => ?_)
  · exact wpAny_pure (q false s.heap L es ep t (Heap.SameBut.refl S s.heap) R (fun _ => rfl) fun z => absurd m z)
  dsimp only
  refine wpAny_bind (wpAny_setState_of ho hd R.fit ?_)
  dsimp only
  obtain ⟨c1, c2, c3, c4, c5, c6, c7, c8, c9⟩ := R.tab.put h0 h1
  generalize hput : t.put (way t.mask (knd.hash k) K) = pt at c1 c3 c4 c5 c6 c7 c8 c9 ⊢
  obtain ⟨t1, at_⟩ := pt
  dsimp only at c1 c3 c4 c5 c6 c7 c8 c9 ⊢
  subst c1
  -- whatever is said of its hash, the rest is the same
  have go : ∀ t3 : SetTable, TabOk t3 ((L.map fun p => knd.hash p.2).take (SetTable.below t.place (way t.mask (knd.hash k) K)) ++ knd.hash k :: (L.map fun p => knd.hash p.2).drop (SetTable.below t.place (way t.mask (knd.hash k) K))) → t3.mask = t.mask → t3.fill = L.length + 1 →
      wpAny (model P w) A (storeSet S (SetTable.insertAt es (SetTable.below t.place (way t.mask (knd.hash k) K)) (knd.hash k, .ref x)) t3 >>= fun _ => do
        if !false && t3.tooFull then setRelay S (SetTable.grown (es.size + 1))
        return true) Q E s := by
    intro t3 T3 m3 f3
    have row : (SetTable.insertAt es (SetTable.below t.place (way t.mask (knd.hash k) K)) (knd.hash k, .ref x)).toList = (L.take (SetTable.below t.place (way t.mask (knd.hash k) K)) ++ (x, k) :: L.drop (SetTable.below t.place (way t.mask (knd.hash k) K))).map (ent knd) := by
      rw [SetTable.toList_insertAt, R.row, List.map_append, List.map_cons, List.map_take, List.map_drop]
    generalize SetTable.insertAt es (SetTable.below t.place (way t.mask (knd.hash k) K)) (knd.hash k, .ref x) = es1 at row ⊢
    rw [← List.map_take, ← List.map_drop, ← List.map_cons (f := fun p : Addr × κ => knd.hash p.2) (a := (x, k)), ← List.map_append] at T3
    have pm : (L.take (SetTable.below t.place (way t.mask (knd.hash k) K)) ++ (x, k) :: L.drop (SetTable.below t.place (way t.mask (knd.hash k) K))).Perm ((x, k) :: L) := by
      refine List.perm_middle.trans ?_
      rw [List.take_append_drop]
    generalize L.take (SetTable.below t.place (way t.mask (knd.hash k) K)) ++ (x, k) :: L.drop (SetTable.below t.place (way t.mask (knd.hash k) K)) = L1 at row T3 pm
    have n1 : L1.length = L.length + 1 := pm.length_eq
    have n3 : es1.size = L1.length := by rw [← Array.length_toList, row, List.length_map]
    have one : (L1.map (·.2)).Nodup := by
      refine (pm.map (·.2)).nodup_iff.mpr ?_
      rw [List.map_cons]
      exact List.nodup_cons.mpr ⟨m, R.one⟩
    have sb : Heap.SameBut S s.heap (s.heap.update S (Obj.putSet es1 t3)) := Heap.SameBut.update ..
    refine wpAny_bind (wpAny_storeSet_of ho hd ?_ (by rw [sizeLine_eq]; omega))
    have o1 := store_at (es' := es1) (t' := t3) ho hd
    generalize s.heap.update S (Obj.putSet es1 t3) = h1 at sb o1 ⊢
    have its : ∀ p ∈ L1, knd.is h1 p.2 p.1 := fun p mp => by
      rcases List.mem_cons.mp (pm.mem_iff.mp mp) with e | mp
      · rw [e]
        exact same_is Z ho hd sb hx
      · exact same_is Z ho hd sb (R.its p mp)
    have z3 := T3.sz
    rw [List.length_map] at z3
    have fit : t3.fits es1.size = true := by
      unfold SetTable.fits
      rw [f3, m3, Bool.and_eq_true, beq_iff_eq, decide_eq_true_eq]
      exact ⟨by omega, by omega⟩
    by_cases full : t3.tooFull = true
    · have wide : t.mask * 3 ≤ (L.length + 1) * 5 := by
        have z := full
        unfold SetTable.tooFull at z
        rw [decide_eq_true_eq, f3, m3] at z
        exact z
      have two : (L.length = 4 ∧ t.mask = 7) ∨ (L.length = 18 ∧ t.mask = 31) := by
        rcases R.tab.mok with e | e | e
        · exact .inl ⟨by omega, e⟩
        · exact .inr ⟨by omega, e⟩
        · omega
      have end_ : ∀ M, MaskOk M → SetTable.sizeAbove (SetTable.grown (es.size + 1)) = M + 1 → L1.length * 5 < M * 3 → wpAny (model P w) A (setRelay S (SetTable.grown (es.size + 1))) (fun _ s' => wpAny (model P w) A (pure true) Q E s') E { s with heap := h1 } :=
        fun M hM hw g => relay (s := { s with heap := h1 }) Z o1 ⟨hex.1, hex.2.1, hex.2.2⟩ rfl row fit one its (by omega) hM hw g fun h2 L2 es2 ep2 t2 sb2 R2 pm2 => wpAny_pure (q true h2 L2 es2 ep2 t2 (sb.trans sb2) R2 (fun z => absurd z m) fun _ => pm2.trans pm)
      first
        | refine wpAny_bind (wp_if_pos (by simp [full]) ?_)
        | refine wp_if_pos (by simp [full]) (wpAny_bind ?_)
      rcases two with ⟨e, _⟩ | ⟨e, _⟩
      · exact end_ 31 (.inr (.inl rfl)) (by rw [n0, e, size_20]) (by omega)
      · exact end_ 127 (.inr (.inr rfl)) (by rw [n0, e, size_76]) (by omega)
    · first
        | refine wp_if_neg (by simp [full]) ?_
        | refine wpAny_bind (wp_if_neg (by simp [full]) (wpAny_pure ?_))
      refine wpAny_pure (q true h1 L1 es1 (ep + 1) t3 sb ⟨⟨_, o1, ⟨hex.1, hex.2.1, hex.2.2⟩, rfl⟩, row, T3, one, its, ?_, by omega⟩ (fun z => absurd z m) fun _ => pm)
      have z := full
      unfold SetTable.tooFull at z
      rw [decide_eq_true_eq, f3, m3] at z
      omega
  have f3 := c9.trans (congrArg (· + 1) (List.length_map _))
  by_cases pl : t1.plain = true
  · first
      | refine wp_if_pos pl (wpAny_bind (Z.val hx fun v => ?_))
      | refine wpAny_bind (wp_if_pos pl (Z.val hx fun v => ?_))
    cases v with
    | true => exact go t1 c3 c4 f3
    | false => exact go { t1 with plain := false } ⟨c3.ris, c3.dm, c3.sz, c3.mok, c3.bd, c3.reach⟩ c4 f3
  · first
      | refine wp_if_neg pl ?_
      | refine wpAny_bind (wp_if_neg pl (wpAny_pure ?_))
    exact go t1 c3 c4 f3
/-- the set of the first i things at S -/
def JT (knd : HeapKind P w κ) (S : Addr) (xs : List (Addr × κ)) (i : Nat) (h : Heap) : Prop := (∀ p ∈ xs, p.1 < S ∧ knd.is h p.2 p.1) ∧
  ∃ L es ep t, Hs knd h S L es ep t ∧ (∀ p ∈ L, p ∈ xs) ∧ (∀ k, k ∈ L.map (·.2) ↔ k ∈ (xs.take i).map (·.2)) ∧ L.length ≤ i ∧ (L.length = i ↔ ((xs.take i).map (·.2)).Nodup)
theorem Hs.upto (Z : Setable knd) {h h' : Heap} (R : Hs knd h S L es ep t) (kS : ∀ o, h.get? S = some o → h'.get? S = some o) (k : ∀ p ∈ L, ∀ o, h.get? p.1 = some o → h'.get? p.1 = some o) : Hs knd h' S L es ep t :=
  let ⟨o, ho, hx⟩ := R.obj
  ⟨⟨o, kS o ho, hx⟩, R.row, R.tab, R.one, fun p m => Z.at_ (k p m) (R.its p m), R.gap, R.sml⟩
theorem JT.mono (Z : Setable knd) {xs : List (Addr × κ)} {i : Nat} {h h' : Heap} (k : ∀ b o, b ≤ S → h.get? b = some o → h'.get? b = some o) (j : JT knd S xs i h) : JT knd S xs i h' := by
  obtain ⟨a, L, es, ep, t, R, sub, r⟩ := j
  exact ⟨fun p m => ⟨(a p m).1, Z.at_ (fun o e => k _ o (Nat.le_of_lt (a p m).1) e) (a p m).2⟩, L, es, ep, t, R.upto Z (fun o e => k _ o (Nat.le_refl _) e) (fun p m o e => k _ o (Nat.le_of_lt (a p (sub p m)).1) e), sub, r⟩
theorem JT.new {xs : List (Addr × κ)} {led : Bool} {h : Heap} (hS : h.get? S = some (newSet led)) (hx : ∀ p ∈ xs, p.1 < S ∧ knd.is h p.2 p.1) : JT knd S xs 0 h := by
  refine ⟨hx, [], #[], 0, .fresh 0 0 led, ⟨⟨_, hS, ⟨rfl, rfl, rfl⟩, rfl⟩, rfl, ?_, List.nodup_nil, (fun _ m => nomatch m), (by show 0 * 5 < 7 * 3; decide), (by show 0 < 64; decide)⟩, (fun _ m => nomatch m), (fun k => by simp), Nat.le_refl _, by simp⟩
  exact ⟨List.Pairwise.nil, rfl, rfl, .inl rfl, (fun _ m => nomatch m), fun i h j e => by simp at e⟩
theorem JT.add (Z : Setable knd) {xs : List (Addr × κ)} {i : Nat} {x : Addr} {k : κ} {B : Around} {z : Shared} {R : Bool → Shared → Prop} {F : Value → Shared → Prop} (hx : xs[i]? = some (x, k)) (few : xs.length < 64) (hu : knd.room B) (j : JT knd S xs i z.heap)
    (q : ∀ b h' tk, Heap.SameBut S z.heap h' → JT knd S xs (i + 1) h' → z.toks ≤ tk → R b { z with heap := h', toks := tk }) : wpAny (model P w) B (setAdd S (.ref x)) R F z := by
  obtain ⟨a, L, es, ep, t, T, sub, mem, le, iff⟩ := j
  have li := (List.getElem?_eq_some_iff.mp hx).1
  have mx := List.mem_of_getElem? hx
  unfold setAdd
  refine wpAny_holding (wpAny_bind (knd.pyHash hu (a _ mx).2 ?_))
  refine MS.add (s := { z with toks := z.toks + knd.draws k }) Z T (a _ mx).2 hu (by omega) fun b h' L' es' ep' t' sb T' c1 c2 => q b h' _ sb ⟨fun p m => ⟨(a p m).1, Z.at_ (fun o e => ?_) (a p m).2⟩, L', es', ep', t', T', ?_⟩ (Nat.le_add_right _ _)
  · rw [sb.2 p.1 (Nat.ne_of_lt (a p m).1)]
    exact e
  · have tk : ((xs.take (i + 1)).map (·.2)) = (xs.take i).map (·.2) ++ [k] := by rw [take_at hx, List.map_append]; rfl
    rw [tk]
    by_cases m : k ∈ L.map (·.2)
    · obtain rfl := c1 m
      refine ⟨sub, fun y => ?_, by omega, ?_⟩
      · rw [mem, List.mem_append, List.mem_singleton]
        constructor
        · exact .inl
        · rintro (h | rfl)
          · exact h
          · exact (mem _).mp m
      · rw [nodup_snoc]
        constructor
        · intro e
          omega
        · rintro ⟨_, n⟩
          exact absurd ((mem _).mp m) n
    · have pm := c2 m
      have n1 := pm.length_eq
      rw [List.length_cons] at n1
      refine ⟨fun p h => ?_, fun y => ?_, by omega, ?_⟩
      · rcases List.mem_cons.mp (pm.mem_iff.mp h) with rfl | h
        · exact mx
        · exact sub p h
      · rw [(pm.map (·.2)).mem_iff, List.map_cons, List.mem_cons, mem, List.mem_append, List.mem_singleton]
        exact or_comm
      · rw [nodup_snoc, ← iff]
        constructor
        · intro e
          exact ⟨by omega, fun z => m ((mem _).mpr z)⟩
        · rintro ⟨e, _⟩
          omega
end
section
variable {P : Program} {w : World} {A : Around} {E : Value → Shared → Prop} {s : Shared}
theorem mix_item {ks : List Key} {vs : List Value} (h : ItemsAre (mixKind P w) ks vs) : ∀ v ∈ vs, (∃ i t, v = Value.int i t) ∨ ∃ x t, v = Value.str x t := by
  induction h with
  | nil => intro v m; cases m
  | cons h1 _ ih =>
    intro v m
    rcases List.mem_cons.mp m with rfl | m
    · rcases keyIs_shape h1 with ⟨i, t, _, e⟩ | ⟨x, t, _, e⟩
      · exact .inl ⟨i, t, e⟩
      · exact .inr ⟨x, t, e⟩
    · exact ih v m
theorem mix_setable : Setable (tupleKind (mixKind P w)) where
  at_ := fun k x => let ⟨o, vs, n, ho, r⟩ := x; ⟨o, vs, n, k o ho, r⟩
  seq := fun x => let ⟨o, vs, n, ho, _, hd, _⟩ := x; ⟨o, vs, n, ho, hd⟩
  cls := fun {A E s k b Q} hk q => by
    have hT := IsTupleKey.typeIs hk
    obtain ⟨o, items, n, ho, _, hd, hi⟩ := hk
    unfold ofAClassStatement
    refine wpAny_bind (wpAny_typeOf hT ?_)
    dsimp only
    have e : (("tuple" : String) == "tuple") = true := by decide
    simp only [e, if_true, Bool.not_true, Bool.false_eq_true, if_false]
    try refine wpAny_bind (wpAny_pure ?_)
    try simp only [Bool.not_true, Bool.false_eq_true, if_false]
    refine wpAny_bind (wpAny_seqItems ho hd ?_)
    dsimp only
    rw [← Array.forIn_toList]
    refine wpAny_bind (wpAny_forIn_list _ (fun vs r s' => r.1 = none ∧ s' = s ∧ ∀ v ∈ vs, (∃ i t, v = Value.int i t) ∨ ∃ x t, v = Value.str x t) _ (fun v vs r s' hr => ?_) (fun r s' hr => ?_) _ _ ⟨rfl, rfl, mix_item hi⟩)
    · obtain ⟨hn, rfl, all⟩ := hr
      have no : ofAClassStatement 7 v = pure false := by
        rcases all v List.mem_cons_self with ⟨i, t, rfl⟩ | ⟨x, t, rfl⟩ <;> rfl
      rw [no]
      refine wpAny_bind (wpAny_pure ?_)
      exact wp_if_neg (by decide) (wpAny_pure ⟨rfl, rfl, fun u m => all u (List.mem_cons_of_mem _ m)⟩)
    · obtain ⟨r1, r2⟩ := r
      obtain ⟨hn, rfl, _⟩ := hr
      simp only at hn
      subst hn
      exact wpAny_pure q
  val := fun {A E s k b Q} hk q => by
    have hT := IsTupleKey.typeIs hk
    obtain ⟨o, items, n, ho, _, hd, hi⟩ := hk
    unfold hashByValue
    refine wpAny_bind (wpAny_specialOf hT PySem.F.slot_tuple_hash.lookup ?_)
    show wpAny _ _ (seqItems? (.ref b) >>= _) _ _ s
    refine wpAny_bind (wpAny_seqItems ho hd ?_)
    refine wpAny_bind ?_
    show wpAny _ _ (forIn items _ _) _ _ s
    rw [← Array.forIn_toList]
    refine wpAny_forIn_list _ (fun vs r s' => s' = s ∧ ∀ v ∈ vs, (∃ i t, v = Value.int i t) ∨ ∃ x t, v = Value.str x t) _ (fun v vs r s' hr => ?_) (fun r s' hr => ?_) _ _ ⟨rfl, mix_item hi⟩
    · obtain ⟨rfl, all⟩ := hr
      rcases all v List.mem_cons_self with ⟨i, t, rfl⟩ | ⟨x, t, rfl⟩
      · rw [show hashByValue 7 (.int i t) = pure true from rfl]
        refine wpAny_bind (wpAny_pure ?_)
        exact wp_if_neg (by decide) (wpAny_pure ⟨rfl, fun u m => all u (List.mem_cons_of_mem _ m)⟩)
      · rw [show hashByValue 7 (.str x t) = pure false from rfl]
        refine wpAny_bind (wpAny_pure ?_)
        exact wp_if_pos (by decide) (wpAny_pure (wpAny_pure (q _)))
    · obtain ⟨r1, r2⟩ := r
      obtain ⟨rfl, _⟩ := hr
      cases r1 with
      | none => exact wpAny_pure (q _)
      | some b => exact wpAny_pure (q _)
end
end MS

/-! sorted(xs), xs a list of alike tuples of data; what is told of it -/
namespace L2
open PySem PySem.Spec PyProof.Rows
theorem each_in {X : Cx} {pins : List (Addr × Obj)} {σ : St} {H : Hp} {s : Shared} {β : Type} (enc : β → PyData) : ∀ {xs : List V} {us : List Value} {bs : List β}, Vals xs us → RddAll H xs (bs.map enc) → PySem.W.EachIs (fun v b => ∃ x, RelV x v ∧ Rdd H x (enc b)) us bs
  | [], _, [], r, _ => by
    cases r
    exact .nil
  | x :: xs, _, b :: bs, r, d => by
    cases r with
    | cons r1 r2 =>
      have d' : RddAll H (x :: xs) (enc b :: bs.map enc) := d
      cases d' with
      | cons d1 d2 => exact .cons ⟨x, r1, d1⟩ (each_in (X := X) (pins := pins) (σ := σ) (s := s) enc r2 d2)
  | [], _, b :: bs, _, d => by
    have d' : RddAll H [] (enc b :: bs.map enc) := d
    cases d'
  | x :: xs, _, [], _, d => by
    have d' : RddAll H (x :: xs) [] := d
    cases d'
theorem each_out {H : Hp} {β : Type} (enc : β → PyData) : ∀ {us : List Value} {bs : List β}, PySem.W.EachIs (fun v b => ∃ x, RelV x v ∧ Rdd H x (enc b)) us bs → ∃ ys, Vals ys us ∧ RddAll H ys (bs.map enc)
  | _, _, .nil => ⟨[], .nil, .nil⟩
  | _, _, .cons ⟨x, r, d⟩ t => by
    obtain ⟨ys, r2, d2⟩ := each_out enc t
    exact ⟨x :: ys, .cons r r2, .cons d d2⟩
theorem call_sortedE {X : Cx} {β : Type} (enc : β → PyData) (hal : ∀ b b', PySem.W.alike (enc b) (enc b') = true) (htup : ∀ b, ∃ x r, enc b = .tuple (x :: r)) (hd : ∀ b, (enc b).depth ≤ 8) (hu : X.A.units + 64 < cLine) :
    CallR X (.builtin "sorted") (fun vs H Q => ∃ (a : Addr) (xs : List V) (bs : List β), vs = [V.ref a] ∧ SqL X.K H a xs ∧ RddAll H xs (bs.map enc) ∧ ∀ ys p, RddAll H ys ((bs.mergeSort (PySem.W.dataLe false enc)).map enc) → H p = none → Q (.ref p) (upd H p (.lst ys))) := by
  intro pins s σ H vs us Q I r h
  obtain ⟨a, xs, bs, rfl, hs, rd, q⟩ := h
  obtain ⟨its, rv, hl, hz⟩ := I.list hs
  rw [Vals.ref1 r]
  have e := each_in (X := X) (pins := pins) (σ := σ) (s := s) enc rv rd
  refine PySem.W.sorted_data (enc := enc) (R := fun v b => ∃ x, RelV x v ∧ Rdd H x (enc b)) hl.isList e (e.mono fun v b ⟨x, r1, r2⟩ => ?_) (PySem.W.AllAlike.of hal) (PySem.W.Sortable.tuples htup) (by rw [← e.length, ← rv.length]; exact hz) (fun b _ => ?_) fun out ho eo => ?_
  · have := hd b
    omega
  · obtain ⟨ep, he'⟩ := PyProof.Rows.sortedAll_at s.heap its (List.toArray out)
    obtain ⟨ys, rv2, rd2⟩ := each_out enc eo
    have hlen : ys.length ≤ sizeLine := by
      rw [rv2.length, ho, ← e.length, ← rv.length]
      exact hz
    exact ⟨.ref _, upd H (s.heap.objs.size + 1) (.lst ys), I.laid (t' := s.toks) (fun _ _ => PyProof.Rows.sortedAll_old) (Nat.le_succ _) ⟨hlen, out, ep, rv2, he'⟩, rfl, q _ _ rd2 (I.hok.fresh (Nat.le_succ _))⟩
  · obtain ⟨as, z, _⟩ := r2.reads I.hok r1
    exact ⟨as, z⟩
/-- two arrangements of the same, sorted -/
theorem sort_perm {β : Type} (enc : β → PyData) (hi : ∀ b b', PySem.W.keyToks (enc b) = PySem.W.keyToks (enc b') → b = b') {bs cs : List β} (p : bs.Perm cs) : bs.mergeSort (PySem.W.dataLe false enc) = cs.mergeSort (PySem.W.dataLe false enc) := by
  have T : PySem.W.TotalLe (PySem.W.dataLe false enc) := PySem.W.sortLe_total (listOrd itemOrd) false fun b => PySem.W.keyToks (enc b)
  refine PySem.W.sort_unique T (PySem.W.sort_pairwise T bs) fun c => ?_
  rw [PySem.W.sort_stable T]
  have one : ∀ x, PySem.W.sameRank (PySem.W.dataLe false enc) c x = true → x = c := fun x h => by
    unfold PySem.W.sameRank PySem.W.dataLe PySem.W.sortLe at h
    simp only [cond_false, Bool.and_eq_true, Bool.not_eq_true'] at h
    exact hi _ _ ((listOrd itemOrd).total _ _ h.2 h.1).symm ▸ rfl
  have q := p.filter (PySem.W.sameRank (PySem.W.dataLe false enc) c)
  have e1 := List.eq_replicate_of_mem (l := bs.filter (PySem.W.sameRank (PySem.W.dataLe false enc) c)) fun b hb => one b (List.mem_filter.mp hb).2
  have e2 := List.eq_replicate_of_mem (l := cs.filter (PySem.W.sameRank (PySem.W.dataLe false enc) c)) fun b hb => one b (List.mem_filter.mp hb).2
  rw [e1, e2, q.length_eq]
end L2

/-! sorted(d), d a dict whose keys are tuples of whole numbers -/
namespace L2
open PySem PySem.Spec PyProof.Rows
theorem isKeys_perm_of {H : Hp} {kvs : List (List Key × V)} {bs : List Addr} (h : IsKeys H kvs bs) : ∀ b ∈ bs, ∃ k ∈ kvs.map (·.1), H b = some (.tup (k.map kV)) := by
  unfold IsKeys at h
  induction h with
  | nil => intro b m; cases m
  | cons h t ih =>
    intro b m
    rcases List.mem_cons.mp m with rfl | m
    · exact ⟨_, List.mem_cons_self, h⟩
    · obtain ⟨k, mk, e⟩ := ih b m
      exact ⟨k, List.mem_cons_of_mem _ mk, e⟩
section
variable {X : Cx}
theorem call_sortedDT {d : Nat} {B : Int} (hd0 : 1 ≤ d) (hc : X.calm = true) : CallR X (.builtin "sorted") (fun xs H Q => ∃ D kvs, xs = [V.ref D] ∧ Rd H D (.dT kvs) ∧ kvs.length < 64 ∧
    (∀ k ∈ kvs.map (·.1), ∃ ns : List Int, k.map kV = ns.map V.int ∧ ns.length = d ∧ TS.Bd B ns) ∧
    ∀ (p : Addr) (bs cs : List Addr), H p = none → IsKeys H kvs bs → cs.Perm bs → Q (.ref p) (upd H p (.lst (cs.map V.ref)))) := by
  intro pins s σ H xs us Q I r h
  obtain ⟨D, kvs, rfl, hd, h64, hks, q⟩ := h
  obtain ⟨u, rfl, rx⟩ := r.one
  cases rx
  obtain ⟨z, hs, ks, pr, o, es, ep, ho, hx, hdt, he, hn⟩ := (show ObjOk X.prog X.w H s.heap D (.dT kvs) from hd.ok I.hok)
  have l1 : es.size = ks.length := size_of_entries he
  have l2 : kvs.length = ks.length := Paired.length pr
  have ik := isKeys_of pr
  refine Calls.call_function_entry PyProof.Rows.kind_sorted PyProof.Rows.plain_sorted PyProof.Rows.entry_sorted (PyProof.Rows.args_sorted1 _) ?_
  unfold Builtin.«sorted»
  refine wpAny_bind (m := checkCount "sorted" 1 1 _) (wpAny_pure ?_)
  refine wpAny_bind (PySem.W.kdu_collect (A := X.A.in1) (kdl_raw hs hx hdt) (I.ok.hd hc) ho (by omega) fun h' tk acc kp it => ?_)
  have ea : acc.toList = ks.map fun x => Value.ref x.2.1 := by
    have hl : acc.toList.length = ks.length := by rw [Array.length_toList, it.1]; exact l1
    apply List.ext_getElem?
    intro j
    rw [List.getElem?_map]
    cases hj : acc.toList[j]? with
    | none =>
      have h1 := List.getElem?_eq_none_iff.mp hj
      rw [List.getElem?_eq_none (by omega)]
      all_goals rfl
    | some v =>
      obtain ⟨en, hen, hv⟩ := it.2 j v (by rw [← Array.getElem?_toList]; exact hj)
      have qe := entry_at he j
      rw [hen] at qe
      cases hb : ks[j]? with
      | none =>
        rw [hb] at qe
        exact nomatch (show some en = none from qe)
      | some b =>
        rw [hb] at qe
        have e2 : en = entryOfKey (tupleKind (mixKind X.prog X.w)) b := Option.some.inj qe
        rw [hv, e2]
        all_goals rfl
  have eb : acc.toList = (ks.map fun x => x.2.1).map Value.ref := by rw [ea, List.map_map]; all_goals rfl
  generalize hbs : (ks.map fun x => x.2.1) = bs at eb ik
  have lbs : bs.length = kvs.length := by rw [← hbs, List.length_map, l2]
  have I1 : Inv X pins σ H { s with heap := h', toks := tk } := I.kept kp
  rw [eb]
  have lv : (bs.map Value.ref).length < 64 := by rw [List.length_map, lbs]; exact h64
  refine wpAny_bind (wpAny_newList ?_ (by rw [sizeLine_eq]; omega))
  have hoL : (h'.push (seqObj "list" (bs.map Value.ref).toArray 0)).get? h'.objs.size = some (seqObj "list" (bs.map Value.ref).toArray 0) := Heap.get?_push_size _ rfl
  show wpAny _ _ _ _ _ { s with heap := h'.push (seqObj "list" (bs.map Value.ref).toArray 0), toks := tk }
  have tup : ∀ v ∈ bs.map Value.ref, ∃ ns, TS.TupInts h' v ns ∧ ns.length = d ∧ TS.Bd B ns := fun v hv => by
    obtain ⟨b, mb, rfl⟩ := List.mem_map.mp hv
    obtain ⟨k, mk, e⟩ := isKeys_perm_of ik b mb
    obtain ⟨ns, e1, e2, e3⟩ := hks k mk
    rw [e1] at e
    exact ⟨ns, tupI_raw I1 (SqT.of e), e2, e3⟩
  have keep : ∀ b o, h'.get? b = some o → o.cls = .type "tuple" → (h'.push (seqObj "list" (bs.map Value.ref).toArray 0)).get? b = some o := fun b o q _ => Heap.get?_push_of_some _ q
  have x : TS.TupsOk { s with heap := h', toks := tk }.heap d B (bs.map Value.ref) := tup
  refine wpAny_bind (wpAny_holding (wpAny_call_entry slot_list_sort ⟨_, hoL, rfl⟩ entry_list_sort
    (TS.sort_tups (s := { s with heap := h'.push (seqObj "list" (bs.map Value.ref).toArray 0), toks := tk }) (d := d) (B := B) hoL lv hd0 (x.keeps keep) (fun v => TS.code B (TS.intsOf h' v)) (fun v hv ns t => ?_) fun out a1 a2 => ⟨_, rfl, ?_⟩) (args_list_sort _)))
  · obtain ⟨ns0, t0, _⟩ := tup v hv
    have e : ns = ns0 := t.ints.symm.trans (t0.keeps keep).ints
    rw [e]
    show TS.code B (TS.intsOf h' v) = TS.code B ns0
    rw [t0.ints]
  · obtain ⟨ep', he'⟩ := PyProof.Rows.sortedHeap_at (vs := bs.map Value.ref) (out := out) hoL
    obtain ⟨cs, pc, ec⟩ : ∃ cs : List Addr, cs.Perm bs ∧ out.toList = cs.map Value.ref := by
      have inj : ∀ {us : List Value}, (∀ u ∈ us, u ∈ bs.map Value.ref) → ∃ cs : List Addr, us = cs.map Value.ref := by
        intro us
        induction us with
        | nil => intro _; exact ⟨[], rfl⟩
        | cons u us ih =>
          intro h
          obtain ⟨cs, rfl⟩ := ih fun y hy => h y (List.mem_cons_of_mem _ hy)
          obtain ⟨b, _, rfl⟩ := List.mem_map.mp (h u List.mem_cons_self)
          exact ⟨b :: cs, rfl⟩
      obtain ⟨cs, ec⟩ := inj fun u hu => a1.mem_iff.mp hu
      refine ⟨cs, ?_, ec⟩
      rw [ec] at a1
      have := a1.map fun v => match v with | Value.ref a => a | _ => 0
      rw [List.map_map, List.map_map] at this
      simpa [Function.comp_def] using this
    have hlen : (cs.map V.ref).length ≤ sizeLine := by
      rw [List.length_map, pc.length_eq, lbs]
      exact Nat.le_trans (Nat.le_of_lt h64) (by decide)
    refine wpAny_pure ⟨_, rfl, .ref h'.objs.size, upd H h'.objs.size (.lst (cs.map V.ref)), I1.laid (t' := tk) (fun b u e => ?_) (Nat.le_refl _)
      (show ObjOk X.prog X.w _ _ _ (.lst (cs.map V.ref)) from ⟨hlen, out.toList, ep', by rw [ec]; exact vals_refs _, by rw [Array.toArray_toList]; exact he'⟩), rfl, q _ bs cs (I1.hok.fresh (Nat.le_refl _)) ik pc⟩
    have hb : b < h'.objs.size := Heap.lt_size e
    rw [PyProof.Rows.sortedHeap_old (Nat.ne_of_lt hb) (by rw [size_push']; exact Nat.lt_succ_of_lt hb)]
    exact Heap.get?_push_of_some _ e
end
end L2

/-! len(set(xs)) of texts or of tuples of texts and numbers; d.setdefault and sorted(d) where keys are such tuples -/
namespace L2
open PySem PySem.Spec PyProof.Rows
section
variable {X : Cx}
def tLenSetX (K : PySem.W.Frag) (ta : TE) : TE := fun σ H Q => ta σ H fun x H1 =>
  (∃ (l : Addr) (xs : List Str), x = V.ref l ∧ (SqL K H1 l (xs.map V.str) ∨ SqT K H1 l (xs.map V.str)) ∧ xs.length < 1000 ∧ ∀ n : Nat, (n = xs.length ↔ xs.Nodup) → Q (.int n) H1) ∨
  ∃ (l : Addr) (xs : List (Addr × List Key)), x = V.ref l ∧ (SqL K H1 l (xs.map fun p => V.ref p.1) ∨ SqT K H1 l (xs.map fun p => V.ref p.1)) ∧ (∀ p ∈ xs, H1 p.1 = some (.tup (p.2.map kV))) ∧ xs.length < 64 ∧
    ∀ n : Nat, (n = xs.length ↔ (xs.map (·.2)).Nodup) → Q (.int n) H1
theorem refs_vals : ∀ {xs : List (Addr × List Key)} {us : List Value}, Vals (xs.map fun p => V.ref p.1) us → us = xs.map fun p => Value.ref p.1
  | [], _, .nil => rfl
  | p :: xs, _, .cons e r => by
    rw [refs_vals r, List.map_cons]
    exact congrArg (· :: _) e
theorem pe_lenSetX {a : Expr} {ta : TE} {p p2 q pos : Pos} (hu : X.A.units + 64 < cLine) (hc : X.calm = true) (hg : Gl X "len") (hm : X.mg "len" = none) (hg2 : Gl X "set") (hm2 : X.mg "set" = none) (ha : PE X a ta)
    (na : starEach [a] X.env = (false, eval a X.env) :: starEach [] X.env := by rfl) : PE X (.Call (.Name "len" p) [.Call (.Name "set" p2) [a] [] q] [] pos) (tLenSetX X.K ta) := by
  refine ⟨fun pins s σ H Q I h => Call_ (ld_blt I hg hm PySem.boot_len ?_)⟩
  refine PyProof.Rows.callWith_builtin1 (PyProof.Rows.args_cons (Call_ (ld_blt I hg2 hm2 (PyProof.Rows.boot_set) ?_)) rfl) rfl rfl
  refine PyProof.Rows.callWith_type1 (PyProof.Rows.args_cons (thn (ha.run pins s σ H _ I h) fun v s1 ⟨x, H1, I1, r1, q1⟩ => PyProof.Rows.args_nil ?_) na) na rfl
  have fin : ∀ {h' : Heap} {tk n m : Nat} {es : Array (Int × Value)} {ep : Nat} {t : SetTable} {o : Obj}, h'.get? s1.heap.objs.size = some o → o.ExactSet → o.data = .set es ep t → t.fits es.size = true → es.size = n → n ≤ 1000 → (∀ b o, s1.heap.get? b = some o → h'.get? b = some o) →
      Q (.int n) H1 → wpAny (model X.prog X.w) X.A (call (.builtin "len") [.ref s1.heap.objs.size]) (EP X pins σ Q) X.xe { s1 with heap := h', toks := tk } := by
    intro h' tk n m es ep t o ho hex hd hf hn hl old qq
    have I2 : Inv X pins σ H1 { s1 with heap := h', toks := tk } := I1.kept fun b o e => old b o e
    subst hn
    exact call_len_set ho hex hd hf (by omega) ⟨.int es.size, H1, I2.tok _, ⟨_, rfl⟩, qq⟩
  rcases q1 with ⟨l, xs, rfl, hs, few, q1⟩ | ⟨l, xs, rfl, hs, hk, few, q1⟩
  · cases r1
    have fin1 : ∀ {us : List Value} (h' : Heap) (tk : Nat), us.length = xs.length → MS.JS X.prog X.w s1.heap.objs.size xs us.toArray.size h' → (∀ b o, s1.heap.get? b = some o → h'.get? b = some o) →
        wpAny (model X.prog X.w) X.A (call (.builtin "len") [.ref s1.heap.objs.size]) (EP X pins σ Q) X.xe { s1 with heap := h', toks := tk } := by
      intro us h' tk lu j old
      obtain ⟨c, ⟨o, es, ep, t, ho, hex, hd, _, _, _, hf, hn⟩, le, iff⟩ := j
      rw [List.size_toArray, lu] at le iff
      rw [List.take_length] at iff
      exact fin (m := 0) ho hex hd hf hn (by omega) old (q1 _ iff)
    have ad : ∀ {us : List Value}, Vals (xs.map V.str) us → ∀ i v (B : Around) (z : Shared) (R : Bool → Shared → Prop) (F : Value → Shared → Prop), B.units ≤ X.A.units + 3 → i < us.toArray.size → us.toArray[i]? = some v → MS.JS X.prog X.w s1.heap.objs.size xs i z.heap →
        (∀ b h' tk, Heap.SameBut s1.heap.objs.size z.heap h' → MS.JS X.prog X.w s1.heap.objs.size xs (i + 1) h' → z.toks ≤ tk → R b { z with heap := h', toks := tk }) → wpAny (model X.prog X.w) B (setAdd s1.heap.objs.size v) R F z := by
      intro us r i v B z R F _ _ hv j k
      obtain ⟨x, t, hx, rfl⟩ := (strs_vals r).2 i v (by simpa using hv)
      exact MS.JS.add hx (by unfold scanBound; omega) j k
    rcases hs with hs | hs
    · obtain ⟨us, r, pl, _⟩ := I1.list hs
      exact MS.call_setL (I1.ok.hd hc) pl.isList (MS.JS X.prog X.w s1.heap.objs.size xs) (fun led h hS _ => MS.JS.new hS) (fun i h h' k j => j.mono fun o e => k _ o (Nat.le_refl _) e) (ad r) fun h' tk j old => PyProof.Rows.args_nil (fin1 h' tk (strs_vals r).1 j old)
    · obtain ⟨us, r, ⟨o, ho, hc2, n, hd⟩, _⟩ := I1.tuple hs
      exact MS.call_setT (I1.ok.hd hc) ⟨o, ho, hc2, n, hd⟩ (MS.JS X.prog X.w s1.heap.objs.size xs) (fun led h hS _ => MS.JS.new hS) (fun i h h' k j => j.mono fun o e => k _ o (Nat.le_refl _) e) (ad r) fun h' tk j old => PyProof.Rows.args_nil (fin1 h' tk (strs_vals r).1 j old)
  · cases r1
    have there : ∀ p ∈ xs, p.1 < s1.heap.objs.size ∧ (tupleKind (mixKind X.prog X.w)).is s1.heap p.2 p.1 := fun p m => by
      have z := key_of I1.hok (hk p m)
      obtain ⟨o, vs, n, ho, _⟩ := id z
      exact ⟨Heap.lt_size ho, z⟩
    have new : ∀ (led : Bool) (h : Heap), h.get? s1.heap.objs.size = some (MS.newSet led) → (∀ b o, s1.heap.get? b = some o → h.get? b = some o) → MS.JT (tupleKind (mixKind X.prog X.w)) s1.heap.objs.size xs 0 h :=
      fun led h hS k => MS.JT.new hS fun p m => ⟨(there p m).1, MS.mix_setable.at_ (fun o e => k _ o e) (there p m).2⟩
    have fin2 : ∀ {us : List Value} (h' : Heap) (tk : Nat), us.length = xs.length → MS.JT (tupleKind (mixKind X.prog X.w)) s1.heap.objs.size xs us.toArray.size h' → (∀ b o, s1.heap.get? b = some o → h'.get? b = some o) →
        wpAny (model X.prog X.w) X.A (call (.builtin "len") [.ref s1.heap.objs.size]) (EP X pins σ Q) X.xe { s1 with heap := h', toks := tk } := by
      intro us h' tk lu j old
      obtain ⟨_, L, es, ep, t, R, _, _, le, iff⟩ := j
      rw [List.size_toArray, lu] at le iff
      rw [List.take_length] at iff
      obtain ⟨o, ho, hex, hd⟩ := id R.obj
      exact fin (m := 0) ho hex hd R.fit R.size (by omega) old (q1 _ iff)
    have ad : ∀ {us : List Value}, us = (xs.map fun p => Value.ref p.1) → ∀ i v (B : Around) (z : Shared) (R : Bool → Shared → Prop) (F : Value → Shared → Prop), B.units ≤ X.A.units + 3 → i < us.toArray.size → us.toArray[i]? = some v →
        MS.JT (tupleKind (mixKind X.prog X.w)) s1.heap.objs.size xs i z.heap → (∀ b h' tk, Heap.SameBut s1.heap.objs.size z.heap h' → MS.JT (tupleKind (mixKind X.prog X.w)) s1.heap.objs.size xs (i + 1) h' → z.toks ≤ tk → R b { z with heap := h', toks := tk }) →
        wpAny (model X.prog X.w) B (setAdd s1.heap.objs.size v) R F z := by
      intro us r i v B z R F hb _ hv j k
      rw [List.getElem?_toArray, r, List.getElem?_map] at hv
      cases e : xs[i]? with
      | none =>
        rw [e] at hv
        cases hv
      | some p =>
        rw [e] at hv
        obtain rfl : Value.ref p.1 = v := Option.some.inj hv
        exact MS.JT.add MS.mix_setable e few (show B.units < cLine by omega) j k
    rcases hs with hs | hs
    · obtain ⟨us, r, pl, _⟩ := I1.list hs
      exact MS.call_setL (I1.ok.hd hc) pl.isList (MS.JT (tupleKind (mixKind X.prog X.w)) s1.heap.objs.size xs) new (fun i h h' k j => j.mono MS.mix_setable k) (ad (refs_vals r)) fun h' tk j old => PyProof.Rows.args_nil (fin2 h' tk (by rw [refs_vals r, List.length_map]) j old)
    · obtain ⟨us, r, ⟨o, ho, hc2, n, hd⟩, _⟩ := I1.tuple hs
      exact MS.call_setT (I1.ok.hd hc) ⟨o, ho, hc2, n, hd⟩ (MS.JT (tupleKind (mixKind X.prog X.w)) s1.heap.objs.size xs) new (fun i h h' k j => j.mono MS.mix_setable k) (ad (refs_vals r)) fun h' tk j old => PyProof.Rows.args_nil (fin2 h' tk (by rw [refs_vals r, List.length_map]) j old)
end
end L2
namespace MS
open PySem PySem.Spec PyProof.Rows L2
section
variable {P : Program} {w : World} {κ : Type} [DecidableEq κ] {knd : HeapKind P w κ}
/-- d.setdefault(k, v): what stands there, or v laid at the end -/
theorem meets_setd {d b : Addr} {k : κ} (v : Value) (hd : (d == sysModules) = false) :
    MeetsIn P w (Builtin.«dict.setdefault» ⟨[.ref d, .ref b, v], []⟩) (fun A R s => ∃ xs, knd.room A.in1 ∧ knd.is s.heap k b ∧ s.heap.DictOfH knd d xs ∧ xs.length < sizeLine ∧ (∀ p, atKey xs k = some p → ∀ tk, R (.ok (.ret p.2)) { s with toks := tk }) ∧
      (atKey xs k = none → ∀ h' tk, h'.DictOfH knd d (storedH xs k b v) → Heap.SameBut d s.heap h' → R (.ok (.ret v)) { s with heap := h', toks := tk })) :=
  .of_wp fun A R s ⟨xs, hu, hk, hm, hz, q1, q2⟩ => by
    obtain ⟨o, es, ep, ho, hc, hdat, he, his, hn⟩ := id hm
    unfold Builtin.«dict.setdefault»
    refine wpAny_bind ?_
    unfold Builtin.Dict.keyAndDefault
    refine wpAny_bind (wpAny_notOrdered_dict hm.typeIs ?_)
    show wpAny _ _ (pure (d, Value.ref b, some v)) _ _ s
    refine wpAny_pure ?_
    show wpAny _ _ (if (d == sysModules) = true then _ else (dictSetDefault d (.ref b) v >>= _)) _ _ s
    rw [if_neg (by rw [hd]; exact Bool.false_ne_true)]
    refine wpAny_bind ?_
    unfold dictSetDefault
    try with_reducible refine wpAny_holding ?_
    refine wpAny_bind (knd.pyHash hu hk (wpAny_bind (wpAny_dictFind_heap (s := { s with toks := s.toks + knd.draws k }) hu hk ho hdat he his hn (fun no => ?_) fun j p hj => ?_)))
    · have out : k ∉ xs.map (·.1) := not_mem_keys_of_get no
      have e0 := storedH_new (atKey_none_of_get no) b v
      refine wpAny_bind (wpAny_rule (wpAny_bind (wpAny_updateDictKeys (f := (·.push ⟨knd.hash k, .ref b, v⟩)) (hz := by have e := size_of_entries he; omega) (s := { s with toks := s.toks + knd.draws k }) ho hdat ?_)))
      refine wpAny_pure (wpAny_pure ⟨v, rfl, q2 (atKey_none_of_get no) _ _ ⟨_, _, ep + 1, Heap.get?_update_self _ ho (Obj.isFreed_of_dict (Obj.data_mapDictKeys hdat _)), hc.mapDictKeys _, Obj.data_mapDictKeys hdat _, ?_, ?_, ?_⟩ (Heap.SameBut.update ..)⟩)
      · rw [e0]
        simp [he, entryOfKey]
      · rw [e0]
        intro x m
        rcases List.mem_append.mp m with m | m
        · exact knd.keeps (his x m) ho hdat (Heap.SameBut.update ..)
        · rw [List.mem_singleton.mp m]
          exact knd.keeps hk ho hdat (Heap.SameBut.update ..)
      · rw [e0, List.map_append, List.nodup_append]
        refine ⟨hn, by simp, fun x mx y my e => out ?_⟩
        rw [show y = k by simpa using my] at e
        exact e ▸ mx
    · refine wpAny_bind (wpAny_dictEntries (s := { s with toks := s.toks + knd.draws k }) ho hdat ?_)
      have ej : es[j]? = some (entryOfKey knd (k, p)) := by rw [entry_at he j, hj]; rfl
      rw [ej]
      exact wpAny_bind (wpAny_rule (wpAny_pure (wpAny_pure ⟨p.2, rfl, q1 p (atKey_of_get hn hj) _⟩)))
end
end MS
namespace L2
open PySem PySem.Spec PyProof.Rows
/-- d.setdefault(y, z), d a dict whose keys are tuples -/
def tDSetT (td ty tx : TE) : TE := fun σ H Q => td σ H fun x H1 => ∃ a, x = .ref a ∧ IsD H1 a ∧ ty σ H1 fun y H2 => tx σ H2 fun z H3 => ∃ (kvs : List (List Key × V)) (k : List Key) (b : Addr), H3 a = some (.dT kvs) ∧ y = .ref b ∧ H3 b = some (.tup (k.map kV)) ∧ kvs.length < sizeLine ∧
  (∀ v, valV kvs k = some v → Q v H3) ∧ (valV kvs k = none → Q z (upd H3 a (.dT (putK kvs k z))))
section
variable {X : Cx} {o e f : Expr} {td ty tx : TE} {apos cpos : Pos}
theorem pe_setdT (hu : X.A.units + 1 < cLine) (ho : PE X o td) (he : PE X e ty) (hf : PE X f tx) (m : M2 X o "setdefault" apos e f cpos) : PE X (.Call (.Attribute o "setdefault" apos) [e, f] [] cpos) (tDSetT td ty tx) := by
  refine ⟨fun pins s σ H Q I h => ?_⟩
  refine wpAny_Call_method m.base m.few m.line PySem.F.plainAttrs_dict PySem.F.slot_dict_setdefault PySem.F.type_dict_setdefault (thn (ho.run pins s σ H _ I h) fun u s1 ⟨x, H1, I1, rx, a, ex, d, q1⟩ => ?_)
  subst ex
  cases rx
  obtain ⟨t1, t2, _⟩ := isD_at I1 d
  refine ⟨t1, t2, ?_⟩
  rw [m.trees]
  refine Calls.callWith_builtin rfl (Calls.evalArgs_plain (Calls.spliced_cons (thn (he.run pins s1 σ H1 _ I1 q1) fun iv s2 ⟨y, H2, I2, ry, q2⟩ =>
    Calls.spliced_cons (thn (hf.run pins s2 σ H2 _ I2 q2) fun fv s3 ⟨z, H3, I3, rz, kvs, k, b, ea, ey, eb, hl, q3, q4⟩ => Calls.spliced_nil ?_))))
  subst ey
  cases ry
  obtain ⟨zl, hs, xs, rel, dd⟩ := dt_of I3.hok ea
  have lz : xs.length < sizeLine := by rw [← Paired.length rel]; exact hl
  refine call_meetsIn PySem.F.slot_dict_setdefault dd.typeIs PySem.F.entry_dict_setdefault (PySem.F.args_dict_setdefault_3 _ _ _) (MS.meets_setd (knd := tupleKind (mixKind X.prog X.w)) (k := k) fv hs)
    ⟨xs, tupleKind_room_in1 hu, key_of I3.hok eb, dd, lz, fun p hp tk => ?_, fun hn h' tk dd' sb => ?_⟩
  · have r := rel.val k
    rw [hp] at r
    cases ev : valV kvs k with
    | none =>
      rw [ev] at r
      exact (show False from r).elim
    | some v0 =>
      rw [ev] at r
      exact (⟨v0, H3, I3.tok tk, r, q3 v0 ev⟩ : EP X pins σ Q p.2 _)
  · have r := rel.val k
    rw [hn] at r
    cases ev : valV kvs k with
    | some v0 =>
      rw [ev] at r
      exact (show False from r).elim
    | none =>
      have len2 : (putK kvs k z).length ≤ sizeLine := by have := length_putK kvs k z; omega
      obtain ⟨o2, es, ep, h1, h2, h3, h4, _, h5⟩ := dd'
      have I4 : Inv X pins σ (upd H3 a (.dT (putK kvs k z))) { s3 with heap := h', toks := tk } :=
        d_write I3 (by rw [ea]; exact True.intro) sb ⟨o2, h1⟩ ⟨len2, hs, _, (rel.put k eb rz).keeps fun c ys ec => (by rw [upd_ne (ne_of ec ea (fun z => nomatch z))]; exact ec), o2, es, ep, h1, h2, h3, h4, h5⟩
      exact (⟨z, _, I4, rz, q4 ev⟩ : EP X pins σ Q fv _)
end
end L2
namespace L2
open PySem PySem.Spec PyProof.Rows
/-- a key as data -/
def kD : Key → PyData
  | .inl i => .int i
  | .inr x => .str x
theorem kD_rdd {H : Hp} : ∀ ks : List Key, RddAll H (ks.map kV) (ks.map kD)
  | [] => .nil
  | .inl i :: ks => .cons (.int i) (kD_rdd ks)
  | .inr x :: ks => .cons (.str x) (kD_rdd ks)
theorem keys_rdd {H : Hp} {β : Type} {enc : β → PyData} {ky : β → List Key} (he : ∀ b, enc b = .tuple ((ky b).map kD)) : ∀ {kvs : List (List Key × V)} {bs : List Addr} {cs : List β}, IsKeys H kvs bs → kvs.map (·.1) = cs.map ky → RddAll H (bs.map V.ref) (cs.map enc)
  | [], _, [], .nil, _ => .nil
  | [], _, _ :: _, _, h => by simp at h
  | _ :: _, _, [], _, h => by simp at h
  | kv :: kvs, _, c :: cs, .cons hb t, h => by
    rw [List.map_cons, List.map_cons] at h
    injection h with h1 h2
    refine .cons ?_ (keys_rdd he t h2)
    rw [he, ← h1]
    exact .tup hb (kD_rdd _)
section
variable {X : Cx}
theorem call_sortedDE {β : Type} (enc : β → PyData) (ky : β → List Key) (he : ∀ b, enc b = .tuple ((ky b).map kD)) (hal : ∀ b b', PySem.W.alike (enc b) (enc b') = true) (htup : ∀ b, ∃ x r, enc b = .tuple (x :: r)) (hd8 : ∀ b, (enc b).depth ≤ 8) (hu : X.A.units + 64 < cLine) (hc : X.calm = true) :
    CallR X (.builtin "sorted") (fun xs H Q => ∃ D kvs, ∃ cs : List β, xs = [V.ref D] ∧ Rd H D (.dT kvs) ∧ kvs.length < 5000 ∧ kvs.map (·.1) = cs.map ky ∧
      ∀ p ys, RddAll H ys ((cs.mergeSort (PySem.W.dataLe false enc)).map enc) → H p = none → Q (.ref p) (upd H p (.lst ys))) := by
  intro pins s σ H xs us Q I r h
  obtain ⟨D, kvs, cs, rfl, hd, h64, hks, q⟩ := h
  obtain ⟨u, rfl, rx⟩ := r.one
  cases rx
  obtain ⟨z, hs, ks, pr, o, es, ep, ho, hx, hdt, hes, hn⟩ := (show ObjOk X.prog X.w H s.heap D (.dT kvs) from hd.ok I.hok)
  have l1 : es.size = ks.length := size_of_entries hes
  have l2 : kvs.length = ks.length := Paired.length pr
  have ik := isKeys_of pr
  refine Calls.call_function_entry PyProof.Rows.kind_sorted PyProof.Rows.plain_sorted PyProof.Rows.entry_sorted (PyProof.Rows.args_sorted1 _) ?_
  unfold Builtin.«sorted»
  refine wpAny_bind (m := checkCount "sorted" 1 1 _) (wpAny_pure ?_)
  refine wpAny_bind (PySem.W.kdu_collect (A := X.A.in1) (kdl_raw hs hx hdt) (I.ok.hd hc) ho (by rw [l1, ← l2, sizeLine_eq]; omega) fun h' tk acc kp it => ?_)
  have ea : acc.toList = ks.map fun x => Value.ref x.2.1 := by
    have hl : acc.toList.length = ks.length := by rw [Array.length_toList, it.1]; exact l1
    apply List.ext_getElem?
    intro j
    rw [List.getElem?_map]
    cases hj : acc.toList[j]? with
    | none =>
      have h1 := List.getElem?_eq_none_iff.mp hj
      rw [List.getElem?_eq_none (by omega)]
      all_goals rfl
    | some v =>
      obtain ⟨en, hen, hv⟩ := it.2 j v (by rw [← Array.getElem?_toList]; exact hj)
      have qe := entry_at hes j
      rw [hen] at qe
      cases hb : ks[j]? with
      | none =>
        rw [hb] at qe
        exact nomatch (show some en = none from qe)
      | some b =>
        rw [hb] at qe
        have e2 : en = entryOfKey (tupleKind (mixKind X.prog X.w)) b := Option.some.inj qe
        rw [hv, e2]
        all_goals rfl
  have eb : acc.toList = (ks.map fun x => x.2.1).map Value.ref := by rw [ea, List.map_map]; all_goals rfl
  generalize hbs : (ks.map fun x => x.2.1) = bs at eb ik
  have lbs : bs.length = kvs.length := by rw [← hbs, List.length_map, l2]
  have I1 : Inv X pins σ H { s with heap := h', toks := tk } := I.kept kp
  rw [eb]
  have lv : (bs.map Value.ref).length ≤ sizeLine := by rw [List.length_map, lbs, sizeLine_eq]; omega
  refine wpAny_bind (wpAny_newList ?_ (by first | exact lv | (rw [List.size_toArray]; exact lv)))
  have hoL : (h'.push (seqObj "list" (bs.map Value.ref).toArray 0)).get? h'.objs.size = some (seqObj "list" (bs.map Value.ref).toArray 0) := Heap.get?_push_size _ rfl
  have fresh : H h'.objs.size = none := I1.hok.fresh (Nat.le_refl _)
  have I2 : Inv X pins σ H { s with heap := h'.push (seqObj "list" (bs.map Value.ref).toArray 0), toks := tk } := I1.kept fun b u e => Heap.get?_push_of_some _ e
  have rd := keys_rdd he ik hks
  have e := each_in (X := X) (pins := pins) (σ := σ) (s := s) enc (vals_refs bs) rd
  have lcs : cs.length = kvs.length := by
    have := congrArg List.length hks
    rw [List.length_map, List.length_map] at this
    exact this.symm
  have er : PySem.W.EachIs (fun v b => ∃ as, Reads (h'.push (seqObj "list" (bs.map Value.ref).toArray 0)) v (enc b) as ∧ h'.objs.size ∉ as) (bs.map Value.ref) cs := e.mono fun v b ⟨x, r1, r2⟩ => by
    obtain ⟨as, rr, k⟩ := r2.reads I2.hok r1
    refine ⟨as, rr, fun m => ?_⟩
    obtain ⟨o2, e2⟩ := k _ m
    rw [fresh] at e2
    cases e2
  have ub : ∀ b, b ∈ cs → X.A.in1.units + 1 + (enc b).depth < cLine := fun b _ => by
    have := hd8 b
    show X.A.units + 1 + 1 + _ < _
    omega
  show wpAny _ _ _ _ _ { s with heap := h'.push (seqObj "list" (bs.map Value.ref).toArray 0), toks := tk }
  refine wpAny_bind (wpAny_holding (PySem.W.list_sort_data (s := { s with heap := h'.push (seqObj "list" (bs.map Value.ref).toArray 0), toks := tk }) (enc := enc) (R := fun v b => ∃ x, RelV x v ∧ Rdd H x (enc b)) hoL e er (PySem.W.AllAlike.of hal) (PySem.W.Sortable.tuples htup)
    (by rw [lcs, sizeLine_eq]; omega) ub fun out lo eo => ?_))
  · obtain ⟨ep', he'⟩ := PyProof.Rows.sortedHeap_at (vs := bs.map Value.ref) (out := out.toArray) hoL
    obtain ⟨ys, rv2, rd2⟩ := each_out enc eo
    have hlen : ys.length ≤ sizeLine := by
      rw [rv2.length, lo, lcs, sizeLine_eq]
      omega
    refine wpAny_pure ⟨_, rfl, .ref h'.objs.size, upd H h'.objs.size (.lst ys), I1.laid (t' := tk) (fun b u e => ?_) (Nat.le_refl _) ⟨hlen, out, ep', rv2, he'⟩, rfl, q _ _ rd2 fresh⟩
    have hb : b < h'.objs.size := Heap.lt_size e
    rw [PyProof.Rows.sortedHeap_old (Nat.ne_of_lt hb) (by rw [size_push']; exact Nat.lt_succ_of_lt hb)]
    exact Heap.get?_push_of_some _ e
end
end L2

/-! a >= b of tuples of whole numbers -/
namespace L2
open PySem PySem.Spec PyProof.Rows
theorem rcGe_int (A : Around) (s : Shared) (a : Int) (t : Tok) (c : Int) (u : Tok) (prog : Program) (w : World) (E Q : Value → Shared → Prop) (q : Q (.bool (decide (c ≤ a))) s) : wpAny (model prog w) A (richCompare .GtE (.int a t) (.int c u)) Q E s := PyProof.Rows.ge_int (E := E) q
theorem tuple_ge_ints (l b : Addr) (items items2 : Array Value) (n n2 : Nat) (dd dd2 : Option Addr) (sl sl2 : Array (Option Value)) (ns ms : List Int) (h1 : IntsAre items.toList ns) (h2 : IntsAre items2.toList ms) :
    Meets (Builtin.«tuple.__ge__» { pos := [.ref l, .ref b] }) fun _ R s => s.heap.get? l = some { cls := .type "tuple", dict := dd, data := .seq items n, slots := sl } ∧ s.heap.get? b = some { cls := .type "tuple", dict := dd2, data := .seq items2 n2, slots := sl2 } ∧
      R (.ok (.ret (.bool (!HT.lexLt ns ms)))) s := by
  refine Meets.of_wp fun prog w A R s ⟨g1, g2, q⟩ => ?_
  refine wpAny_bind (wpAny_pure ?_)
  refine wpAny_bind ?_
  refine wpAny_bind (wpAny_typeOf_ref g2 ?_)
  refine wpAny_of_eq AutoSeq1.sub_tuple_tuple ?_
  refine wpAny_ite_false rfl ?_
  refine wpAny_bind (wpAny_tupleItemsOf g1 rfl ?_)
  refine wpAny_bind (wpAny_tupleItemsOf g2 rfl ?_)
  have len : ∀ {vs : List Value} {ns : List Int}, IntsAre vs ns → vs.length = ns.length := fun h => by
    induction h with
    | nil => rfl
    | cons n t _ ih => rw [List.length_cons, List.length_cons, ih]
  have l1 := len h1
  have l2 := len h2
  rw [Array.length_toList] at l1 l2
  refine wpAny_bind (wpAny_forIn_list _ (fun rest b' s' => ∃ (xs ys : List Value) (ns' ms' : List Int), rest = xs.zip ys ∧ IntsAre xs ns' ∧ IntsAre ys ms' ∧ b' = (none, ()) ∧ s' = s ∧ HT.lexLt ns' ms' = HT.lexLt ns ms ∧ ns.length + ms'.length = ms.length + ns'.length) _ ?_ ?_ _ _ ⟨items.toList, items2.toList, ns, ms, rfl, h1, h2, rfl, rfl, rfl, by omega⟩)
  · rintro x rest b' s' ⟨xs, ys, ns', ms', e, i1, i2, rfl, rfl, lx, ln⟩
    cases i1 with
    | nil => cases e
    | cons a t i1 =>
      cases i2 with
      | nil => cases e
      | cons c u i2 =>
        cases e
        obtain ⟨q0, hq, hqe⟩ := HT.eqAt_int A.in1 s' a t c u
        refine wpAny_bind (hq prog w _ _ ?_)
        rw [HT.lexLt_cons] at lx
        cases q0 with
        | true =>
          have e := hqe.mp rfl
          rw [if_pos e] at lx
          exact wpAny_ite_false rfl (wpAny_pure ⟨_, _, _, _, rfl, i1, i2, rfl, rfl, lx, by simp only [List.length_cons] at ln; omega⟩)
        | false =>
          have ne : ¬ a = c := fun z => by have := hqe.mpr z; cases this
          rw [if_neg ne] at lx
          refine wpAny_ite_true rfl (wpAny_bind (wpAny_rule (wpAny_bind (rcGe_int _ _ _ _ _ _ _ _ _ _ (wpAny_bind (wpAny_pure ?_))))))
          refine wpAny_pure ?_
          refine wpAny_pure ⟨_, rfl, ?_⟩
          have e : decide (c ≤ a) = !HT.lexLt ns ms := by
            rw [← lx]
            by_cases z : a < c
            · rw [decide_eq_true z, decide_eq_false (by omega)]; rfl
            · rw [decide_eq_false z, decide_eq_true (by omega)]; rfl
          rw [e]
          exact q
  · rintro b' s' ⟨xs, ys, ns', ms', e, i1, i2, rfl, rfl, lx, ln⟩
    refine wpAny_pure ⟨_, rfl, ?_⟩
    show R (.ok (.ret (.bool (decide (items.size ≥ items2.size))))) s'
    have e2 : decide (items.size ≥ items2.size) = !HT.lexLt ns ms := by
      rw [← lx, l1, l2]
      cases i1 with
      | nil =>
        cases i2 with
        | nil =>
          simp only [List.length_nil] at ln
          rw [decide_eq_true (by omega)]
          rfl
        | cons c u i2 =>
          simp only [List.length_nil, List.length_cons] at ln
          rw [decide_eq_false (by omega)]
          rfl
      | cons a t i1 =>
        cases i2 with
        | nil =>
          simp only [List.length_nil, List.length_cons] at ln
          rw [decide_eq_true (by omega)]
          rfl
        | cons c u i2 => cases e
    rw [e2]
    exact q
def rGeT (K : PySem.W.Frag) : R2 := fun x y H Q => ∃ (a b : Addr) (ns ms : List Int), x = .ref a ∧ y = .ref b ∧ SqT K H a (ns.map V.int) ∧ SqT K H b (ms.map V.int) ∧ Q (.bl (!HT.lexLt ns ms)) H
theorem ints_are : ∀ {ns : List Int} {its : List Value}, Vals (ns.map V.int) its → IntsAre its ns
  | [], _, .nil => .nil
  | n :: ns, _, .cons r t => by
    obtain ⟨t', rfl⟩ : ∃ t, _ = Value.int n t := r
    exact .cons n t' (ints_are t)
theorem op_geT {X : Cx} (hu : X.A.units < cLine) : OpR X (compareOp .GtE) (rGeT X.K) := by
  intro pins s σ H x y v u Q I rx ry h
  obtain ⟨a, b, ns, ms, rfl, rfl, ha, hb, q⟩ := h
  obtain rfl : v = Value.ref a := rx
  obtain rfl : u = Value.ref b := ry
  obtain ⟨i1, r1, p1, _⟩ := I.tuple ha
  obtain ⟨i2, r2, p2, _⟩ := I.tuple hb
  have t1 : s.heap.IsTuple a i1.toArray := p1
  have t2 : s.heap.IsTuple b i2.toArray := p2
  obtain ⟨⟨c1, dd, dt1, sl⟩, g1, e1, n, e2⟩ := id t1
  obtain ⟨⟨c2, dd2, dt2, sl2⟩, g2, e3, n2, e4⟩ := id t2
  simp only at e1 e2 e3 e4
  subst e1 e2 e3 e4
  show wpAny _ _ (richCompare .GtE _ _) _ _ _
  exact richCompare_meets_room t1.typeIs t2.typeIs F.slot_tuple_ge F.entry_tuple_ge (F.args_tuple_ge_2 _ _) (tuple_ge_ints a b i1.toArray i2.toArray n n2 dd dd2 sl sl2 ns ms (by simpa using ints_are r1) (by simpa using ints_are r2))
    ⟨g1, g2, by show Value.bool _ ≠ Value.notImplemented ∧ _; exact ⟨(fun z => by cases z), .bl _, H, I, rfl, q⟩⟩ hu
end L2

namespace K10
open PySem PySem.Spec PyProof.Rows L2
abbrev sIsName : Stmt := top 12
theorem scIsName : FnScope ["value", "sign"] ["value"] (defScope sIsName) := ⟨rfl, rfl, rfl, by decide +kernel, rfl, by decide +kernel, by decide +kernel⟩
abbrev sIsText : Stmt := top 13
theorem scIsText : FnScope ["value", "sign"] ["value"] (defScope sIsText) := ⟨rfl, rfl, rfl, by decide +kernel, rfl, by decide +kernel, by decide +kernel⟩
/-- all signs are from lo to hi -/
def signs (lo hi : Nat) (z : Str) : Bool := z.cps.toList.all fun c => decide (lo ≤ c) && decide (c ≤ hi)
def nameS (z : Str) : Bool := decide (1 ≤ z.length) && (decide (z.length ≤ 8) && signs 97 122 z)
def textS (z : Str) : Bool := decide (z.length ≤ 40) && signs 32 126 z
def strD (f : Str → Bool) : PyData → Bool
  | .str z => f z
  | _ => false
theorem strD_no {f : Str → Bool} {d : PyData} (h : tyd d ≠ "str") : strD f d = false := by
  cases d with
  | str z => exact absurd rfl h
  | _ => rfl
theorem lt1 {a b : Nat} : decide ([a] < [b]) = decide (a < b) := by
  apply decide_eq_decide.mpr
  constructor
  · intro h
    rcases List.cons_lt_cons_iff.mp h with h | ⟨_, h⟩
    · exact h
    · exact absurd h (List.not_lt_nil _)
  · intro h
    exact List.cons_lt_cons_iff.mpr (.inl h)
theorem le_lt1 {a b c : Nat} (f : Nat → Bool) (h : f c = (decide (a ≤ c) && decide (c ≤ b))) {P1 : V → Prop} {P2 : Prop} (go : P1 (.bl (!decide ([b] < [c]))) → P2) (q : P1 (.bl (f c))) :
    ∃ k, V.bl (!decide ([c] < [a])) = V.bl k ∧ if k = true then P2 else P1 (.bl false) := by
  refine ⟨_, rfl, iteB (fun e => go ?_) fun e => ?_⟩
  · rw [lt1] at e ⊢
    have e1 : ¬ c < a := of_decide_eq_false (by simpa using e)
    have e2 : (!decide (b < c)) = f c := by
      rw [h, decide_eq_true (by omega : a ≤ c), Bool.true_and]
      by_cases z : c ≤ b
      · rw [decide_eq_true z, decide_eq_false (by omega : ¬ b < c)] <;> rfl
      · rw [decide_eq_false z, decide_eq_true (by omega : b < c)] <;> rfl
    rw [e2]
    exact q
  · rw [lt1] at e
    have e1 : c < a := of_decide_eq_true (by simpa using e)
    have e2 : f c = false := by
      rw [h, decide_eq_false (by omega : ¬ a ≤ c), Bool.false_and]
    rw [e2] at q
    exact q
theorem lc_signs {z : Str} {σ : L2.St} {H : Hp} {i : Nat} {te : TE} {f : Nat → Bool} {D : Addr} {Qd : Hp → Prop} (hD : H D = none) (hz : z.length ≤ 100000)
    (he : ∀ (c : Nat) H' (Q' : VK), c ∈ z.cps.toList → Q' (.bl (f c)) H' → te ((wipe σ [i]).set i (some (.str ⟨#[c]⟩))) H' Q') (hs : ∀ u, wipe ((wipe σ [i]).set i u) [i] = wipe σ [i])
    (q : ∀ H', Same H H' → H' D = some (.lst (z.cps.toList.map fun c => V.bl (f c))) → Qd H') :
    ∃ W : Nat → Nat → Hp → Prop, (∃ m, W 0 m (upd H D (.lst []))) ∧ ∀ j m H, W j m H →
      ((Its z).stop j H ∧ Qd H) ∨ ((Its z).go j H ∧ ∃ Nx : Hp → Prop, (∀ H', Nx H' → ∃ m', m' < m ∧ W (j + 1) m' H') ∧ ∀ x H', (Its z).yld j H x H' → gName i x (wipe σ [i]) H' fun σ2 H2 => wipe σ2 [i] = wipe σ [i] ∧ tYes σ2 H2 fun b H3 =>
        if b = true then te σ2 H3 fun y H4 => ∃ acc, H4 D = some (.lst acc) ∧ acc.length < sizeLine ∧ Nx (upd H4 D (.lst (acc ++ [y]))) else Nx H3) := by
  refine lc_it walk_str (fun j H' => Same H H' ∧ H' D = some (.lst ((z.cps.toList.take j).map fun c => V.bl (f c)))) ⟨upd_grow hD, upd_same⟩ (fun _ _ _ _ => True.intro) ?_ ?_
  · rintro j x H1 H2 hj ⟨k1, h1⟩ ⟨rfl, c, hc, rfl⟩
    have hj2 : j < z.cps.toList.length := by simpa using hj
    have hm : z.cps.toList[j] = c := by
      have e := Array.getElem?_eq_some_iff.mp hc
      obtain ⟨_, e⟩ := e
      simpa using e
    have mem : c ∈ z.cps.toList := by
      rw [← hm]
      exact List.getElem_mem hj2
    refine ⟨hs _, he c H2 _ mem ⟨_, h1, ?_, ?_, ?_⟩⟩
    · rw [sizeLine_eq, List.length_map, List.length_take]
      have l : z.cps.toList.length = z.length := by simp [Str.length]
      omega
    · intro b o e
      rw [upd_ne (ne_of_none e hD)]
      exact k1 b o e
    · rw [upd_same, List.take_succ_eq_append_getElem hj2, List.map_append, hm]
      rfl
  · rintro H1 ⟨k1, h1⟩
    refine q H1 k1 ?_
    rw [h1]
    have l : z.cps.toList.length = z.cps.size := by simp
    rw [← l, List.take_length]
def spName (f : Str → Bool) : Sp := fun vs H Q _ => ∃ v d, vs = [v] ∧ Rdd H v d ∧ (∀ z, d = .str z → z.length ≤ 100000) ∧ ∀ H', Same H H' → Q (.bl (strD f d)) H'
theorem str_of {H : Hp} {v : V} {d : PyData} (r : Rdd H v d) (h : tyd d = "str") : ∃ z, v = .str z ∧ d = .str z := by
  cases r with
  | str x => exact ⟨x, rfl, rfl⟩
  | _ => exact absurd h (by simp [tyd])
section
variable {P : Program} {w : World} {K : PySem.W.Frag} {mg : Str → Option Value} {base : Heap} {f : Addr} {fd : FuncData}
theorem ok_is_name (F : Fd K "is_name" sIsName f fd) (g : mg "is_name" = some (.ref f)) (B : Bl mg) (h_N : ∃ t, mg "NAME_LENGTH" = some (.int 8 t)) : Ok P w K mg base CX0 1 "is_name" sIsName ["value"] (spName nameS) := by
  obtain ⟨t8, h_NAME_LENGTH⟩ := h_N
  refine ⟨f, fd, g, F, F.bindsN fun _ _ _ _ _ _ us hl => match us, hl with | [_], _ => rfl, F.ok scIsName (fun vs H Q E h => ?_) (fun cdv A outer s H vs Q E hr h => ?_)⟩
  · obtain ⟨v, d, rfl, _⟩ := h
    rfl
  · refine ⟨_, (pss_cons (ps_if (pw_or (pt_cmpR op_notTyB (pe_callTy call_type1 (by rfl) (B.u "type" (by decide +kernel)) (by decide +kernel) (pa_cons (pv 0) pa_nil)) (pe_bltn (by rfl) (B.u "str" (by decide +kernel)) (by decide +kernel) (v := .ty "str") rfl) (nomark _)) (pw_or1 (pt_not (pt_chain op_le op_le pe_int (pe_callB call_len (by rfl) (B.u "len" (by decide +kernel)) boot_len (pa_cons (pv 0) pa_nil)) (pe_glob (by rfl) h_NAME_LENGTH (v := .int 8) ⟨_, rfl⟩))))).pt
        (pss_one (ps_ret pe_bl))
        pss_nil)
      (pss_one (ps_ret (pe_callB (cr_all rfl) (by rfl) (B.u "all" (by decide +kernel)) (by decide +kernel) (pa_cons (pe_lc (own := [("sign", 1)]) (g := gName 1) rfl scIsName.nd (pi_str (pv 0)) (blkOk_by (N := ["value", "sign"]) (sc := defScope sIsName) (by decide +kernel)) (fun _ _ _ _ _ => (pg_name (i := 1) scIsName.nd rfl (Or.inl rfl))) (fun _ _ _ _ _ => pts_nil) (fun _ _ _ _ _ => (pe_chain op_le_str op_le_str pe_str (pv 1) pe_str))) pa_nil))))), ?_⟩
    obtain ⟨v, d, rfl, r, hz, q⟩ := h
    by_cases e : tyd d = "str"
    · obtain ⟨z, rfl, rfl⟩ := str_of r e
      have hz := hz z rfl
      refine ⟨_, rfl, _, _, rfl, .str z, _, _, rfl, rfl, _, rfl, iteB (fun e => by simp at e) fun _ => ?_⟩
      have fin : ∀ b, b = nameS z → Q (.bl b) H := fun b e => by
        rw [e]
        exact q H (Same.refl H)
      refine ⟨_, rfl, _, _, rfl, ⟨two_ln (by omega), rfl⟩, _, _, rfl, rfl, _, rfl, iteB (fun e1 => ?_) fun e1 => ?_⟩
      · have l1 : 1 ≤ z.length := by
          have := of_decide_eq_true e1
          omega
        refine ⟨_, _, rfl, rfl, _, rfl, iteB (fun e2 => ?_) fun e2 => ?_⟩
        · have l2 : ¬ z.length ≤ 8 := fun y => by
            have e3 : decide ((z.length : Int) ≤ 8) = true := decide_eq_true (by omega)
            rw [e3] at e2
            cases e2
          exact fin _ (by unfold nameS; rw [decide_eq_false l2] <;> simp)
        · have l2 : z.length ≤ 8 := by
            have e3 : decide ((z.length : Int) ≤ 8) = true := by
              cases h : decide ((z.length : Int) ≤ 8) with
              | true => rfl
              | false =>
                rw [h] at e2
                cases e2
            have := of_decide_eq_true e3
            omega
          refine ⟨_, rfl, _, rfl, fun D hD => lc_signs (i := 1) (σ := [some (.str z), none]) (f := fun c => decide (97 ≤ c) && decide (c ≤ 122)) hD hz ?_ ?_ ?_⟩
          · exact fun c H1 Q1 _ q1 => ⟨_, rfl, _, _, rfl, rfl, le_lt1 (a := 97) (b := 122) (P1 := fun v => Q1 v H1) (fun c => decide (97 ≤ c) && decide (c ≤ 122)) rfl (fun z => ⟨_, _, rfl, rfl, z⟩) q1⟩
          · exact fun u => rfl
          · intro H1 k1 h1
            refine ⟨D, z.cps.toList.map fun c => decide (97 ≤ c) && decide (c ≤ 122), rfl, ?_, ?_⟩
            · rw [List.map_map]
              exact SqL.of h1
            · have e : (List.map (fun c => decide (97 ≤ c) && decide (c ≤ 122)) z.cps.toList).all id = nameS z := by
                unfold nameS signs
                rw [decide_eq_true l1, decide_eq_true l2, List.all_map] <;> rfl
              rw [e]
              exact q H1 k1
      · have l1 : ¬ 1 ≤ z.length := fun y => by
          have e3 : decide ((1 : Int) ≤ (z.length : Int)) = true := decide_eq_true (by omega)
          rw [e3] at e1
          cases e1
        exact ⟨false, rfl, iteT (fin _ (by unfold nameS; rw [decide_eq_false l1] <;> simp))⟩
    · refine ⟨_, rfl, _, _, rfl, r.tb, _, _, rfl, rfl, _, rfl, iteB (fun _ => ?_) fun e2 => ?_⟩
      · exact (strD_no (f := nameS) e) ▸ q H (Same.refl H)
      · simp [e] at e2
theorem ok_is_text (F : Fd K "is_text" sIsText f fd) (g : mg "is_text" = some (.ref f)) (B : Bl mg) (h_N : ∃ t, mg "TEXT_LENGTH" = some (.int 40 t)) : Ok P w K mg base CX0 1 "is_text" sIsText ["value"] (spName textS) := by
  obtain ⟨t40, h_TEXT_LENGTH⟩ := h_N
  refine ⟨f, fd, g, F, F.bindsN fun _ _ _ _ _ _ us hl => match us, hl with | [_], _ => rfl, F.ok scIsText (fun vs H Q E h => ?_) (fun cdv A outer s H vs Q E hr h => ?_)⟩
  · obtain ⟨v, d, rfl, _⟩ := h
    rfl
  · refine ⟨_, (pss_cons (ps_if (pw_or (pt_cmpR op_notTyB (pe_callTy call_type1 (by rfl) (B.u "type" (by decide +kernel)) (by decide +kernel) (pa_cons (pv 0) pa_nil)) (pe_bltn (by rfl) (B.u "str" (by decide +kernel)) (by decide +kernel) (v := .ty "str") rfl) (nomark _)) (pw_or1 (pt_cmpR op_gt (pe_callB call_len (by rfl) (B.u "len" (by decide +kernel)) boot_len (pa_cons (pv 0) pa_nil)) (pe_glob (by rfl) h_TEXT_LENGTH (v := .int 40) ⟨_, rfl⟩) (nomark _)))).pt
        (pss_one (ps_ret pe_bl))
        pss_nil)
      (pss_one (ps_ret (pe_callB (cr_all rfl) (by rfl) (B.u "all" (by decide +kernel)) (by decide +kernel) (pa_cons (pe_lc (own := [("sign", 1)]) (g := gName 1) rfl scIsText.nd (pi_str (pv 0)) (blkOk_by (N := ["value", "sign"]) (sc := defScope sIsText) (by decide +kernel)) (fun _ _ _ _ _ => (pg_name (i := 1) scIsText.nd rfl (Or.inl rfl))) (fun _ _ _ _ _ => pts_nil) (fun _ _ _ _ _ => (pe_chain op_le_str op_le_str pe_str (pv 1) pe_str))) pa_nil))))), ?_⟩
    obtain ⟨v, d, rfl, r, hz, q⟩ := h
    by_cases e : tyd d = "str"
    · obtain ⟨z, rfl, rfl⟩ := str_of r e
      have hz := hz z rfl
      refine ⟨_, rfl, _, _, rfl, .str z, _, _, rfl, rfl, _, rfl, iteB (fun e => by simp at e) fun _ => ?_⟩
      refine ⟨_, rfl, _, _, rfl, ⟨two_ln (by omega), rfl⟩, _, _, rfl, rfl, _, rfl, iteB (fun e1 => ?_) fun e1 => ?_⟩
      · have l1 : ¬ z.length ≤ 40 := by
          have := of_decide_eq_true e1
          omega
        have e : false = textS z := by
          unfold textS
          rw [decide_eq_false l1] <;> rfl
        exact e ▸ q H (Same.refl H)
      · have l1 : z.length ≤ 40 := by
          have := of_decide_eq_false e1
          omega
        refine ⟨_, rfl, _, rfl, fun D hD => lc_signs (i := 1) (σ := [some (.str z), none]) (f := fun c => decide (32 ≤ c) && decide (c ≤ 126)) hD hz ?_ ?_ ?_⟩
        · exact fun c H1 Q1 _ q1 => ⟨_, rfl, _, _, rfl, rfl, le_lt1 (a := 32) (b := 126) (P1 := fun v => Q1 v H1) (fun c => decide (32 ≤ c) && decide (c ≤ 126)) rfl (fun z => ⟨_, _, rfl, rfl, z⟩) q1⟩
        · exact fun u => rfl
        · intro H1 k1 h1
          refine ⟨D, z.cps.toList.map fun c => decide (32 ≤ c) && decide (c ≤ 126), rfl, ?_, ?_⟩
          · rw [List.map_map]
            exact SqL.of h1
          · have e : (List.map (fun c => decide (32 ≤ c) && decide (c ≤ 126)) z.cps.toList).all id = textS z := by
              unfold textS signs
              rw [decide_eq_true l1, List.all_map] <;> rfl
            rw [e]
            exact q H1 k1
    · refine ⟨_, rfl, _, _, rfl, r.tb, _, _, rfl, rfl, _, rfl, iteB (fun _ => ?_) fun e2 => ?_⟩
      · exact (strD_no (f := textS) e) ▸ q H (Same.refl H)
      · simp [e] at e2
end
end K10

namespace K10
open PySem PySem.Spec PyProof.Rows L2
abbrev sDiff : Stmt := top 8
theorem scDiff : FnScope ["values"] ["values"] (defScope sDiff) := ⟨rfl, rfl, rfl, by decide +kernel, rfl, by decide +kernel, by decide +kernel⟩
abbrev sIsLine : Stmt := top 14
theorem scIsLine : FnScope ["value"] ["value"] (defScope sIsLine) := ⟨rfl, rfl, rfl, by decide +kernel, rfl, by decide +kernel, by decide +kernel⟩
/-- a row, a list or a tuple, at p -/
def RowAt (H : Hp) (p : Addr) (xs : List V) : Prop := H p = some (.lst xs) ∨ H p = some (.tup xs)
theorem RowAt.sq {K : PySem.W.Frag} {H : Hp} {p : Addr} {xs : List V} (h : RowAt H p xs) : SqL K H p xs ∨ SqT K H p xs := h.imp SqL.of SqT.of
theorem RowAt.len {K : PySem.W.Frag} {H : Hp} {p : Addr} {xs : List V} (h : RowAt H p xs) : LenV K (.ref p) H xs.length := h.elim (fun h => .inl ⟨_, SqL.of h, rfl⟩) fun h => .inr ⟨_, SqT.of h, rfl⟩
theorem RowAt.ix {K : PySem.W.Frag} {H : Hp} {p : Addr} {xs : List V} (h : RowAt H p xs) {i : Int} {v : V} {Q : VK} (e : atI xs i = some v) (q : Q v H) : rIx K (.ref p) (.int i) H Q := by
  rcases h with h | h
  · exact ixAt h e q
  · exact ixTup (SqT.of h) e q
theorem RowAt.mono {H H' : Hp} {p : Addr} {xs : List V} (k : Same H H') (h : RowAt H p xs) : RowAt H' p xs := h.imp (k _ _) (k _ _)
theorem row_of {H : Hp} {v : V} {d : PyData} (r : Rdd H v d) (h : listD d = true) : ∃ p xs ds, v = .ref p ∧ RowAt H p xs ∧ RddAll H xs ds ∧ (d = .list ds ∨ d = .tuple ds) := by
  cases r with
  | lst h1 r => exact ⟨_, _, _, rfl, .inl h1, r, .inl rfl⟩
  | tup h1 r => exact ⟨_, _, _, rfl, .inr h1, r, .inr rfl⟩
  | _ => exact absurd h (by simp [listD, tyd])
theorem wtAll_len : ∀ ds : List PyData, 2 * ds.length ≤ wtAll ds
  | [] => Nat.zero_le _
  | d :: ds => by
    have := wtAll_len ds
    simp only [wtAll, List.length_cons]
    omega
theorem wtAll_mem : ∀ {ds : List PyData} {d : PyData}, d ∈ ds → wt d ≤ wtAll ds
  | d :: ds, e, h => by
    simp only [wtAll]
    rcases List.mem_cons.mp h with rfl | h
    · omega
    · have := wtAll_mem h
      omega
/-- light: no text in it is long -/
def Light (d : PyData) : Prop := wt d ≤ 1000000
theorem Light.row {d : PyData} {ds : List PyData} (t : Light d) (h : d = .list ds ∨ d = .tuple ds) : ds.length ≤ 500000 ∧ ∀ e ∈ ds, Light e := by
  unfold Light at t ⊢
  have l := wtAll_len ds
  rcases h with rfl | rfl
  · simp only [wt] at t
    exact ⟨by omega, fun e he => by have := wtAll_mem he; omega⟩
  · simp only [wt] at t
    exact ⟨by omega, fun e he => by have := wtAll_mem he; omega⟩
theorem Light.str {z : Str} (t : Light (.str z)) : z.length ≤ 100000 := by
  unfold Light at t
  simp only [wt] at t
  omega
abbrev Line := Str × Str
def dLine (l : Line) : PyData := .tuple [.str l.1, .str l.2]
def lineS (l : Line) : Bool := nameS l.1 && textS l.2
def lineOf : PyData → Option Line
  | .tuple [.str a, .str b] => if lineS (a, b) = true then some (a, b) else none
  | _ => none
def rowD : PyData → Option (List PyData)
  | .list ds => some ds
  | .tuple ds => some ds
  | _ => none
/-- the lines that are shown -/
def linesOf (d : PyData) : Option (List Line) := match rowD d with
  | none => none
  | some ds => if (ds.all (fun x => (lineOf x).isSome) && decide (ds.filterMap lineOf).Nodup) = true then some (ds.filterMap lineOf) else none
/-- a line as a key -/
def kLine (l : Line) : List Key := [.inr l.1, .inr l.2]
theorem kLine_inj {a b : Line} (h : kLine a = kLine b) : a = b := by
  obtain ⟨a1, a2⟩ := a
  obtain ⟨b1, b2⟩ := b
  simp [kLine] at h
  rw [h.1, h.2]
def spDiffX (K : PySem.W.Frag) : Sp := fun vs H Q _ => (∃ (l : Addr) (xs : List Str), vs = [.ref l] ∧ (SqL K H l (xs.map V.str) ∨ SqT K H l (xs.map V.str)) ∧ xs.length < 1000 ∧ Q (.bl (decide xs.Nodup)) H) ∨
  ∃ (l : Addr) (xs : List (Addr × List Key)), vs = [.ref l] ∧ (SqL K H l (xs.map fun p => V.ref p.1) ∨ SqT K H l (xs.map fun p => V.ref p.1)) ∧ (∀ p ∈ xs, H p.1 = some (.tup (p.2.map kV))) ∧ xs.length < 64 ∧ Q (.bl (decide (xs.map (·.2)).Nodup)) H
def spIsLine : Sp := fun vs H Q _ => ∃ v d, vs = [v] ∧ Rdd H v d ∧ Light d ∧ ∀ H', Same H H' → Q (.bl (lineOf d).isSome) H'
theorem lineOf_two (z y : Str) : lineOf (.tuple [.str z, .str y]) = if lineS (z, y) = true then some (z, y) else none := rfl
theorem lineOf_pair {a b : PyData} : (lineOf (.tuple [a, b])).isSome = (strD nameS a && strD textS b) := by
  cases a with
  | str z =>
    cases b with
    | str y =>
      rw [lineOf_two]
      show _ = lineS (z, y)
      by_cases h : lineS (z, y) = true
      · rw [if_pos h, h] <;> rfl
      · rw [if_neg h]
        simpa using h
    | _ => simp [lineOf, strD]
  | _ => cases b <;> simp [lineOf, strD]
theorem lineOf_no {d : PyData} (h : tupD 2 d = false) : (lineOf d).isSome = false := by
  cases d with
  | tuple ds =>
    match ds, h with
    | [], _ => rfl
    | [a], _ => cases a <;> rfl
    | [_, _], h => simp [tupD] at h
    | a :: b :: _ :: _, _ => cases a <;> cases b <;> rfl
  | _ => rfl
section
variable {P : Program} {w : World} {K : PySem.W.Frag} {mg : Str → Option Value} {base : Heap} {f : Addr} {fd : FuncData}
theorem ok_diff (F : Fd K "are_different" sDiff f fd) (g : mg "are_different" = some (.ref f)) (B : Bl mg) : Ok P w K mg base CX0 1 "are_different" sDiff ["values"] (spDiffX K) := by
  refine ⟨f, fd, g, F, F.bindsN fun _ _ _ _ _ _ us hl => match us, hl with | [_], _ => rfl, F.ok scDiff (fun vs H Q E h => ?_) (fun cdv A outer s H vs Q E hr h => ?_)⟩
  · rcases h with ⟨l, xs, rfl, _⟩ | ⟨l, xs, rfl, _⟩ <;> rfl
  · have hc : (cxOf CX0 P w K mg base ["values"] "are_different" (defScope sDiff) f cdv A outer s H E).calm = true := rfl
    have hu : (cxOf CX0 P w K mg base ["values"] "are_different" (defScope sDiff) f cdv A outer s H E).A.units + 64 < cLine := by
      have z := hr.un
      show (A.deeper _).units + 64 < cLine
      omega
    refine ⟨_, (pss_one (ps_ret (pe_cmpR op_eq (pe_lenSetX hu hc (by rfl) (B.u "len" (by decide +kernel)) (by rfl) (B.u "set" (by decide +kernel)) (pv 0)) (pe_callB call_len (by rfl) (B.u "len" (by decide +kernel)) boot_len (pa_cons (pv 0) pa_nil)) (nomark _)))), ?_⟩
    rcases h with ⟨l, xs, rfl, hs, few, q⟩ | ⟨l, xs, rfl, hs, hk, few, q⟩
    · refine ⟨_, rfl, .inl ⟨l, xs, rfl, hs, few, fun n hn => ?_⟩⟩
      refine ⟨_, rfl, _, _, rfl, hs.imp (fun h => ⟨_, h, rfl⟩) (fun h => ⟨_, h, rfl⟩), rfl, ?_⟩
      have e : decide (V.int (n : Int) = V.int ((xs.map V.str).length : Int)) = decide xs.Nodup := by
        apply decide_eq_decide.mpr
        rw [List.length_map, V.int.injEq, ← hn]
        omega
      rw [e]
      exact q
    · refine ⟨_, rfl, .inr ⟨l, xs, rfl, hs, hk, few, fun n hn => ?_⟩⟩
      refine ⟨_, rfl, _, _, rfl, hs.imp (fun h => ⟨_, h, rfl⟩) (fun h => ⟨_, h, rfl⟩), rfl, ?_⟩
      have e : decide (V.int (n : Int) = V.int ((xs.map fun p => V.ref p.1).length : Int)) = decide (xs.map (·.2)).Nodup := by
        apply decide_eq_decide.mpr
        rw [List.length_map, V.int.injEq, ← hn]
        omega
      rw [e]
      exact q
theorem ok_is_line (F : Fd K "is_line" sIsLine f fd) (g : mg "is_line" = some (.ref f)) (B : Bl mg) (o_is_tuple : Ok P w K mg base CX0 1 "is_tuple" sIsTuple ["value", "many"] spIsTuple) (o_is_name : Ok P w K mg base CX0 1 "is_name" sIsName ["value"] (spName nameS))
    (o_is_text : Ok P w K mg base CX0 1 "is_text" sIsText ["value"] (spName textS)) : Ok P w K mg base CX0 2 "is_line" sIsLine ["value"] spIsLine := by
  refine ⟨f, fd, g, F, F.bindsN fun _ _ _ _ _ _ us hl => match us, hl with | [_], _ => rfl, F.ok scIsLine (fun vs H Q E h => ?_) (fun cdv A outer s H vs Q E hr h => ?_)⟩
  · obtain ⟨v, d, rfl, _⟩ := h
    rfl
  · refine ⟨_, (pss_one (ps_ret (pe_and (pe_o o_is_tuple (hr.mono (by decide)) (by rfl) (pa_cons (pv 0) (pa_cons pe_int pa_nil))) (pe_and (pe_o o_is_name (hr.mono (by decide)) (by rfl) (pa_cons (pe_ix ix_seq (pv 0) pe_int fun _ _ => rfl) pa_nil)) (pe_one (pe_o o_is_text (hr.mono (by decide)) (by rfl) (pa_cons (pe_ix ix_seq (pv 0) pe_int fun _ _ => rfl) pa_nil))))))), ?_⟩
    obtain ⟨v, d, rfl, r, t, q⟩ := h
    have t2 := t
    unfold Light at t2
    refine ⟨_, rfl, v, d, 2, rfl, r, (fun ds e => ?_), _, rfl, iteB (fun e => ?_) fun e => ?_⟩
    · have := (t.row (.inr e)).1
      omega
    · obtain ⟨p, xs, ds, rfl, rfl, hp, ra⟩ := r.tup_of (by cases d with | tuple ds => rfl | _ => cases e)
      have l2 : ds.length = 2 := by simpa [tupD] using e
      obtain ⟨a, b, rfl⟩ : ∃ a b, ds = [a, b] := by
        match ds, l2 with
        | [a, b], _ => exact ⟨a, b, rfl⟩
      obtain ⟨x, y, rfl, rx, ry⟩ := rdds_two ra
      have tr := (t.row (.inr rfl)).2
      rw [lineOf_pair] at q
      refine ⟨_, rfl, ixTup (SqT.of hp) rfl ⟨x, a, rfl, rx, (fun z hz => ?_), fun H1 k1 => ?_⟩⟩
      · exact Light.str (hz ▸ tr a List.mem_cons_self)
      refine ⟨_, rfl, iteB (fun e1 => ?_) fun e1 => ?_⟩
      · refine ⟨_, rfl, ixTup (SqT.of (k1 _ _ hp)) rfl ⟨y, b, rfl, ry.mono k1, (fun z hz => ?_), fun H2 k2 => ?_⟩⟩
        · exact Light.str (hz ▸ tr b (by simp))
        have z := q H2 (k1.trans k2)
        rw [e1, Bool.true_and] at z
        exact z
      · have z := q H1 k1
        rw [e1, Bool.false_and] at z
        exact z
    · have z := q H (Same.refl H)
      rw [lineOf_no e] at z
      exact z
end
end K10

namespace K10
open PySem PySem.Spec PyProof.Rows L2
abbrev sCell : Stmt := top 28
theorem scCell : FnScope ["script", "k"] ["script", "k"] (defScope sCell) := ⟨rfl, rfl, rfl, by decide +kernel, rfl, by decide +kernel, by decide +kernel⟩
abbrev sBox : Stmt := top 29
theorem scBox : FnScope ["great"] ["great"] (defScope sBox) := ⟨rfl, rfl, rfl, by decide +kernel, rfl, by decide +kernel, by decide +kernel⟩
abbrev sTake : Stmt := top 30
theorem scTake : FnScope ["box", "many", "digit", "mixed"] ["box", "many"] (defScope sTake) := ⟨rfl, rfl, rfl, by decide +kernel, rfl, by decide +kernel, by decide +kernel⟩
/-- the state of the draws -/
def Box (c : Nat) (xs : List V) : Prop := ∃ (g : Int) (b : Bool) (m k : Int), xs = [.int g, .bl b, .int m, .int k] ∧ 0 ≤ g ∧ 0 ≤ m ∧ m < 2147483629 ∧ 0 ≤ k ∧ k ≤ c
def spCell (K : PySem.W.Frag) : Sp := fun vs H Q _ => ∃ (l : Addr) (ns : List Int) (k : Int), vs = [.ref l, .int k] ∧ SqL K H l (ns.map V.int) ∧ 0 ≤ k ∧ k < 100 ∧
  ∀ (n : Int) H', Same H H' → Q (.int n) H'
def spBox : Sp := fun vs H Q _ => ∃ g : Int, vs = [.int g] ∧ ∀ p xs, H p = none → Box 0 xs → Q (.ref p) (upd H p (.lst xs))
def spTake : Sp := fun vs H Q _ => ∃ (p : Addr) (many : Int) (xs : List V) (c : Nat), vs = [.ref p, .int many] ∧ H p = some (.lst xs) ∧ Box c xs ∧ c < 100000 ∧ 1 ≤ many ∧ many ≤ 100000 ∧
  ∀ (d : Int) ys, 0 ≤ d → d < many → Box (c + 1) ys → Q (.int d) (upd H p (.lst ys))
section
variable {P : Program} {w : World} {K : PySem.W.Frag} {mg : Str → Option Value} {base : Heap} {f : Addr} {fd : FuncData}
theorem ok_cell (F : Fd K "_law_cell" sCell f fd) (g : mg "_law_cell" = some (.ref f)) (B : Bl mg) : Ok P w K mg base CX0 1 "_law_cell" sCell ["script", "k"] (spCell K) := by
  refine ⟨f, fd, g, F, F.bindsN fun _ _ _ _ _ _ us hl => match us, hl with | [_, _], _ => rfl, F.ok scCell (fun vs H Q E h => ?_) (fun cdv A outer s H vs Q E hr h => ?_)⟩
  · obtain ⟨l, ns, k, rfl, _⟩ := h
    rfl
  · refine ⟨_, (pss_one (ps_ret (pe_ifExp (pt_cmpR op_lt (pv 1) (pe_callB call_len (by rfl) (B.u "len" (by decide +kernel)) boot_len (pa_cons (pv 0) pa_nil)) (nomark _)) (pe_ix ix_seq (pv 0) (pv 1) fun _ _ => rfl) (pe_op op_add (pe_op op_mul pe_int (pv 1)) (pe_op op_mod (pe_callB (cr_sum rfl) (by rfl) (B.u "sum" (by decide +kernel)) boot_sum (pa_cons (pe_slice sl_list (pv 0) po_none (po_some pe_int)) pa_nil)) pe_int))))), ?_⟩
    obtain ⟨l, ns, k, rfl, hs, h0, h1, q⟩ := h
    refine ⟨_, rfl, _, rfl, _, _, rfl, .inl ⟨_, hs, rfl⟩, _, _, rfl, rfl, _, rfl, ?_⟩
    have el : ((List.map V.int ns).length : Int) = (ns.length : Int) := by
      rw [List.length_map]
    refine ite2 (fun c => ?_) (fun c => ?_)
    · have c := of_decide_eq_true c
      rw [el] at c
      have hk : k.toNat < ns.length := by omega
      have ha : atI (ns.map V.int) k = some (V.int ns[k.toNat]) := by
        unfold atI ixN
        rw [if_pos h0, if_pos (by rw [List.length_map]; omega)]
        show (ns.map V.int)[k.toNat]? = _
        rw [List.getElem?_map, List.getElem?_eq_getElem hk] <;> rfl
      exact ⟨_, rfl, _, rfl, .inl ⟨l, _, k, _, rfl, rfl, hs, ha, q _ H (Same.refl H)⟩⟩
    · refine ⟨_, rfl, _, _, rfl, rfl, .inl ⟨by decide, by decide⟩, _, rfl, 1, rfl, l, _, rfl, hs, fun p hp => ?_⟩
      have ec : cutV (ns.map V.int) none (some 1) = (ns.take 1).map V.int := by
        cases ns with
        | nil => rfl
        | cons a r =>
          simp [cutV, HT.sIx]
      refine ⟨p, ns.take 1, rfl, ?_, _, _, rfl, rfl, (by show (0 : Int) < 1000033; decide), _, _, rfl, rfl, q _ _ fun b o e => ?_⟩
      · rw [ec]
        exact SqL.of upd_same
      · rw [upd_ne (ne_of_none e hp)]
        exact e
/-- the bounds of the draws -/
theorem ok_box (F : Fd K "_law_box" sBox f fd) (g : mg "_law_box" = some (.ref f)) (B : Bl mg) : Ok P w K mg base CX0 1 "_law_box" sBox ["great"] spBox := by
  refine ⟨f, fd, g, F, F.bindsN fun _ _ _ _ _ _ us hl => match us, hl with | [_], _ => rfl, F.ok scBox (fun vs H Q E h => ?_) (fun cdv A outer s H vs Q E hr h => ?_)⟩
  · obtain ⟨g, rfl, _⟩ := h
    rfl
  · refine ⟨_, (pss_one (ps_ret (pe_lst (pa_cons (pe_callB call_abs (by rfl) (B.u "abs" (by decide +kernel)) (by decide +kernel) (pa_cons (pv 0) pa_nil)) (pa_cons (pe_cmpR op_ge (pe_callB call_abs (by rfl) (B.u "abs" (by decide +kernel)) (by decide +kernel) (pa_cons (pv 0) pa_nil)) (pe_op op_pow pe_int pe_int) (nomark _)) (pa_cons (pe_op op_mod (pe_callTy call_int1 (by rfl) (B.u "int" (by decide +kernel)) (by decide +kernel) (pa_cons (pe_callB call_abs (by rfl) (B.u "abs" (by decide +kernel)) (by decide +kernel) (pa_cons (pv 0) pa_nil)) pa_nil)) pe_int) (pa_cons pe_int pa_nil))))))), ?_⟩
    obtain ⟨g, rfl, q⟩ := h
    refine ⟨_, rfl, _, rfl, _, rfl, _, rfl, _, _, rfl, rfl, ⟨by decide, by decide, by decide⟩, _, _, rfl, rfl, ?_⟩
    refine ⟨_, rfl, _, rfl, .inl ⟨_, rfl, _, _, rfl, rfl, (by show (0 : Int) < 2147483629; decide), ?_⟩⟩
    refine ⟨by show 4 ≤ sizeLine; rw [sizeLine_eq]; decide, fun p hp => q p _ hp ⟨_, _, _, _, rfl, ?_, ?_, ?_, Int.le_refl _, Int.le_refl _⟩⟩
    · split <;> omega
    · exact Int.emod_nonneg _ (by decide)
    · exact Int.emod_lt_of_pos _ (by decide)
theorem ok_take (F : Fd K "_law_take" sTake f fd) (g : mg "_law_take" = some (.ref f)) (B : Bl mg) : Ok P w K mg base CX0 1 "_law_take" sTake ["box", "many"] spTake := by
  refine ⟨f, fd, g, F, F.bindsN fun _ _ _ _ _ _ us hl => match us, hl with | [_, _], _ => rfl, F.ok scTake (fun vs H Q E h => ?_) (fun cdv A outer s H vs Q E hr h => ?_)⟩
  · obtain ⟨p, many, xs, c, rfl, _⟩ := h
    rfl
  · refine ⟨_, (pss_cons (ps_if (pw_and (pt_val (pe_ix ix_seq (pv 0) pe_int fun _ _ => rfl)) (pw_and1 (pt_cmpR op_gt (pe_ix ix_seq (pv 0) pe_int fun _ _ => rfl) pe_int (nomark _)))).pt
        (pss_cons (ps_set (i := 2) scTake.nd rfl (Or.inl rfl) (pe_op op_mod (pe_callTy call_int1 (by rfl) (B.u "int" (by decide +kernel)) (by decide +kernel) (pa_cons (pe_ix ix_seq (pv 0) pe_int fun _ _ => rfl) pa_nil)) (pv 1)))
        (pss_cons (ps_asg (pe_op op_fdiv (pe_ix ix_seq (pv 0) pe_int fun _ _ => rfl) (pv 1)) (pg_sub (pv 0) pe_int set_list fun _ => rfl))
        (pss_one (ps_ret (pv 2)))))
        pss_nil)
      (pss_cons (ps_asg (pe_op op_add (pe_ix ix_seq (pv 0) pe_int fun _ _ => rfl) pe_int) (pg_sub (pv 0) pe_int set_list fun _ => rfl))
      (pss_cons (ps_set (i := 3) scTake.nd rfl (Or.inl rfl) (pe_op op_mod (pe_callTy call_int1 (by rfl) (B.u "int" (by decide +kernel)) (by decide +kernel) (pa_cons (pe_op op_pow (pe_op op_add (pe_op op_add (pe_ix ix_seq (pv 0) pe_int fun _ _ => rfl) (pe_op op_mul pe_int (pe_ix ix_seq (pv 0) pe_int fun _ _ => rfl))) pe_int) pe_int) pa_nil)) pe_int))
      (pss_one (ps_ret (pe_op op_mod (pe_op op_fdiv (pe_op op_mod (pe_callTy call_int1 (by rfl) (B.u "int" (by decide +kernel)) (by decide +kernel) (pa_cons (pe_op op_pow (pe_op op_add (pe_op op_mul (pv 3) pe_int) (pe_op op_mul pe_int (pe_ix ix_seq (pv 0) pe_int fun _ _ => rfl))) pe_int) pa_nil)) pe_int) pe_int) (pv 1))))))), ?_⟩
    obtain ⟨p, many, xs, c, rfl, hp, ⟨g, b, m, k, rfl, b1, b2, b3, b4, b5⟩, hc, m1, m2, q⟩ := h
    have big : sizeLine = 16777216 := sizeLine_eq
    -- the second way
    have last : tSeq (tAsg (tOp (rI0 fun i j => V.int (i + j)) (tOp (rIx K) (tVar 0) (tC (V.int 3))) (tC (V.int 1))) (gSub (tVar 0) (tC (V.int 3)) rSetL))
        (tSeq (tAsg (tOp (rI (fun x j => 0 < j) fun i j => V.int (i % j)) (tCB (fun xs H Q => (∃ i, xs = [V.int i] ∧ Q (V.int i) H) ∨ ∃ k, xs = [V.bl k] ∧ Q (V.int (if k = true then 1 else 0)) H)
          (tCons (tOp (rI CPow fun i j => V.int (i ^ j.toNat)) (tOp (rI0 fun i j => V.int (i + j)) (tOp (rI0 fun i j => V.int (i + j)) (tOp (rIx K) (tVar 0) (tC (V.int 2)))
            (tOp (rI CMul fun i j => V.int (i * j)) (tC (V.int 15485917)) (tOp (rIx K) (tVar 0) (tC (V.int 3))))) (tC (V.int 179424719))) (tC (V.int 5))) tNil)) (tC (V.int 2147483647))) (gName 3))
        (tRet (tOp (rI (fun x j => 0 < j) fun i j => V.int (i % j)) (tOp (rI CDiv fun i j => V.int (i / j)) (tOp (rI (fun x j => 0 < j) fun i j => V.int (i % j))
          (tCB (fun xs H Q => (∃ i, xs = [V.int i] ∧ Q (V.int i) H) ∨ ∃ k, xs = [V.bl k] ∧ Q (V.int (if k = true then 1 else 0)) H)
            (tCons (tOp (rI CPow fun i j => V.int (i ^ j.toNat)) (tOp (rI0 fun i j => V.int (i + j)) (tOp (rI CMul fun i j => V.int (i * j)) (tVar 3) (tC (V.int 48271)))
              (tOp (rI CMul fun i j => V.int (i * j)) (tC (V.int 104759)) (tOp (rIx K) (tVar 0) (tC (V.int 3))))) (tC (V.int 3))) tNil)) (tC (V.int 2147483587))) (tC (V.int 64))) (tVar 1))))
        { nx := fun _ H' => Q V.non H', rt := Q } [some (V.ref p), some (V.int many), none, none] H := by
      refine ⟨_, rfl, ixAt hp rfl ⟨_, _, rfl, rfl, _, rfl, p, _, _, 3, rfl, rfl, hp, rfl, ?_⟩⟩
      refine ⟨_, rfl, ixAt upd_same rfl ⟨_, rfl, ixAt upd_same rfl ⟨_, _, rfl, rfl, .inl ⟨by decide, by decide⟩, _, _, rfl, rfl, _, _, rfl, rfl, ?_⟩⟩⟩
      have hA : (m + 15485917 * (k + 1) + 179424719).natAbs < 2 ^ 64 := by omega
      have n1 : 0 ≤ (m + 15485917 * (k + 1) + 179424719) ^ (5 : Int).toNat % 2147483647 := Int.emod_nonneg _ (by decide)
      have n2 : (m + 15485917 * (k + 1) + 179424719) ^ (5 : Int).toNat % 2147483647 < 2147483647 := Int.emod_lt_of_pos _ (by decide)
      have hB : ((m + 15485917 * (k + 1) + 179424719) ^ (5 : Int).toNat % 2147483647 * 48271 + 104759 * (k + 1)).natAbs < 2 ^ 64 := by
        generalize (m + 15485917 * (k + 1) + 179424719) ^ (5 : Int).toNat % 2147483647 = B1 at n1 n2
        omega
      refine ⟨_, _, rfl, rfl, ⟨by decide, by decide, hA⟩, ?_⟩
      refine .inl ⟨_, rfl, _, _, rfl, rfl, (by show (0 : Int) < 2147483647; decide), ?_⟩
      refine ⟨_, rfl, _, _, rfl, rfl, .inr ⟨by decide, by decide⟩, ?_⟩
      refine ⟨_, rfl, ixAt upd_same rfl ⟨_, _, rfl, rfl, .inl ⟨by decide, by decide⟩, _, _, rfl, rfl, ?_⟩⟩
      refine ⟨_, _, rfl, rfl, ⟨by decide, by decide, hB⟩, ?_⟩
      refine .inl ⟨_, rfl, _, _, rfl, rfl, (by show (0 : Int) < 2147483587; decide), _, _, rfl, rfl, ⟨by decide, by decide⟩, _, rfl, _, _, rfl, rfl, (by show (0 : Int) < many; omega), ?_⟩
      refine q _ _ (Int.emod_nonneg _ (by omega)) (Int.emod_lt_of_pos _ (by omega)) ⟨g, b, m, k + 1, rfl, b1, b2, b3, by omega, by omega⟩
    refine ⟨_, rfl, ixAt hp rfl ⟨b, rfl, ?_⟩⟩
    cases b with
    | false => exact last
    | true =>
      refine ⟨_, rfl, ixAt hp rfl ⟨_, _, rfl, rfl, _, rfl, ?_⟩⟩
      refine ite2 (fun c => ?_) (fun _ => last)
      have c := of_decide_eq_true c
      refine ⟨_, rfl, ixAt hp rfl (.inl ⟨_, rfl, _, rfl, _, _, rfl, rfl, (by show (0 : Int) < many; omega), ?_⟩)⟩
      refine ⟨_, rfl, ixAt hp rfl ⟨_, rfl, _, _, rfl, rfl, ⟨(by show (0 : Int) < many; omega), (by show many < 1073741824; omega)⟩, _, rfl, p, _, _, 0, rfl, rfl, hp, rfl, ?_⟩⟩
      refine ⟨_, rfl, q _ _ (Int.emod_nonneg _ (by omega)) (Int.emod_lt_of_pos _ (by omega)) ⟨g / many, true, m, k, rfl, ?_, b2, b3, b4, by omega⟩⟩
      exact Int.ediv_nonneg b1 (by omega)
end
end K10

/-! xs != [] for any list -/
namespace L2
open PySem PySem.Spec PyProof.Rows
theorem ne_list_lengths {prog : Program} {w : World} {A : Around} {E : Value → Shared → Prop} {s : Shared} {l b : Addr} {items items2 : Array Value} {Q : Value → Shared → Prop}
    (h1 : s.heap.IsList l items) (h2 : s.heap.IsList b items2) (ne : (items.size != items2.size) = true) (hu : A.units < cLine) (q : Q (.bool true) s) : wpAny (model prog w) A (compareOp .NotEq (.ref l) (.ref b)) Q E s := by
  obtain ⟨⟨c1, dd, dt1, sl⟩, g1, e1, n, e2⟩ := id h1
  obtain ⟨⟨c2, dd2, dt2, sl2⟩, g2, e3, n2, e4⟩ := id h2
  simp only at e1 e2 e3 e4
  subst e1 e2 e3 e4
  show wpAny _ _ (richCompare .NotEq _ _) _ _ _
  exact richCompare_meets_room h1.typeIs h2.typeIs F.slot_list_ne F.entry_list_ne (F.args_list_ne_2 _ _) (SeqAt.list_ne_lengthsAt l b items items2 n n2 dd dd2 sl sl2 ne) ⟨g1, g2, by show Value.bool true ≠ Value.notImplemented ∧ _; exact ⟨(fun z => by cases z), q⟩⟩ hu
def rNeNil (K : PySem.W.Frag) : R2 := fun x y H Q => ∃ (a b : Addr) (xs : List V), x = .ref a ∧ y = .ref b ∧ SqL K H a xs ∧ SqL K H b [] ∧ Q (.bl (!xs.isEmpty)) H
theorem op_neNil {X : Cx} (hu : X.A.units + 64 < cLine) : OpR X (compareOp .NotEq) (rNeNil X.K) := by
  intro pins s σ H x y v u Q I rx ry h
  obtain ⟨a, b, xs, rfl, rfl, ha, hb, q⟩ := h
  cases xs with
  | nil => exact op_neD hu pins s σ H _ _ v u Q I rx ry ⟨.list [], .list [], .lst ha .nil, .lst hb .nil, rfl, rfl, q⟩
  | cons z zs =>
    obtain rfl : v = Value.ref a := rx
    obtain rfl : u = Value.ref b := ry
    obtain ⟨i1, r1, p1, _⟩ := I.list ha
    obtain ⟨i2, r2, p2, _⟩ := I.list hb
    cases r2
    cases r1 with
    | cons r1 r3 => exact ne_list_lengths p1.isList p2.isList (by simp) (by omega) ⟨.bl true, H, I, rfl, q⟩
end L2

/-! a list of lists, each changed by its place; dicts of whole numbers -/
namespace L2
open PySem PySem.Spec PyProof.Rows
/-- at L: the list of the lists at as, the h-th of them f h -/
structure LL (H : Hp) (L : Addr) (as : List Addr) (f : Nat → List V) : Prop where
  top : H L = some (.lst (as.map V.ref))
  nd : as.Nodup
  nin : L ∉ as
  row : ∀ (h : Nat) (a : Addr), as[h]? = some a → H a = some (.lst (f h))
theorem LL.set {H : Hp} {L : Addr} {as : List Addr} {f : Nat → List V} (S : LL H L as f) {u : Nat} {a : Addr} (ha : as[u]? = some a) (ys : List V) : LL (upd H a (.lst ys)) L as (fun h => if h = u then ys else f h) where
  top := by rw [upd_ne (fun e => S.nin (by rw [e]; exact List.mem_of_getElem? ha))]; exact S.top
  nd := S.nd
  nin := S.nin
  row := fun h b hb => by
    by_cases e : h = u
    · subst e
      rw [ha] at hb
      cases hb
      rw [if_pos rfl, upd_same]
    · rw [if_neg e]
      have ne : b ≠ a := fun z => by
        subst z
        obtain ⟨l1, e1⟩ := List.getElem?_eq_some_iff.mp hb
        obtain ⟨l2, e2⟩ := List.getElem?_eq_some_iff.mp ha
        have nd := List.pairwise_iff_getElem.mp S.nd
        rcases Nat.lt_trichotomy h u with c | c | c
        · exact nd h u l1 l2 c (e1.trans e2.symm)
        · exact e c
        · exact nd u h l2 l1 c (e2.trans e1.symm)
      rw [upd_ne ne]
      exact S.row h b hb
theorem LL.congr {H : Hp} {L : Addr} {as : List Addr} {f g : Nat → List V} (S : LL H L as f) (h : ∀ i, i < as.length → f i = g i) : LL H L as g :=
  ⟨S.top, S.nd, S.nin, fun i a ha => by rw [← h i (List.getElem?_eq_some_iff.mp ha).1]; exact S.row i a ha⟩
/-- [[] for .. in ..] -/
theorem lc_empties {J : It} {n : Nat} {G : Hp → Prop} {Y : Nat → Hp → V → Hp → Prop} (w : Walk J n G Y) {g : TG} {tt : TT} {te : TE} {vs : List Nat} {σ : St} {H : Hp} {D : Addr} {Qd : Hp → Prop} (hD : H D = none) (hn : n ≤ 16777215) (hG : ∀ H', Same H (del H' D) → G H')
    (he : ∀ i x H1 H2 (K : V → Hp → Prop) (N : Hp → Prop), i < n → Same H (del H1 D) → Y i H1 x H2 → (∀ a, H1 a = none → K (.ref a) (upd H1 a (.lst []))) → g x (wipe σ vs) H2 fun σ2 H2' => wipe σ2 vs = wipe σ vs ∧ tt σ2 H2' fun b H3 => if b = true then te σ2 H3 K else N H3)
    (q : ∀ as H', as.length = n → (∀ a ∈ as, H a = none) → Same H (del H' D) → Same H H' → LL H' D as (fun _ => []) → Qd H') :
    ∃ W : Nat → Nat → Hp → Prop, (∃ m, W 0 m (upd H D (.lst []))) ∧ ∀ i m H, W i m H →
      (J.stop i H ∧ Qd H) ∨ (J.go i H ∧ ∃ Nx : Hp → Prop, (∀ H', Nx H' → ∃ m', m' < m ∧ W (i + 1) m' H') ∧ ∀ x H', J.yld i H x H' → g x (wipe σ vs) H' fun σ2 H2 => wipe σ2 vs = wipe σ vs ∧ tt σ2 H2 fun b H3 =>
        if b = true then te σ2 H3 fun y H4 => ∃ acc, H4 D = some (.lst acc) ∧ acc.length < sizeLine ∧ Nx (upd H4 D (.lst (acc ++ [y]))) else Nx H3) := by
  refine lc_it w (fun i H' => Same H (del H' D) ∧ ∃ as : List Addr, as.length = i ∧ (∀ a ∈ as, H a = none) ∧ LL H' D as (fun _ => [])) ?_ (fun i H' _ h => hG H' h.1) ?_ ?_
  · refine ⟨fun b o e => ?_, [], rfl, (fun _ z => nomatch z), upd_same, .nil, (fun z => nomatch z), fun h a z => by simp at z⟩
    rw [del_ne (ne_of_none e hD), upd_ne (ne_of_none e hD)]
    exact e
  · rintro i x H1 H2 hi ⟨k1, as, l1, f1, S⟩ hy
    refine he i x H1 H2 _ _ hi k1 hy fun a ha => ?_
    have nD : a ≠ D := fun e => by rw [e, S.top] at ha; cases ha
    have na : a ∉ as := fun m => by
      obtain ⟨j, lj, e⟩ := List.mem_iff_getElem.mp m
      have := S.row j a (by rw [List.getElem?_eq_getElem lj, e])
      rw [this] at ha
      cases ha
    have Ha : H a = none := by
      cases e : H a with
      | none => rfl
      | some o =>
        have := k1 a o e
        rw [del_ne nD, ha] at this
        cases this
    refine ⟨as.map V.ref, by rw [upd_ne nD.symm]; exact S.top, by rw [List.length_map, l1]; exact lt_ln (by omega), (fun b o z => ?_), as ++ [a], by rw [List.length_append, l1]; rfl, ?_, ?_⟩
    · have z1 := k1 b o z
      have nb : b ≠ D := ne_of_none z hD
      rw [del_ne nb] at z1 ⊢
      rw [upd_ne nb, upd_ne (ne_of_none z1 ha)]
      exact z1
    · intro b hb
      rcases List.mem_append.mp hb with hb | hb
      · exact f1 b hb
      · rw [List.mem_singleton.mp hb]
        exact Ha
    · refine ⟨by rw [upd_same, List.map_append]; rfl, ?_, ?_, ?_⟩
      · refine List.nodup_append.mpr ⟨S.nd, by simp, fun b hb c hc e => ?_⟩
        rw [List.mem_singleton.mp hc] at e
        subst e
        exact na hb
      · intro m
        rcases List.mem_append.mp m with m | m
        · exact S.nin m
        · exact nD (List.mem_singleton.mp m).symm
      · intro h b hb
        have nb : b ≠ D := fun e => by
          subst e
          have m := List.mem_of_getElem? hb
          rcases List.mem_append.mp m with m | m
          · exact S.nin m
          · exact nD (List.mem_singleton.mp m).symm
        rw [upd_ne nb]
        by_cases c : h < as.length
        · rw [List.getElem?_append_left c] at hb
          have z := S.row h b hb
          rw [upd_ne (ne_of_none z ha)]
          exact z
        · rw [List.getElem?_append_right (by omega)] at hb
          have : b = a := by
            cases k : h - as.length with
            | zero => rw [k] at hb; simpa using hb.symm
            | succ m => rw [k] at hb; simp at hb
          rw [this, upd_same]
  · rintro H1 ⟨k1, as, l1, f1, S⟩
    exact q as H1 l1 f1 k1 (del_sub k1) S
/-! ### dicts of whole numbers -/
/-- the entries of a dict from numbers to numbers -/
def dkv (b : List (Nat × Nat)) : List (Key × V) := b.map fun e => (Sum.inl (e.1 : Int), V.int (e.2 : Int))
theorem dkv_val {b : List (Nat × Nat)} {x : Nat} : (valV (dkv b) (Sum.inl (x : Int))).isSome = decide (x ∈ b.map (·.1)) := by
  induction b with
  | nil => rfl
  | cons e b ih =>
    show (valV ((Sum.inl (e.1 : Int), V.int (e.2 : Int)) :: dkv b) (Sum.inl (x : Int))).isSome = _
    by_cases c : e.1 = x
    · subst c
      rw [valV_pos rfl]
      simp
    · have n : ¬ (Sum.inl (e.1 : Int) : Key) = Sum.inl (x : Int) := fun z => c (by have := Sum.inl.inj z; omega)
      rw [valV_neg n, ih]
      have n2 : ¬ x = e.1 := fun z => c z.symm
      simp [n2]
theorem dkv_get {b : List (Nat × Nat)} {x p : Nat} (nd : (b.map (·.1)).Nodup) (h : (x, p) ∈ b) : valV (dkv b) (Sum.inl (x : Int)) = some (.int p) := by
  induction b with
  | nil => cases h
  | cons e b ih =>
    have nd' : e.1 ∉ b.map (·.1) ∧ (b.map (·.1)).Nodup := by simpa using nd
    show valV ((Sum.inl (e.1 : Int), V.int (e.2 : Int)) :: dkv b) (Sum.inl (x : Int)) = _
    rcases List.mem_cons.mp h with h | h
    · subst h
      exact valV_pos rfl
    · have n : ¬ (Sum.inl (e.1 : Int) : Key) = Sum.inl (x : Int) := fun z => by
        have : e.1 = x := by have := Sum.inl.inj z; omega
        exact nd'.1 (by rw [this]; exact List.mem_map.mpr ⟨_, h, rfl⟩)
      rw [valV_neg n]
      exact ih nd'.2 h
theorem dkv_put {b : List (Nat × Nat)} {x p : Nat} (h : x ∉ b.map (·.1)) : putK (dkv b) (Sum.inl (x : Int)) (.int p) = dkv (b ++ [(x, p)]) := by
  have e : valV (dkv b) (Sum.inl (x : Int)) = none := by
    have := dkv_val (b := b) (x := x)
    rw [decide_eq_false h] at this
    cases z : valV (dkv b) (Sum.inl (x : Int)) with
    | none => rfl
    | some v => rw [z] at this; cases this
  rw [putK_new _ e]
  simp [dkv]
end L2

/-! comprehensions whose items change what stands at p -/
namespace L2
open PySem PySem.Spec PyProof.Rows
theorem but_refl {p : Addr} {H : Hp} : But p H H := fun _ _ _ e => e
theorem lc_genB {J : It} {n : Nat} {G : Hp → Prop} {Y : Nat → Hp → V → Hp → Prop} (w : Walk J n G Y) {g : TG} {tt : TT} {te : TE} {vs : List Nat} {σ : St} {H : Hp} {p D : Addr} {o : HO} {Qd : Hp → Prop} (S : Nat → Hp → Prop) (R : Nat → V → Hp → Prop)
    (Rm : ∀ i y H1 H2, Same H1 H2 → R i y H1 → R i y H2) (Sm : ∀ i H1 H2, H1 p = H2 p → S i H1 → S i H2) (hp : H p = some o) (s0 : S 0 H) (hD : H D = none) (hn : n ≤ 16777215) (hG : ∀ H', Same (del H p) (del (del H' D) p) → G H')
    (he : ∀ i x H1 H2 (K : V → Hp → Prop) (N : Hp → Prop), i < n → Same (del H p) (del (del H1 D) p) → (∃ o, H1 D = some o) → S i H1 → Y i H1 x H2 → (∀ y H4, But p H1 H4 → S (i + 1) H4 → R i y (del (del H4 D) p) → K y H4) →
      g x (wipe σ vs) H2 fun σ2 H2' => wipe σ2 vs = wipe σ vs ∧ tt σ2 H2' fun b H3 => if b = true then te σ2 H3 K else N H3)
    (q : ∀ (ys : List V) (H' : Hp), Same (del H p) (del (del H' D) p) → S n H' → H' D = some (.lst ys) → ys.length = n → (∀ (i : Nat) (y : V), ys[i]? = some y → R i y (del (del H' D) p)) → Qd H') :
    ∃ W : Nat → Nat → Hp → Prop, (∃ m, W 0 m (upd H D (.lst []))) ∧ ∀ i m H, W i m H →
      (J.stop i H ∧ Qd H) ∨ (J.go i H ∧ ∃ Nx : Hp → Prop, (∀ H', Nx H' → ∃ m', m' < m ∧ W (i + 1) m' H') ∧ ∀ x H', J.yld i H x H' → g x (wipe σ vs) H' fun σ2 H2 => wipe σ2 vs = wipe σ vs ∧ tt σ2 H2 fun b H3 =>
        if b = true then te σ2 H3 fun y H4 => ∃ acc, H4 D = some (.lst acc) ∧ acc.length < sizeLine ∧ Nx (upd H4 D (.lst (acc ++ [y]))) else Nx H3) := by
  have nD : p ≠ D := ne_of_none hp hD
  have dd : ∀ {H4 : Hp} {ys : List V}, del (upd H4 D (.lst ys)) D = del H4 D := fun {H4 ys} => by
    funext b
    by_cases nb : b = D
    · rw [nb, del_same, del_same]
    · rw [del_ne nb, del_ne nb, upd_ne nb]
  have bb : ∀ {H1 H4 : Hp}, But p H1 H4 → Same (del (del H1 D) p) (del (del H4 D) p) := fun k b o e => by
    by_cases nb : b = p
    · rw [nb, del_same] at e; cases e
    · rw [del_ne nb] at e ⊢
      by_cases nd : b = D
      · rw [nd, del_same] at e; cases e
      · rw [del_ne nd] at e ⊢
        exact k b o nb e
  refine lc_it w (fun i H' => Same (del H p) (del (del H' D) p) ∧ S i H' ∧ ∃ ys, H' D = some (.lst ys) ∧ ys.length = i ∧ ∀ (j : Nat) (y : V), ys[j]? = some y → R j y (del (del H' D) p)) ?_ (fun i H' _ h => hG H' h.1) ?_ ?_
  · refine ⟨fun b o e => ?_, Sm 0 H _ (by rw [upd_ne nD]) s0, [], upd_same, rfl, fun j y h => by simp at h⟩
    by_cases nb : b = p
    · rw [nb, del_same] at e; cases e
    · rw [del_ne nb] at e ⊢
      rw [del_ne (ne_of_none e hD), upd_ne (ne_of_none e hD)]
      exact e
  · rintro i x H1 H2 hi ⟨k1, s1, ys, h1, l1, r1⟩ hy
    refine he i x H1 H2 _ _ hi k1 ⟨_, h1⟩ s1 hy (fun y H4 k4 s4 r4 => ?_)
    have h4 := k4 D _ nD.symm h1
    refine ⟨ys, h4, by rw [l1]; exact lt_ln (by omega), ?_, Sm _ H4 _ (by rw [upd_ne nD]) s4, _, upd_same, by rw [List.length_append, l1]; rfl, ?_⟩
    · rw [dd]
      exact k1.trans (bb k4)
    · intro j y2 hy2
      rw [dd]
      by_cases c : j < ys.length
      · rw [List.getElem?_append_left c] at hy2
        exact Rm _ _ _ _ (bb k4) (r1 j y2 hy2)
      · have lt := (List.getElem?_eq_some_iff.mp hy2).1
        rw [List.length_append] at lt
        have ek : j = ys.length := by
          have : ([y] : List V).length = 1 := rfl
          omega
        subst ek
        rw [List.getElem?_append_right (Nat.le_refl _), Nat.sub_self] at hy2
        obtain rfl : y = y2 := by simpa using hy2
        rw [l1]
        exact r4
  · rintro H1 ⟨k1, s1, ys, h1, l1, r1⟩
    exact q ys H1 k1 s1 h1 l1 r1
end L2

namespace K10
open PySem PySem.Spec PyProof.Rows L2
abbrev sMixed : Stmt := top 31
theorem scMixed : FnScope ["box", "items", "left", "found"] ["box", "items"] (defScope sMixed) := ⟨rfl, rfl, rfl, by decide +kernel, rfl, by decide +kernel, by decide +kernel⟩
/-- the state of the draws stands at p -/
def BoxAt (H : Hp) (p : Addr) (c : Nat) : Prop := ∃ xs, H p = some (.lst xs) ∧ Box c xs
theorem Box.up {c c' : Nat} {xs : List V} (h : Box c xs) (l : c ≤ c') : Box c' xs := by
  obtain ⟨g, b, m, k, e, h1, h2, h3, h4, h5⟩ := h
  exact ⟨g, b, m, k, e, h1, h2, h3, h4, by omega⟩
theorem BoxAt.up {H : Hp} {p : Addr} {c c' : Nat} (h : BoxAt H p c) (l : c ≤ c') : BoxAt H p c' := h.imp fun _ z => ⟨z.1, z.2.up l⟩
theorem BoxAt.eq {H H' : Hp} {p : Addr} {c : Nat} (h : BoxAt H p c) (e : H' p = H p) : BoxAt H' p c := h.imp fun _ z => ⟨e.trans z.1, z.2⟩
theorem BoxAt.same {H H' : Hp} {p : Addr} {c : Nat} (h : BoxAt H p c) (k : Same H H') : BoxAt H' p c := h.imp fun _ z => ⟨k _ _ z.1, z.2⟩
theorem BoxAt.some {H : Hp} {p : Addr} {c : Nat} (h : BoxAt H p c) : ∃ o, H p = Option.some o := let ⟨_, z, _⟩ := h; ⟨_, z⟩
/-- one number is drawn -/
def spDraw1 : Sp := fun vs H Q _ => ∃ (p : Addr) (many : Int) (c : Nat), vs = [.ref p, .int many] ∧ BoxAt H p c ∧ c < 100000 ∧ 1 ≤ many ∧ many ≤ 100000 ∧
  ∀ (d : Int) H', 0 ≤ d → d < many → But p H H' → BoxAt H' p (c + 1) → (∀ b, b ≠ p → H' b = H b) → Q (.int d) H'
theorem take_draw {vs : List V} {H : Hp} {Q : VK} {E : XK} (h : spDraw1 vs H Q E) : spTake vs H Q E := by
  obtain ⟨p, many, c, rfl, ⟨xs, hp, hb⟩, hc, m1, m2, q⟩ := h
  exact ⟨p, many, xs, c, rfl, hp, hb, hc, m1, m2, fun d ys d0 d1 b => q d _ d0 d1 But.upd ⟨ys, upd_same, b⟩ fun b nb => upd_ne nb⟩
theorem seqIx {j len : Nat} (h : j < len) : seqIndex? (j : Int) len = some j := by
  unfold seqIndex?
  have c1 : ¬ (j : Int) < 0 := by omega
  simp only [if_neg c1]
  have c2 : decide (0 ≤ (j : Int)) = true := decide_eq_true (by omega)
  have c3 : decide ((j : Int) < (len : Int)) = true := decide_eq_true (by omega)
  rw [c2, c3]
  simp
theorem erase_permV : ∀ {l : List V} {i : Nat} (h : i < l.length), (l[i] :: l.eraseIdx i).Perm l
  | a :: l, 0, _ => .refl _
  | a :: l, i + 1, h => by
    have := erase_permV (l := l) (i := i) (by simpa using h)
    simp only [List.getElem_cons_succ, List.eraseIdx_cons_succ]
    exact (List.Perm.swap _ _ _).trans (this.cons a)
/-- the items in a drawn order, in a new list -/
def spMixed : Sp := fun vs H Q _ => ∃ (p l : Addr) (c : Nat) (xs : List V), vs = [.ref p, .ref l] ∧ BoxAt H p c ∧ H l = some (.lst xs) ∧ xs.length ≤ 70 ∧ c + xs.length < 100000 ∧
  ∀ ys q H', ys.Perm xs → But p H H' → BoxAt H' p (c + xs.length) → H q = none → q ≠ p → H' q = some (.lst ys) → Q (.ref q) H'
section
variable {P : Program} {w : World} {K : PySem.W.Frag} {mg : Str → Option Value} {base : Heap} {f : Addr} {fd : FuncData}
theorem ok_mixed (F : Fd K "_law_mixed" sMixed f fd) (g : mg "_law_mixed" = some (.ref f)) (B : Bl mg) (o_law_take : Ok P w K mg base CX0 1 "_law_take" sTake ["box", "many"] spDraw1) : Ok P w K mg base CX0 2 "_law_mixed" sMixed ["box", "items"] spMixed := by
  refine ⟨f, fd, g, F, F.bindsN fun _ _ _ _ _ _ us hl => match us, hl with | [_, _], _ => rfl, F.ok scMixed (fun vs H Q E h => ?_) (fun cdv A outer s H vs Q E hr h => ?_)⟩
  · obtain ⟨p, l, c, xs, rfl, _⟩ := h
    rfl
  · have hu : (cxOf CX0 P w K mg base ["box", "items", "left", "found"] "_law_mixed" (defScope sMixed) f cdv A outer s H E).A.units + 64 < cLine := by
      have z := hr.un
      show (A.deeper _).units + 64 < cLine
      omega
    refine ⟨_, (pss_cons (ps_par (i := 2) (j := 3) rfl scMixed.nd rfl rfl (by decide) rfl rfl (pa_cons (pe_callTy call_list_of (by rfl) (B.u "list" (by decide +kernel)) (by decide +kernel) (pa_cons (pv 1) pa_nil)) (pa_cons (pe_lst pa_nil) pa_nil)) rfl)
      (pss_cons (ps_while (passes_of rfl) (pt_cmpR (op_neNil hu) (pv 2) (pe_lst pa_nil) (nomark _))
        (pss_one (ps_expr (pe_bm PySem.F.plainAttrs_list PySem.F.slot_list_append PySem.F.type_list_append mt_append (pv 3) (pa_cons (pe_bm PySem.F.plainAttrs_list PySem.F.slot_list_pop PySem.F.type_list_pop mt_popAt (pv 2) (pa_cons (pe_o o_law_take (hr.mono (by decide)) (by rfl) (pa_cons (pv 0) (pa_cons (pe_callB call_len (by rfl) (B.u "len" (by decide +kernel)) boot_len (pa_cons (pv 2) pa_nil)) pa_nil))) pa_nil)) pa_nil)))))
      (pss_one (ps_ret (pv 3))))), ?_⟩
    obtain ⟨p, l, c, xs, rfl, hp, hl, lx, hc, q⟩ := h
    obtain ⟨ob, hob⟩ := hp.some
    refine ⟨_, rfl, l, xs, rfl, .inl (SqL.of hl), fun po hpo => ⟨two_ln (by decide), fun pm hpm => ?_⟩⟩
    have n_po : p ≠ po := ne_of_none hob hpo
    have hob1 := upd_grow (o := .lst xs) hpo _ _ hob
    have n_pm : p ≠ pm := ne_of_none hob1 hpm
    have n_om : po ≠ pm := fun e => by rw [← e, upd_same] at hpm; cases hpm
    have f_pm : H pm = none := by rw [← upd_ne (o := HO.lst xs) (H := H) n_om.symm]; exact hpm
    refine ⟨_, _, rfl, ?_⟩
    dsimp only [gName, tSeq, gNil, L2.start]
    refine while_by (fun σ H' => ∃ os ms : List V, (ms ++ os).Perm xs ∧ H' po = some (.lst os) ∧ H' pm = some (.lst ms) ∧ BoxAt H' p (c + ms.length) ∧ But p H H' ∧
        σ = [some (.ref p), some (.ref l), some (.ref po), some (.ref pm)])
      (fun σ H' => match H' po with | some (.lst xs) => xs.length | _ => 0) ?_ ?_ ?_
    · refine ⟨xs, [], .refl _, by rw [upd_ne n_om, upd_same], upd_same, hp.eq (by rw [upd_ne n_pm, upd_ne n_po]), fun b o nb e => ?_, rfl⟩
      rw [upd_ne (ne_of_none e f_pm), upd_ne (ne_of_none e hpo)]
      exact e
    · rintro σ H2 ⟨os, ms, pr, h2, h3, hb2, k2, rfl⟩
      have lens : ms.length + os.length = xs.length := by
        have := pr.length_eq
        rwa [List.length_append] at this
      refine ⟨_, rfl, two_ln (by decide), fun pe hpe => ?_⟩
      have g2 : Same H2 (upd H2 pe (.lst [])) := upd_grow hpe
      have h2' := g2 _ _ h2
      have h3' := g2 _ _ h3
      refine ⟨po, pe, os, rfl, rfl, SqL.of h2', SqL.of upd_same, _, rfl, iteB (fun e => ?_) fun e => ?_⟩
      · have l0 : 0 < os.length := by
          cases os with
          | nil => cases e
          | cons _ _ => simp
        refine ⟨_, rfl, .inl ⟨rfl, _, SqL.of h3'⟩, _, rfl, .inl ⟨rfl, _, SqL.of h2'⟩, _, rfl, _, rfl, _, _, rfl, .inl ⟨_, SqL.of h2', rfl⟩, p, _, c + ms.length, rfl, hb2.same g2, by omega, by omega, by omega, fun d H4 d0 d1 k4 hb4 e4 => ?_⟩
        obtain ⟨dn, rfl⟩ : ∃ dn : Nat, d = dn := ⟨d.toNat, by omega⟩
        have dl : dn < os.length := by omega
        have h2'' := k4 _ _ n_po.symm h2'
        have h3'' := k4 _ _ n_pm.symm h3'
        refine ⟨po, os, (dn : Int), dn, os[dn], rfl, rfl, h2'', Int.le_trans (by decide : (-(2 ^ 63) : Int) ≤ 0) (Int.natCast_nonneg _), Int.lt_trans (show (dn : Int) < 71 by omega) (by decide), seqIx dl, List.getElem?_eq_getElem dl, pm, ms, _, rfl, rfl, ?_, lt_ln (by omega), ?_, ?_⟩
        · rw [upd_ne n_om.symm]; exact h3''
        · refine ⟨os.eraseIdx dn, ms ++ [os[dn]], ?_, ?_, by rw [upd_same], ?_, fun b o nb e => ?_, rfl⟩
          · rw [List.append_assoc]
            exact (List.Perm.append_left ms (erase_permV dl)).trans pr
          · rw [upd_ne n_om, upd_same]
          · refine BoxAt.up (BoxAt.eq hb4 ?_) (by simp; omega)
            rw [upd_ne n_pm, upd_ne n_po]
          · rw [upd_ne (ne_of_none e f_pm), upd_ne (ne_of_none e hpo)]
            exact k4 _ _ nb (g2 _ _ (k2 _ _ nb e))
        · show (match (upd (upd H4 po _) pm _) po with | some (HO.lst xs) => xs.length | _ => 0) < (match H2 po with | some (HO.lst xs) => xs.length | _ => 0)
          rw [upd_ne n_om, upd_same, h2]
          simp only [List.length_eraseIdx]
          split <;> omega
      · have os0 : os = [] := by
          cases os with
          | nil => rfl
          | cons _ _ => cases e
        subst os0
        rw [List.append_nil] at pr
        have e1 := pr.length_eq
        refine ⟨_, rfl, q ms pm _ pr (fun b o nb e => g2 _ _ (k2 _ _ nb e)) ((hb2.same g2).up (by omega)) f_pm n_pm.symm h3'⟩
    · rintro σ H1 Q1 Q2 h ⟨v, hv, hz⟩
      refine ⟨v, hv, hz.1, fun pe hpe => ?_⟩
      obtain ⟨a, b, xs, a1, a2, a3, a4, k, hk, q⟩ := hz.2 pe hpe
      exact ⟨a, b, xs, a1, a2, a3, a4, k, hk, h _ _ q⟩
end
end K10

/-! numbers as signs, there and back -/
namespace Tn
open PySem PySem.NumText TL
/-- the signs of a number -/
def dg (n : Nat) : List Nat := (Nat.toDigits 10 n).map Char.toNat
theorem dg_all (n : Nat) : AllDigits (dg n) := by
  intro c hc
  obtain ⟨ch, hch, e⟩ := List.mem_map.mp hc
  have r := PyProof.Rows.digit_range (Nat.isDigit_of_mem_toDigits (by decide) (by decide) hch)
  rw [← e]
  exact r
theorem dg_ne (n : Nat) : dg n ≠ [] := by
  intro e
  have h := PySem.toDigits_len_ge 10 n
  rw [List.map_eq_nil_iff.mp e] at h
  exact absurd h (by decide)
theorem dg_val (n : Nat) : digitsVal (dg n) = n := PySem.W.KIN.val_back n
/-- no zero ahead -/
def Canon (cs : List Nat) : Prop := cs = [48] ∨ cs.head? ≠ some 48
instance (cs : List Nat) : Decidable (Canon cs) := inferInstanceAs (Decidable (_ ∨ _))
theorem dg_small {n : Nat} (h : n < 10) : dg n = [48 + n] := by
  unfold dg
  rw [Nat.toDigits_of_lt_base h, digitChar_of n h]
  have : ∀ d : Nat, d < 10 → [(Char.ofNat (48 + d)).toNat] = [48 + d] := by decide
  exact this n h
theorem dg_step {n : Nat} (h : 10 ≤ n) : dg n = dg (n / 10) ++ dg (n % 10) := by
  have hm : n % 10 < 10 := Nat.mod_lt n (by decide)
  have t : Nat.toDigits 10 (n / 10) ++ Nat.toDigits 10 (n % 10) = Nat.toDigits 10 (10 * (n / 10) + n % 10) := Nat.toDigits_append_toDigits (by decide) (by omega) hm
  rw [Nat.div_add_mod] at t
  unfold dg
  rw [← t, List.map_append]
theorem dg_head (n : Nat) (h : 0 < n) : (dg n).head? ≠ some 48 := by
  induction n using Nat.strongRecOn with
  | _ n ih =>
    by_cases c : n < 10
    · rw [dg_small c]
      simp
      omega
    · rw [dg_step (by omega)]
      have i := ih (n / 10) (by omega) (by omega)
      cases e : dg (n / 10) with
      | nil => exact absurd e (dg_ne _)
      | cons a l => rw [e] at i; simpa using i
theorem dg_canon (n : Nat) : Canon (dg n) := by
  by_cases h : n = 0
  · subst h
    exact .inl (dg_small (by decide))
  · exact .inr (dg_head n (by omega))
theorem canon_dg {cs : List Nat} (h : AllDigits cs) (ne : cs ≠ []) (c : Canon cs) : dg (digitsVal cs) = cs := by
  have l : ∃ n, cs.length = n + 1 := ⟨cs.length - 1, by have := List.length_pos_iff.mpr ne; omega⟩
  obtain ⟨n, l⟩ := l
  have k := toDigits_digitsVal n cs l h ?_
  · unfold dg
    rw [k, List.map_map]
    conv => rhs; rw [← List.map_id cs]
    apply List.map_congr_left
    intro a ha
    have r := h a ha
    have : ∀ d : Nat, d < 58 → (Char.ofNat d).toNat = d := by decide
    exact this a (by omega)
  · rcases c with c | c
    · subst c
      left
      simpa using l.symm
    · right
      cases cs with
      | nil => exact absurd rfl ne
      | cons a r =>
        refine ⟨a, r, rfl, ?_⟩
        have := h.head
        have : a ≠ 48 := fun z => c (by rw [z]; rfl)
        omega
theorem dg_inj {a b : Nat} (h : dg a = dg b) : a = b := by
  rw [← dg_val a, ← dg_val b, h]
/-- a number's signs, each of it looked at -/
def isNum (cs : List Nat) : Bool := decide (cs ≠ []) && (cs.all (fun c => decide (48 ≤ c) && decide (c ≤ 57)) && decide (Canon cs))
theorem isNum_iff {cs : List Nat} : isNum cs = true ↔ ∃ n, cs = dg n := by
  unfold isNum
  simp only [Bool.and_eq_true, decide_eq_true_eq, List.all_eq_true]
  constructor
  · rintro ⟨h1, h2, h3⟩
    exact ⟨digitsVal cs, (canon_dg (fun c hc => h2 c hc) h1 h3).symm⟩
  · rintro ⟨n, rfl⟩
    exact ⟨dg_ne n, dg_all n, dg_canon n⟩
theorem dg_len {n : Nat} (h : n < 100) : (dg n).length ≤ 2 := by
  have : ∀ n : Nat, n < 100 → (dg n).length ≤ 2 := by decide +kernel
  exact this n h
theorem dg_two {n : Nat} (h : (dg n).length ≤ 2) : n < 100 := by
  by_cases c : n < 100
  · exact c
  · have e := dg_step (n := n) (by omega)
    have e2 := dg_step (n := n / 10) (by omega)
    have l0 : ∀ m, 1 ≤ (dg m).length := fun m => List.length_pos_iff.mpr (dg_ne m)
    rw [e, e2, List.length_append, List.length_append] at h
    have := l0 (n / 10 / 10)
    have := l0 (n / 10 % 10)
    have := l0 (n % 10)
    omega
theorem dg_free {n k : Nat} (h : k < 48 ∨ 57 < k) : k ∉ dg n := fun m => by
  have := dg_all n k m
  omega
/-- the text of a number -/
theorem num_tl (n : Nat) : tl (Str.ofString (toString ((n : Nat) : Int))) = dg n := PySem.W.KIN.signs_num n
theorem int_num {x : Str} {n : Nat} (h : tl x = dg n) (l : x.length ≤ 640) : PySem.intText? x = some (n : Int) := by
  have a : AllDigits x.cps.toList := by
    show AllDigits (tl x)
    rw [h]
    exact dg_all n
  have ne : x.cps.toList ≠ [] := by
    show tl x ≠ []
    rw [h]
    exact dg_ne n
  rw [intText_digits a ne (by omega)]
  show some ((digitsVal (tl x) : Nat) : Int) = _
  rw [h, dg_val]
/-! ### one separator -/
theorem pre_one (s c : Nat) (r : List Nat) : pre [s] (c :: r) = decide (c = s) := by
  show ([c] == [s]) = _
  by_cases h : c = s
  · subst h; simp
  · rw [decide_eq_false h]
    simp [h]
theorem joinL_cons {S p : List Nat} {l : List (List Nat)} (h : l ≠ []) : joinL S (p :: l) = p ++ (S ++ joinL S l) := by
  cases l with
  | nil => exact absurd rfl h
  | cons q r => rfl
theorem spl_ne (s : Nat) : ∀ (acc l : List Nat), spl [s] 0 acc l ≠ []
  | acc, [] => by rw [spl_nil]; simp
  | acc, c :: r => by
    by_cases h : c = s
    · rw [spl_hit (by rw [pre_one]; exact decide_eq_true h)]
      simp
    · rw [spl_miss (by rw [pre_one]; exact decide_eq_false h)]
      exact spl_ne s _ r
theorem join_spl (s : Nat) : ∀ (acc l : List Nat), joinL [s] (spl [s] 0 acc l) = acc ++ l
  | acc, [] => by rw [spl_nil, List.append_nil]; rfl
  | acc, c :: r => by
    by_cases h : c = s
    · rw [spl_hit (by rw [pre_one]; exact decide_eq_true h)]
      show joinL [s] (acc :: spl [s] 0 [] r) = _
      rw [joinL_cons (spl_ne s _ _), join_spl s [] r, h]
      rfl
    · rw [spl_miss (by rw [pre_one]; exact decide_eq_false h), join_spl s _ r, List.append_assoc]
      rfl
theorem spl_free (s : Nat) : ∀ (acc l : List Nat), s ∉ acc → ∀ p ∈ spl [s] 0 acc l, s ∉ p
  | acc, [], h, p, hp => by
    rw [spl_nil, List.mem_singleton] at hp
    rw [hp]
    exact h
  | acc, c :: r, h, p, hp => by
    by_cases e : c = s
    · rw [spl_hit (by rw [pre_one]; exact decide_eq_true e)] at hp
      rcases List.mem_cons.mp hp with rfl | hp
      · exact h
      · exact spl_free s [] r (by simp) p hp
    · rw [spl_miss (by rw [pre_one]; exact decide_eq_false e)] at hp
      refine spl_free s _ r (fun m => ?_) p hp
      rcases List.mem_append.mp m with m | m
      · exact h m
      · exact e (List.mem_singleton.mp m).symm
/-- a text's words, by the sign s -/
abbrev parts (s : Nat) (l : List Nat) : List (List Nat) := spl [s] 0 [] l
theorem join_parts (s : Nat) (l : List Nat) : joinL [s] (parts s l) = l := by
  rw [join_spl, List.nil_append]
theorem parts_join {s : Nat} {ps : List (List Nat)} (h : ps ≠ []) (f : ∀ p ∈ ps, s ∉ p) : parts s (joinL [s] ps) = ps := spl_join h f
theorem parts_len (s : Nat) : ∀ (acc l : List Nat), ∀ p ∈ spl [s] 0 acc l, p.length ≤ acc.length + l.length
  | acc, [], p, hp => by
    rw [spl_nil, List.mem_singleton] at hp
    rw [hp]
    simp
  | acc, c :: r, p, hp => by
    by_cases e : c = s
    · rw [spl_hit (by rw [pre_one]; exact decide_eq_true e)] at hp
      rcases List.mem_cons.mp hp with rfl | hp
      · omega
      · have := parts_len s [] r p hp
        simp only [List.length_cons, List.length_nil] at this ⊢
        omega
    · rw [spl_miss (by rw [pre_one]; exact decide_eq_false e)] at hp
      have := parts_len s _ r p hp
      simp only [List.length_append, List.length_cons, List.length_nil] at this ⊢
      omega
theorem parts_many (s : Nat) : ∀ (acc l : List Nat), (spl [s] 0 acc l).length ≤ l.length + 1
  | acc, [] => by rw [spl_nil]; simp
  | acc, c :: r => by
    by_cases e : c = s
    · rw [spl_hit (by rw [pre_one]; exact decide_eq_true e)]
      have := parts_many s [] r
      show (acc :: spl [s] 0 [] r).length ≤ _
      simp only [List.length_cons] at this ⊢
      omega
    · rw [spl_miss (by rw [pre_one]; exact decide_eq_false e)]
      have := parts_many s (acc ++ [c]) r
      simp only [List.length_cons] at this ⊢
      omega
/-- two parts -/
theorem par_some {s : Nat} : ∀ (acc : List Nat) {l a b : List Nat}, s ∉ acc → par [s] acc l = some (a, b) → acc ++ l = a ++ s :: b ∧ s ∉ a
  | acc, [], a, b, _, h => by cases h
  | acc, c :: r, a, b, n, h => by
    by_cases e : c = s
    · rw [par_hit (by rw [pre_one]; exact decide_eq_true e)] at h
      cases h
      subst e
      exact ⟨rfl, n⟩
    · rw [par_miss (by rw [pre_one]; exact decide_eq_false e)] at h
      obtain ⟨h1, h2⟩ := par_some (acc ++ [c]) (l := r) (fun m => by
        rcases List.mem_append.mp m with m | m
        · exact n m
        · exact e (List.mem_singleton.mp m).symm) h
      refine ⟨?_, h2⟩
      rw [← h1, List.append_assoc]
      rfl
theorem par_of {s : Nat} {a b : List Nat} (n : s ∉ a) : par [s] [] (a ++ s :: b) = some (a, b) := by
  have := par_part1 (S := []) (rest := b) (acc := []) n
  simpa using this
theorem par_non {s : Nat} : ∀ (acc : List Nat) {l : List Nat}, par [s] acc l = none → s ∉ l
  | acc, [], _ => by simp
  | acc, c :: r, h => by
    by_cases e : c = s
    · rw [par_hit (by rw [pre_one]; exact decide_eq_true e)] at h
      cases h
    · rw [par_miss (by rw [pre_one]; exact decide_eq_false e)] at h
      intro m
      rcases List.mem_cons.mp m with m | m
      · exact e m.symm
      · exact par_non _ h m
end Tn

namespace Tm
/-! ways in a tree, from any house -/
theorem Up.head {b : B} {s x : Nat} {l : List Nat} (u : Up b s x l) : l.head? = some x := by cases u <;> rfl
/-- step by step -/
theorem Up.get {b : B} {s x : Nat} {l : List Nat} (u : Up b s x l) : ∀ i (h : i < l.length), (i + 1 < l.length → ∃ h2 : i + 1 < l.length, (l[i], l[i + 1]) ∈ b ∧ l[i] ≠ s) ∧ (i + 1 = l.length → l[i] = s) := by
  induction u with
  | here =>
    intro i h
    simp only [List.length_cons, List.length_nil] at h
    have : i = 0 := by omega
    subst this
    exact ⟨fun z => by simp at z, fun _ => rfl⟩
  | @step x p l ne m u ih =>
    intro i h
    cases i with
    | zero =>
      cases u with
      | here => exact ⟨fun z => ⟨z, m, ne⟩, fun z => by simp at z⟩
      | step a c d => exact ⟨fun z => ⟨z, m, ne⟩, fun z => by simp at z⟩
    | succ i =>
      have h' : i < l.length := by simpa using h
      obtain ⟨h1, h2⟩ := ih i h'
      refine ⟨fun z => ?_, fun z => ?_⟩
      · have z' : i + 1 < l.length := by simpa using z
        obtain ⟨z2, e1, e2⟩ := h1 z'
        exact ⟨z, e1, e2⟩
      · have z' : i + 1 = l.length := by simpa using z
        exact h2 z'
/-- from any house all others are reached -/
theorem joined_from {n : Nat} {rs : List Road} (ok : RoadsOk n rs) (j : Joined n rs) {s : Nat} (hs : s < n) {r : B} (d : Dfs (near rs) none [(s, s)] [s] r) : ∀ x, x < n → x ∈ keys r := by
  obtain ⟨b, d0, e⟩ := j
  have G0 := d0.going .start
  have G := d.going .start
  have ne : ∀ r ∈ rs, r.1 < r.2 := fun r hr => (ok.bnd r hr).1
  have lt : ∀ h, ∀ x ∈ near rs h, x < n := fun h x hx => (near_lt ok.bnd hx).1
  have n0 : 0 < n := by omega
  have cl : ∀ x y, x ∈ keys r → y ∈ near rs x → y ∈ keys r := fun x y hx hy => G.c x hx (fun z => nomatch z) y hy (fun z => nomatch z)
  have key : ∀ b : B, Grown (near rs) none 0 b → ∀ x ∈ keys b, (x ∈ keys r ↔ 0 ∈ keys r) := by
    intro b g
    induction g with
    | base =>
      intro x hx
      simp [keys] at hx
      rw [hx]
    | @grow b x p g hp hx nb nk ih =>
      intro y hy
      rw [keys_snoc] at hy
      rcases List.mem_append.mp hy with hy | hy
      · exact ih y hy
      · simp at hy
        subst hy
        rw [← ih p hp]
        exact ⟨fun z => cl _ _ z (near_sym ne hx), fun z => cl _ _ z hx⟩
  have all := all_keys G0.g.nodup (G0.g.bound n0 lt) (by simpa [keys] using e)
  intro x hx
  rw [key b G0.g x (all x hx), ← key b G0.g s (all s hs)]
  exact G.g.start
/-- l is the way from a to b -/
def Way (rs : List Road) (a b : Nat) (l : List Nat) : Prop := ∃ r, Dfs (near rs) none [(b, b)] [b] r ∧ Up r b a l
theorem Way.det {rs : List Road} {a b : Nat} {l l' : List Nat} (h : Way rs a b l) (k : Way rs a b l') : l = l' := by
  obtain ⟨r, d, u⟩ := h
  obtain ⟨r', d', u'⟩ := k
  have := d.det d'
  subst this
  exact u.det (d.going .start).g.nodup u'
theorem way_path {n : Nat} {rs : List Road} {a b : Nat} {l : List Nat} (ok : RoadsOk n rs) (j : Joined n rs) (ha : a < n) (hb : b < n) (h : Way rs a b l) : Path (near rs) a b l ∧ ∀ x ∈ l, x < n := by
  obtain ⟨r, d, u⟩ := h
  have G := d.going .start
  have lt : ∀ h, ∀ x ∈ near rs h, x < n := fun h x hx => (near_lt ok.bnd hx).1
  obtain ⟨l', u', p, sub⟩ := G.g.up a (joined_from ok j hb d a ha)
  have := u.det G.g.nodup u'
  subst this
  exact ⟨p, fun x hx => G.g.bound hb lt x (sub x hx)⟩
theorem way_ex {n : Nat} {rs : List Road} {a b : Nat} (ok : RoadsOk n rs) (j : Joined n rs) (ha : a < n) (hb : b < n) : ∃ l, Way rs a b l := by
  have lt : ∀ h, ∀ x ∈ near rs h, x < n := fun h x hx => (near_lt ok.bnd hx).1
  obtain ⟨r, d, G⟩ := dfs_all (nr := near rs) (bar := none) hb lt
  obtain ⟨l, u, _⟩ := G.g.up a (joined_from ok j hb d a ha)
  exact ⟨l, r, d, u⟩
/-- the foot of c on the way from a to b -/
theorem way_foot {n : Nat} {rs : List Road} {a b c : Nat} {L M1 M2 : List Nat} (ok : RoadsOk n rs) (j : Joined n rs) (ha : a < n) (hb : b < n) (hc : c < n) (h : Way rs a b L) (h1 : Way rs c a M1) (h2 : Way rs c b M2) :
    ∃ m, (M1.filter fun h => decide (h ∈ L)).head? = some m ∧ (L.filter fun h => decide (h ∈ M1) && decide (h ∈ M2)).head? = some m ∧ m ∈ L := by
  obtain ⟨b0, R⟩ := rooted ok j
  exact foot_eq R hb hc (way_path ok j ha hb h).1 (way_path ok j hc ha h1).1 (way_path ok j hc hb h2).1
/-- sorted lists with the same items are equal -/
theorem sort_one : ∀ {l l' : List Int}, l.Perm l' → l.Pairwise (· ≤ ·) → l'.Pairwise (· ≤ ·) → l = l'
  | [], l', p, _, _ => by rw [List.nil_perm.mp p]
  | a :: l, [], p, _, _ => by have := p.length_eq; simp at this
  | a :: l, b :: l', p, h, h' => by
    have h1 := List.pairwise_cons.mp h
    have h2 := List.pairwise_cons.mp h'
    have e : a = b := by
      have m1 : a ∈ b :: l' := p.mem_iff.mp List.mem_cons_self
      have m2 : b ∈ a :: l := p.mem_iff.mpr List.mem_cons_self
      have l1 : b ≤ a := by
        rcases List.mem_cons.mp m1 with z | z
        · omega
        · exact h2.1 a z
      have l2 : a ≤ b := by
        rcases List.mem_cons.mp m2 with z | z
        · omega
        · exact h1.1 b z
      omega
    subst e
    rw [sort_one (List.perm_cons a |>.mp p) h1.2 h2.2]
end Tm

/-! trees as lines of signs -/
namespace Tn
open PySem PySem.NumText TL
def wordL (r : Tm.Road) : List Nat := dg r.1 ++ 45 :: dg r.2
def headL (n : Nat) : List Nat := dg n ++ [58]
def lineL (n : Nat) (rs : List Tm.Road) : List Nat := joinL [32] (headL n :: rs.map wordL)
/-- z is the line of the tree n, rs -/
structure Reads (z : List Nat) (n : Nat) (rs : List Tm.Road) : Prop where
  eq : z = lineL n rs
  ge : 1 ≤ n
  le : n ≤ 64
  ok : Tm.RoadsOk n rs
  jo : Tm.Joined n rs
theorem word_free (r : Tm.Road) : 32 ∉ wordL r := fun m => by
  unfold wordL at m
  rcases List.mem_append.mp m with m | m
  · exact dg_free (.inl (by decide)) m
  · rcases List.mem_cons.mp m with m | m
    · cases m
    · exact dg_free (.inl (by decide)) m
theorem head_free (n : Nat) : 32 ∉ headL n := fun m => by
  unfold headL at m
  rcases List.mem_append.mp m with m | m
  · exact dg_free (.inl (by decide)) m
  · simp at m
theorem parts_line (n : Nat) (rs : List Tm.Road) : parts 32 (lineL n rs) = headL n :: rs.map wordL := by
  refine parts_join (by simp) fun p hp => ?_
  rcases List.mem_cons.mp hp with rfl | hp
  · exact head_free n
  · obtain ⟨r, _, rfl⟩ := List.mem_map.mp hp
    exact word_free r
theorem app_one {a b c d : List Nat} {s : Nat} (h : a ++ s :: b = c ++ s :: d) (na : s ∉ a) (nc : s ∉ c) : a = c ∧ b = d := by
  have h1 := par_of (b := b) na
  rw [h, par_of nc] at h1
  have := Option.some.inj h1
  exact ⟨(Prod.mk.inj this).1.symm, (Prod.mk.inj this).2.symm⟩
theorem dash_free (n : Nat) : 45 ∉ dg n := dg_free (.inl (by decide))
theorem word_inj {r q : Tm.Road} (h : wordL r = wordL q) : r = q := by
  obtain ⟨h1, h2⟩ := app_one h (dash_free _) (dash_free _)
  exact Prod.ext (dg_inj h1) (dg_inj h2)
theorem head_inj {n m : Nat} (h : headL n = headL m) : n = m := by
  unfold headL at h
  exact dg_inj (List.append_cancel_right h)
theorem map_word_inj : ∀ {rs qs : List Tm.Road}, rs.map wordL = qs.map wordL → rs = qs
  | [], [], _ => rfl
  | [], _ :: _, h => by simp at h
  | _ :: _, [], h => by simp at h
  | a :: rs, b :: qs, h => by
    rw [List.map_cons, List.map_cons] at h
    injection h with h1 h2
    rw [word_inj h1, map_word_inj h2]
theorem line_inj {n m : Nat} {rs qs : List Tm.Road} (h : lineL n rs = lineL m qs) : n = m ∧ rs = qs := by
  have e := congrArg (parts 32) h
  rw [parts_line, parts_line] at e
  injection e with h1 h2
  exact ⟨head_inj h1, map_word_inj h2⟩
theorem Reads.inj {z : List Nat} {n m : Nat} {rs qs : List Tm.Road} (h : Reads z n rs) (k : Reads z m qs) : n = m ∧ rs = qs := line_inj (h.eq.symm.trans k.eq)
theorem parts_word (r : Tm.Road) : parts 45 (wordL r) = [dg r.1, dg r.2] := by
  have e : wordL r = joinL [45] [dg r.1, dg r.2] := rfl
  rw [e]
  refine parts_join (by simp) fun p hp => ?_
  simp only [List.mem_cons, List.not_mem_nil, or_false] at hp
  rcases hp with rfl | rfl <;> exact dash_free _
theorem word_of {w a b : List Nat} (h : parts 45 w = [a, b]) : w = a ++ 45 :: b := by
  rw [← join_parts 45 w, h]
  rfl
theorem par_word (r : Tm.Road) : par [45] [] (wordL r) = some (dg r.1, dg r.2) := par_of (dash_free _)
/-- z's words are those of a line -/
theorem line_of {z : List Nat} {n : Nat} {rs : List Tm.Road} (h : parts 32 z = headL n :: rs.map wordL) : z = lineL n rs := by
  rw [← join_parts 32 z, h]
  rfl
theorem joinL_flat (s : Nat) : ∀ (p : List Nat) (ps : List (List Nat)), joinL [s] (p :: ps) = p ++ (ps.map (s :: ·)).flatten
  | p, [] => by simp [joinL]
  | p, q :: ps => by
    rw [joinL_cons (by simp), joinL_flat s q ps]
    simp
theorem joinL_nil : ∀ (ps : List (List Nat)), joinL [] ps = ps.flatten
  | [] => rfl
  | [p] => by simp [joinL]
  | p :: q :: r => by
    rw [joinL_cons (by simp), joinL_nil (q :: r)]
    simp
theorem line_flat (n : Nat) (rs : List Tm.Road) : lineL n rs = headL n ++ (rs.map fun r => 32 :: wordL r).flatten := by
  unfold lineL
  rw [joinL_flat, List.map_map]
  rfl
theorem word_len {r : Tm.Road} (h1 : r.1 < 100) (h2 : r.2 < 100) : (wordL r).length ≤ 5 := by
  have := dg_len h1
  have := dg_len h2
  unfold wordL
  rw [List.length_append, List.length_cons]
  omega
theorem head_len {n : Nat} (h : n < 100) : (headL n).length ≤ 3 := by
  have := dg_len h
  unfold headL
  rw [List.length_append]
  simp only [List.length_cons, List.length_nil]
  omega
theorem flat_len : ∀ {rs : List Tm.Road}, (∀ r ∈ rs, r.1 < 100 ∧ r.2 < 100) → ((rs.map fun r => 32 :: wordL r).flatten).length ≤ 6 * rs.length
  | [], _ => by simp
  | r :: rs, h => by
    have h1 := h r List.mem_cons_self
    have := word_len h1.1 h1.2
    have := flat_len (rs := rs) fun q hq => h q (List.mem_cons_of_mem _ hq)
    simp only [List.map_cons, List.flatten_cons, List.length_append, List.length_cons] at this ⊢
    omega
theorem line_len {n : Nat} {rs : List Tm.Road} (h : n < 100) (b : ∀ r ∈ rs, r.1 < 100 ∧ r.2 < 100) : (lineL n rs).length ≤ 3 + 6 * rs.length := by
  rw [line_flat, List.length_append]
  have := head_len h
  have := flat_len b
  omega
/-! ### joined, by lots that are drawn together -/
def mrg (lot : List Nat) (r : Tm.Road) : List Nat := lot.map fun one => if one = lot.getD r.1 0 then lot.getD r.2 0 else one
def lots (n : Nat) (rs : List Tm.Road) : List Nat := rs.foldl mrg (List.range n)
theorem mrg_len (lot : List Nat) (r : Tm.Road) : (mrg lot r).length = lot.length := List.length_map _
theorem mrg_get {lot : List Nat} {r : Tm.Road} {a : Nat} (h : a < lot.length) : (mrg lot r).getD a 0 = if lot.getD a 0 = lot.getD r.1 0 then lot.getD r.2 0 else lot.getD a 0 := by
  unfold mrg
  rw [List.getD_eq_getElem?_getD, List.getElem?_map, List.getElem?_eq_getElem h]
  have e : lot.getD a 0 = lot[a] := by rw [List.getD_eq_getElem?_getD, List.getElem?_eq_getElem h]; rfl
  rw [e]
  rfl
theorem lots_snoc (n : Nat) (rs : List Tm.Road) (r : Tm.Road) : lots n (rs ++ [r]) = mrg (lots n rs) r := by
  unfold lots
  rw [List.foldl_append]
  rfl
theorem fold_len : ∀ (rs : List Tm.Road) (lot : List Nat), (rs.foldl mrg lot).length = lot.length
  | [], _ => rfl
  | r :: rs, lot => by
    rw [List.foldl_cons, fold_len rs, mrg_len]
theorem lots_len (n : Nat) (rs : List Tm.Road) : (lots n rs).length = n := by
  unfold lots
  rw [fold_len, List.length_range]
theorem fold_keep {a b : Nat} : ∀ (rs : List Tm.Road) (lot : List Nat), a < lot.length → b < lot.length → lot.getD a 0 = lot.getD b 0 → (rs.foldl mrg lot).getD a 0 = (rs.foldl mrg lot).getD b 0
  | [], _, _, _, h => h
  | r :: rs, lot, ha, hb, h => by
    rw [List.foldl_cons]
    refine fold_keep rs _ (by rw [mrg_len]; exact ha) (by rw [mrg_len]; exact hb) ?_
    rw [mrg_get ha, mrg_get hb, h]
theorem fold_road {u v : Nat} : ∀ (rs : List Tm.Road) (lot : List Nat), u < lot.length → v < lot.length → (u, v) ∈ rs → (rs.foldl mrg lot).getD u 0 = (rs.foldl mrg lot).getD v 0
  | r :: rs, lot, ha, hb, h => by
    rw [List.foldl_cons]
    rcases List.mem_cons.mp h with rfl | h
    · refine fold_keep rs _ (by rw [mrg_len]; exact ha) (by rw [mrg_len]; exact hb) ?_
      rw [mrg_get ha, mrg_get hb, if_pos rfl]
      simp only
      split <;> rfl
    · exact fold_road rs _ (by rw [mrg_len]; exact ha) (by rw [mrg_len]; exact hb) h
theorem fold_sound {n : Nat} {S : List Nat} : ∀ (rs : List Tm.Road) (lot : List Nat), lot.length = n → (∀ r ∈ rs, r.1 < n ∧ r.2 < n ∧ (r.1 ∈ S ↔ r.2 ∈ S)) → (∀ a b, a < n → b < n → lot.getD a 0 = lot.getD b 0 → (a ∈ S ↔ b ∈ S)) →
    ∀ a b, a < n → b < n → (rs.foldl mrg lot).getD a 0 = (rs.foldl mrg lot).getD b 0 → (a ∈ S ↔ b ∈ S)
  | [], _, _, _, h => h
  | r :: rs, lot, hl, hr, h => by
    rw [List.foldl_cons]
    have ⟨r1, r2, r3⟩ := hr r List.mem_cons_self
    refine fold_sound rs _ (by rw [mrg_len]; exact hl) (fun q hq => hr q (List.mem_cons_of_mem _ hq)) fun a b ha hb e => ?_
    rw [mrg_get (by omega), mrg_get (by omega)] at e
    by_cases c1 : lot.getD a 0 = lot.getD r.1 0
    · by_cases c2 : lot.getD b 0 = lot.getD r.1 0
      · exact h a b ha hb (c1.trans c2.symm)
      · rw [if_pos c1, if_neg c2] at e
        exact (h a r.1 ha r1 c1).trans (r3.trans (h r.2 b r2 hb e))
    · by_cases c2 : lot.getD b 0 = lot.getD r.1 0
      · rw [if_neg c1, if_pos c2] at e
        exact (h a r.2 ha r2 e).trans (r3.symm.trans (h b r.1 hb r1 c2).symm)
      · rw [if_neg c1, if_neg c2] at e
        exact h a b ha hb e
theorem joined_iff {n : Nat} {rs : List Tm.Road} (ok : Tm.RoadsOk n rs) : Tm.Joined n rs ↔ ∀ a, a < n → (lots n rs).getD a 0 = (lots n rs).getD 0 0 := by
  have n0 : 0 < n := by have := ok.len; omega
  have lt : ∀ h, ∀ x ∈ Tm.near rs h, x < n := fun h x hx => (Tm.near_lt ok.bnd hx).1
  have ne : ∀ r ∈ rs, r.1 < r.2 := fun r hr => (ok.bnd r hr).1
  have rl : (List.range n).length = n := List.length_range
  constructor
  · rintro ⟨b, hd, hb⟩ a ha
    have G := hd.going (s := 0) .start
    have key : ∀ x ∈ Tm.keys b, (lots n rs).getD x 0 = (lots n rs).getD 0 0 := by
      have gr := G.g
      generalize b = b' at gr
      induction gr with
      | base =>
        intro x hx
        simp [Tm.keys] at hx
        rw [hx]
      | @grow b x p g hp hx _ _ ih =>
        intro y hy
        rw [Tm.keys_snoc] at hy
        rcases List.mem_append.mp hy with hy | hy
        · exact ih y hy
        · rw [List.mem_singleton.mp hy, ← ih p hp]
          have := (Tm.near_lt ok.bnd hx)
          rcases Tm.mem_near hx with m | m
          · exact (fold_road rs _ (by rw [rl]; omega) (by rw [rl]; omega) m).symm
          · exact fold_road rs _ (by rw [rl]; omega) (by rw [rl]; omega) m
    exact key a (Tm.joined_from ok ⟨b, hd, hb⟩ n0 hd a ha)
  · intro h
    obtain ⟨b, hd, G⟩ := Tm.dfs_all (nr := Tm.near rs) (bar := none) n0 lt
    refine ⟨b, hd, ?_⟩
    have cl : ∀ {x y : Nat}, x ∈ Tm.keys b → y ∈ Tm.near rs x → y ∈ Tm.keys b := fun {x y} hx hy => G.c x hx (by simp) y hy (by simp)
    have snd := fold_sound (n := n) (S := Tm.keys b) rs (List.range n) rl (fun r hr => by
      have bd := ok.bnd r hr
      refine ⟨by omega, bd.2, fun m => cl m (Tm.near_of ne (.inl hr)), fun m => cl m (Tm.near_of ne (.inr hr))⟩) (fun a c ha hc e => by
      have g : ∀ a, a < n → (List.range n).getD a 0 = a := fun a ha => by
        rw [List.getD_eq_getElem?_getD, List.getElem?_eq_getElem (by rw [rl]; exact ha)]
        simp
      rw [g a ha, g c hc] at e
      rw [e])
    have all : ∀ a, a < n → a ∈ Tm.keys b := fun a ha => (snd a 0 ha n0 (h a ha)).mpr G.g.start
    have up := G.room n0 lt
    have dn : n ≤ b.length := by
      have c2 : ∀ (l m : List Nat), l.Nodup → (∀ x ∈ l, x ∈ m) → l.length ≤ m.length := by
        intro l
        induction l with
        | nil => intro m _ _; exact Nat.zero_le _
        | cons a l ih =>
          intro m d s
          have d' := List.nodup_cons.mp d
          have ha := s a List.mem_cons_self
          have l1 := List.length_erase_of_mem ha
          have l2 := List.length_pos_of_mem ha
          have i := ih (m.erase a) d'.2 fun y hy => (List.mem_erase_of_ne fun q => d'.1 (by rw [← q]; exact hy)).mpr (s y (List.mem_cons_of_mem _ hy))
          rw [List.length_cons]
          omega
      have := c2 (List.range n) (Tm.keys b) List.nodup_range fun x hx => all x (List.mem_range.mp hx)
      rw [rl] at this
      simpa [Tm.keys] using this
    omega
end Tn

/-! more comprehensions; small words -/
namespace L2
open PySem PySem.Spec PyProof.Rows
/-- .. the new list told: over what is walked, its test p, its items as R tells; the new list at D is no part of what R speaks of -/
theorem lc_genL {J : It} {n : Nat} {G : Hp → Prop} {Y : Nat → Hp → V → Hp → Prop} (w : Walk J n G Y) {g : TG} {tt : TT} {te : TE} {vs : List Nat} {σ : St} {H : Hp} {D : Addr} {Qd : Hp → Prop} (p : Nat → Bool) (R : Nat → V → Hp → Prop)
    (Rm : ∀ i y H1 H2, Same H1 H2 → R i y H1 → R i y H2) (hD : H D = none) (hn : n ≤ 16777215) (hG : ∀ H', Same H (del H' D) → G H')
    (he : ∀ i x H1 H2 (K : V → Hp → Prop) (N : Hp → Prop), i < n → Same H (del H1 D) → (∃ zs, H1 D = some (.lst zs)) → Y i H1 x H2 → (p i = true → ∀ y H4, Same H1 H4 → R i y (del H4 D) → K y H4) → (p i = false → ∀ H4, Same H1 H4 → N H4) →
      g x (wipe σ vs) H2 fun σ2 H2' => wipe σ2 vs = wipe σ vs ∧ tt σ2 H2' fun b H3 => if b = true then te σ2 H3 K else N H3)
    (q : ∀ (ys : List V) (H' : Hp), Same H (del H' D) → H' D = some (.lst ys) → ys.length = ((List.range n).filter p).length → (∀ (k i : Nat) (y : V), ((List.range n).filter p)[k]? = some i → ys[k]? = some y → R i y (del H' D)) → Qd H') :
    ∃ W : Nat → Nat → Hp → Prop, (∃ m, W 0 m (upd H D (.lst []))) ∧ ∀ i m H, W i m H →
      (J.stop i H ∧ Qd H) ∨ (J.go i H ∧ ∃ Nx : Hp → Prop, (∀ H', Nx H' → ∃ m', m' < m ∧ W (i + 1) m' H') ∧ ∀ x H', J.yld i H x H' → g x (wipe σ vs) H' fun σ2 H2 => wipe σ2 vs = wipe σ vs ∧ tt σ2 H2 fun b H3 =>
        if b = true then te σ2 H3 fun y H4 => ∃ acc, H4 D = some (.lst acc) ∧ acc.length < sizeLine ∧ Nx (upd H4 D (.lst (acc ++ [y]))) else Nx H3) := by
  have step : ∀ i, (List.range (i + 1)).filter p = (List.range i).filter p ++ (if p i = true then [i] else []) := fun i => by
    rw [List.range_succ, List.filter_append]
    by_cases e : p i = true
    · rw [if_pos e, List.filter_cons_of_pos e] <;> rfl
    · rw [if_neg e, List.filter_cons_of_neg e] <;> rfl
  refine lc_it w (fun i H' => Same H (del H' D) ∧ ∃ ys, H' D = some (.lst ys) ∧ ys.length = ((List.range i).filter p).length ∧ ∀ (k j : Nat) (y : V), ((List.range i).filter p)[k]? = some j → ys[k]? = some y → R j y (del H' D)) ?_ (fun i H' _ h => hG H' h.1) ?_ ?_
  · refine ⟨fun b o e => ?_, [], upd_same, rfl, fun k j y h => by simp at h⟩
    rw [del_ne (ne_of_none e hD), upd_ne (ne_of_none e hD)]
    exact e
  · rintro i x H1 H2 hi ⟨k1, ys, h1, l1, r1⟩ hy
    have bound : ((List.range i).filter p).length ≤ i := by
      have := List.length_filter_le p (List.range i)
      rwa [List.length_range] at this
    refine he i x H1 H2 _ _ hi k1 ⟨_, h1⟩ hy (fun e y H4 k4 r4 => ?_) (fun e H4 k4 => ?_)
    · refine ⟨ys, k4 _ _ h1, by rw [l1]; exact lt_ln (by omega), (fun b o z => ?_), _, upd_same, ?_, ?_⟩
      · have z1 := k1 b o z
        have nb : b ≠ D := ne_of_none z hD
        rw [del_ne nb] at z1 ⊢
        rw [upd_ne nb]
        exact k4 _ _ z1
      · rw [step, if_pos e, List.length_append, List.length_append, l1] <;> rfl
      · intro k j y2 hk hy2
        have dd : del (upd H4 D (.lst (ys ++ [y]))) D = del H4 D := by
          funext b
          by_cases nb : b = D
          · rw [nb, del_same, del_same]
          · rw [del_ne nb, del_ne nb, upd_ne nb]
        rw [dd]
        rw [step, if_pos e] at hk
        by_cases c : k < ys.length
        · rw [List.getElem?_append_left (by omega)] at hk
          rw [List.getElem?_append_left c] at hy2
          exact Rm _ _ _ _ (del_mono k4) (r1 k j y2 hk hy2)
        · have lt := (List.getElem?_eq_some_iff.mp hy2).1
          rw [List.length_append] at lt
          have ek : k = ys.length := by
            have : ([y] : List V).length = 1 := rfl
            omega
          subst ek
          rw [List.getElem?_append_right (by omega)] at hk
          rw [List.getElem?_append_right (Nat.le_refl _)] at hy2
          rw [← l1, Nat.sub_self] at hk
          rw [Nat.sub_self] at hy2
          obtain rfl : i = j := by simpa using hk
          obtain rfl : y = y2 := by simpa using hy2
          exact r4
    · refine ⟨(fun b o z => ?_), ys, k4 _ _ h1, ?_, ?_⟩
      · have z1 := k1 b o z
        have nb : b ≠ D := ne_of_none z hD
        rw [del_ne nb] at z1 ⊢
        exact k4 _ _ z1
      · rw [step, if_neg (by rw [e]; exact Bool.false_ne_true), List.append_nil, l1]
      · intro k j y2 hk hy2
        rw [step, if_neg (by rw [e]; exact Bool.false_ne_true), List.append_nil] at hk
        exact Rm _ _ _ _ (del_mono k4) (r1 k j y2 hk hy2)
  · rintro H1 ⟨k1, ys, h1, l1, r1⟩
    exact q ys H1 k1 h1 l1 r1
theorem lc_genBL {J : It} {n : Nat} {G : Hp → Prop} {Y : Nat → Hp → V → Hp → Prop} (w : Walk J n G Y) {g : TG} {tt : TT} {te : TE} {vs : List Nat} {σ : St} {H : Hp} {p D : Addr} {o : HO} {Qd : Hp → Prop} (S : Nat → Hp → Prop) (R : Nat → V → Hp → Prop)
    (Rm : ∀ i y H1 H2, Same H1 H2 → R i y H1 → R i y H2) (Sm : ∀ i H1 H2, H1 p = H2 p → S i H1 → S i H2) (hp : H p = some o) (s0 : S 0 H) (hD : H D = none) (hn : n ≤ 16777215) (hG : ∀ H', Same (del H p) (del (del H' D) p) → G H')
    (he : ∀ i x H1 H2 (K : V → Hp → Prop) (N : Hp → Prop), i < n → Same (del H p) (del (del H1 D) p) → (∃ zs, H1 D = some (.lst zs)) → S i H1 → Y i H1 x H2 → (∀ y H4, But p H1 H4 → S (i + 1) H4 → R i y (del (del H4 D) p) → K y H4) →
      g x (wipe σ vs) H2 fun σ2 H2' => wipe σ2 vs = wipe σ vs ∧ tt σ2 H2' fun b H3 => if b = true then te σ2 H3 K else N H3)
    (q : ∀ (ys : List V) (H' : Hp), Same (del H p) (del (del H' D) p) → S n H' → H' D = some (.lst ys) → ys.length = n → (∀ (i : Nat) (y : V), ys[i]? = some y → R i y (del (del H' D) p)) → Qd H') :
    ∃ W : Nat → Nat → Hp → Prop, (∃ m, W 0 m (upd H D (.lst []))) ∧ ∀ i m H, W i m H →
      (J.stop i H ∧ Qd H) ∨ (J.go i H ∧ ∃ Nx : Hp → Prop, (∀ H', Nx H' → ∃ m', m' < m ∧ W (i + 1) m' H') ∧ ∀ x H', J.yld i H x H' → g x (wipe σ vs) H' fun σ2 H2 => wipe σ2 vs = wipe σ vs ∧ tt σ2 H2 fun b H3 =>
        if b = true then te σ2 H3 fun y H4 => ∃ acc, H4 D = some (.lst acc) ∧ acc.length < sizeLine ∧ Nx (upd H4 D (.lst (acc ++ [y]))) else Nx H3) := by
  have nD : p ≠ D := ne_of_none hp hD
  have dd : ∀ {H4 : Hp} {ys : List V}, del (upd H4 D (.lst ys)) D = del H4 D := fun {H4 ys} => by
    funext b
    by_cases nb : b = D
    · rw [nb, del_same, del_same]
    · rw [del_ne nb, del_ne nb, upd_ne nb]
  have bb : ∀ {H1 H4 : Hp}, But p H1 H4 → Same (del (del H1 D) p) (del (del H4 D) p) := fun k b o e => by
    by_cases nb : b = p
    · rw [nb, del_same] at e; cases e
    · rw [del_ne nb] at e ⊢
      by_cases nd : b = D
      · rw [nd, del_same] at e; cases e
      · rw [del_ne nd] at e ⊢
        exact k b o nb e
  refine lc_it w (fun i H' => Same (del H p) (del (del H' D) p) ∧ S i H' ∧ ∃ ys, H' D = some (.lst ys) ∧ ys.length = i ∧ ∀ (j : Nat) (y : V), ys[j]? = some y → R j y (del (del H' D) p)) ?_ (fun i H' _ h => hG H' h.1) ?_ ?_
  · refine ⟨fun b o e => ?_, Sm 0 H _ (by rw [upd_ne nD]) s0, [], upd_same, rfl, fun j y h => by simp at h⟩
    by_cases nb : b = p
    · rw [nb, del_same] at e; cases e
    · rw [del_ne nb] at e ⊢
      rw [del_ne (ne_of_none e hD), upd_ne (ne_of_none e hD)]
      exact e
  · rintro i x H1 H2 hi ⟨k1, s1, ys, h1, l1, r1⟩ hy
    refine he i x H1 H2 _ _ hi k1 ⟨_, h1⟩ s1 hy (fun y H4 k4 s4 r4 => ?_)
    have h4 := k4 D _ nD.symm h1
    refine ⟨ys, h4, by rw [l1]; exact lt_ln (by omega), ?_, Sm _ H4 _ (by rw [upd_ne nD]) s4, _, upd_same, by rw [List.length_append, l1]; rfl, ?_⟩
    · rw [dd]
      exact k1.trans (bb k4)
    · intro j y2 hy2
      rw [dd]
      by_cases c : j < ys.length
      · rw [List.getElem?_append_left c] at hy2
        exact Rm _ _ _ _ (bb k4) (r1 j y2 hy2)
      · have lt := (List.getElem?_eq_some_iff.mp hy2).1
        rw [List.length_append] at lt
        have ek : j = ys.length := by
          have : ([y] : List V).length = 1 := rfl
          omega
        subst ek
        rw [List.getElem?_append_right (Nat.le_refl _), Nat.sub_self] at hy2
        obtain rfl : y = y2 := by simpa using hy2
        rw [l1]
        exact r4
  · rintro H1 ⟨k1, s1, ys, h1, l1, r1⟩
    exact q ys H1 k1 s1 h1 l1 r1

theorem del_comm {H : Hp} {a b : Addr} : del (del H a) b = del (del H b) a := by
  funext c
  unfold del
  split <;> split <;> rfl
theorem but_of {p D : Addr} {H H' : Hp} (k : Same (del H p) (del (del H' D) p)) : But p H H' := fun b o nb e => del_le _ _ (del_le _ _ (k b o (by rw [del_ne nb]; exact e)))
theorem tSeq_by {a b : TS} {D : Ends} {σ : L2.St} {H : Hp} (R : L2.St → Hp → Prop) (h1 : ∀ σ' H', R σ' H' → b D σ' H') (h2 : (∀ σ' H', R σ' H' → b D σ' H') → a { nx := b D, rt := D.rt, bk := D.bk, ct := D.ct } σ H) : tSeq a b D σ H := h2 h1
theorem rdd_ne {X : Hp} {p : Addr} {v : V} {d : PyData} (r : Rdd (del X p) v d) : v ≠ .ref p := by
  rintro rfl
  cases r with
  | lst h _ => rw [del_same] at h; cases h
  | tup h _ => rw [del_same] at h; cases h
  | dK h _ _ => rw [del_same] at h; cases h
theorem eq_list_lengths {prog : Program} {w : World} {A : Around} {E : Value → Shared → Prop} {s : Shared} {l b : Addr} {items items2 : Array Value} {Q : Value → Shared → Prop}
    (h1 : s.heap.IsList l items) (h2 : s.heap.IsList b items2) (ne : (items.size != items2.size) = true) (hu : A.units < cLine) (q : Q (.bool false) s) : wpAny (model prog w) A (compareOp .Eq (.ref l) (.ref b)) Q E s := by
  obtain ⟨⟨c1, dd, dt1, sl⟩, g1, e1, n, e2⟩ := id h1
  obtain ⟨⟨c2, dd2, dt2, sl2⟩, g2, e3, n2, e4⟩ := id h2
  simp only at e1 e2 e3 e4
  subst e1 e2 e3 e4
  show wpAny _ _ (richCompare .Eq _ _) _ _ _
  exact richCompare_meets_room h1.typeIs h2.typeIs F.slot_list_eq F.entry_list_eq (F.args_list_eq_2 _ _) (SeqAt.list_eq_lengthsAt l b items items2 n n2 dd dd2 sl sl2 ne) ⟨g1, g2, by show Value.bool false ≠ Value.notImplemented ∧ _; exact ⟨(fun z => by cases z), q⟩⟩ hu
/-- xs == [], whatever the items are -/
def rEqNil (K : PySem.W.Frag) : R2 := fun x y H Q => ∃ (a b : Addr) (xs : List V), x = .ref a ∧ y = .ref b ∧ SqL K H a xs ∧ SqL K H b [] ∧ Q (.bl xs.isEmpty) H
theorem op_eqNil {X : Cx} (hu : X.A.units + 64 < cLine) : OpR X (compareOp .Eq) (rEqNil X.K) := by
  intro pins s σ H x y v u Q I rx ry h
  obtain ⟨a, b, xs, rfl, rfl, ha, hb, q⟩ := h
  cases xs with
  | nil => exact op_eqD hu pins s σ H _ _ v u Q I rx ry ⟨.list [], .list [], .lst ha .nil, .lst hb .nil, rfl, rfl, q⟩
  | cons z zs =>
    obtain rfl : v = Value.ref a := rx
    obtain rfl : u = Value.ref b := ry
    obtain ⟨i1, r1, p1, _⟩ := I.list ha
    obtain ⟨i2, r2, p2, _⟩ := I.list hb
    cases r2
    cases r1 with
    | cons r1 r3 => exact eq_list_lengths p1.isList p2.isList (by simp) (by omega) ⟨.bl false, H, I, rfl, q⟩
end L2

/-! a comprehension over things that are known one by one -/
namespace L2
open PySem PySem.Spec PyProof.Rows
inductive All2 {α β : Type} (R : α → β → Prop) : List α → List β → Prop
  | nil : All2 R [] []
  | cons {a : α} {b : β} {as : List α} {bs : List β} : R a b → All2 R as bs → All2 R (a :: as) (b :: bs)
theorem All2.len {α β : Type} {R : α → β → Prop} : ∀ {as : List α} {bs : List β}, All2 R as bs → bs.length = as.length
  | _, _, .nil => rfl
  | _, _, .cons _ t => by rw [List.length_cons, List.length_cons, t.len]
theorem All2.imp {α β : Type} {R S : α → β → Prop} (h : ∀ a b, R a b → S a b) : ∀ {as : List α} {bs : List β}, All2 R as bs → All2 S as bs
  | _, _, .nil => .nil
  | _, _, .cons r t => .cons (h _ _ r) (t.imp h)
theorem All2.snoc {α β : Type} {R : α → β → Prop} {a : α} {b : β} (h : R a b) : ∀ {as : List α} {bs : List β}, All2 R as bs → All2 R (as ++ [a]) (bs ++ [b])
  | _, _, .nil => .cons h .nil
  | _, _, .cons r t => .cons r (t.snoc h)
theorem All2.get {α β : Type} {R : α → β → Prop} : ∀ {as : List α} {bs : List β} {i : Nat} {a : α}, All2 R as bs → as[i]? = some a → ∃ b, bs[i]? = some b ∧ R a b
  | _, _, 0, _, .cons r _, h => ⟨_, rfl, Option.some.inj h ▸ r⟩
  | _, _, i + 1, _, .cons _ t, h => t.get (by simpa using h)
  | _, _, _, _, .nil, h => by simp at h
theorem All2.app {α β : Type} {R : α → β → Prop} {cs : List α} {ds : List β} (h : All2 R cs ds) : ∀ {as : List α} {bs : List β}, All2 R as bs → All2 R (as ++ cs) (bs ++ ds)
  | _, _, .nil => h
  | _, _, .cons r t => .cons r (h.app t)
theorem All2.rdd {H : Hp} {α : Type} {g : α → PyData} : ∀ {as : List α} {ys : List V}, All2 (fun a y => Rdd H y (g a)) as ys → RddAll H ys (as.map g)
  | _, _, .nil => .nil
  | _, _, .cons r t => .cons r t.rdd
theorem All2.map {α β : Type} {f : α → β} : ∀ {as : List α} {bs : List β}, All2 (fun a b => b = f a) as bs → bs = as.map f
  | _, _, .nil => rfl
  | _, _, .cons r t => by rw [r, t.map]; rfl
theorem rdd_all2 {H : Hp} {α : Type} {g : α → PyData} : ∀ {as : List α} {ys : List V}, RddAll H ys (as.map g) → All2 (fun a y => Rdd H y (g a)) as ys
  | [], _, .nil => .nil
  | _ :: _, _, .cons r t => .cons r (rdd_all2 t)
theorem lc_as {J : It} {n : Nat} {G : Hp → Prop} {Y : Nat → Hp → V → Hp → Prop} (w : Walk J n G Y) {g : TG} {tt : TT} {te : TE} {vs : List Nat} {σ : St} {H : Hp} {D : Addr} {Qd : Hp → Prop} {α : Type} {as : List α} (la : as.length = n) (p : α → Bool) (R : α → V → Hp → Prop)
    (Rm : ∀ a y H1 H2, Same H1 H2 → R a y H1 → R a y H2) (hD : H D = none) (hn : n ≤ 16777215) (hG : ∀ H', Same H (del H' D) → G H')
    (he : ∀ (i : Nat) a x H1 H2 (K : V → Hp → Prop) (N : Hp → Prop), as[i]? = some a → Same H (del H1 D) → (∃ zs, H1 D = some (.lst zs)) → Y i H1 x H2 → (p a = true → ∀ y H4, Same H1 H4 → R a y (del H4 D) → K y H4) → (p a = false → ∀ H4, Same H1 H4 → N H4) →
      g x (wipe σ vs) H2 fun σ2 H2' => wipe σ2 vs = wipe σ vs ∧ tt σ2 H2' fun b H3 => if b = true then te σ2 H3 K else N H3)
    (q : ∀ (ys : List V) (H' : Hp), Same H (del H' D) → H' D = some (.lst ys) → All2 (fun a y => R a y (del H' D)) (as.filter p) ys → Qd H') :
    ∃ W : Nat → Nat → Hp → Prop, (∃ m, W 0 m (upd H D (.lst []))) ∧ ∀ i m H, W i m H →
      (J.stop i H ∧ Qd H) ∨ (J.go i H ∧ ∃ Nx : Hp → Prop, (∀ H', Nx H' → ∃ m', m' < m ∧ W (i + 1) m' H') ∧ ∀ x H', J.yld i H x H' → g x (wipe σ vs) H' fun σ2 H2 => wipe σ2 vs = wipe σ vs ∧ tt σ2 H2 fun b H3 =>
        if b = true then te σ2 H3 fun y H4 => ∃ acc, H4 D = some (.lst acc) ∧ acc.length < sizeLine ∧ Nx (upd H4 D (.lst (acc ++ [y]))) else Nx H3) := by
  have dd : ∀ {H4 : Hp} {ys : List V}, del (upd H4 D (.lst ys)) D = del H4 D := fun {H4 ys} => by
    funext b
    by_cases e : b = D
    · subst e; simp [del]
    · rw [del_ne e, del_ne e, upd_ne e]
  have dsame : ∀ {H1 H4 : Hp}, Same H1 H4 → Same (del H1 D) (del H4 D) := fun {H1 H4} k b o e => by
    by_cases z : b = D
    · subst z; simp [del] at e
    · rw [del_ne z] at e ⊢
      exact k b o e
  refine lc_it w (fun i H' => Same H (del H' D) ∧ ∃ ys, H' D = some (.lst ys) ∧ All2 (fun a y => R a y (del H' D)) ((as.take i).filter p) ys) ?_ (fun i H' _ h => hG H' h.1) ?_ ?_
  · refine ⟨fun b o e => ?_, [], upd_same, .nil⟩
    rw [del_ne (ne_of_none e hD), upd_ne (ne_of_none e hD)]
    exact e
  · rintro i x H1 H2 hi ⟨k1, ys, h1, r1⟩ hy
    have ea : as[i]? = some as[i] := List.getElem?_eq_getElem (by omega)
    have et := List.take_succ_eq_append_getElem (l := as) (i := i) (by omega)
    generalize as[i] = a at ea et
    refine he i a x H1 H2 _ _ ea k1 ⟨_, h1⟩ hy (fun e y H4 k4 r4 => ?_) (fun e H4 k4 => ?_)
    · have l := r1.len
      have lf := List.length_filter_le p (as.take i)
      rw [List.length_take] at lf
      refine ⟨ys, k4 _ _ h1, lt_ln (by omega), ?_, _, upd_same, ?_⟩
      · rw [dd]
        exact k1.trans (dsame k4)
      · rw [dd, et, List.filter_append, List.filter_cons_of_pos e]
        exact All2.snoc (R := fun a y => R a y (del H4 D)) r4 (r1.imp fun a y r => Rm a y _ _ (dsame k4) r)
    · refine ⟨k1.trans (dsame k4), ys, k4 _ _ h1, ?_⟩
      rw [et, List.filter_append, List.filter_cons_of_neg (by simp [e]), List.filter_nil, List.append_nil]
      exact r1.imp fun a y r => Rm a y _ _ (dsame k4) r
  · rintro H' ⟨k1, ys, h1, r1⟩
    rw [← la, List.take_length] at r1
    exact q ys H' k1 h1 r1
end L2

namespace K10
open PySem PySem.Spec PyProof.Rows L2 Tn TL
abbrev sNames : Stmt := top 32
theorem scNames : FnScope ["box", "many", "letters", "found", "k", "name", "j", "place", "free", "letter", "other"] ["box", "many"] (defScope sNames) := ⟨rfl, rfl, rfl, by decide +kernel, rfl, by decide +kernel, by decide +kernel⟩
theorem seq2 {s1 s2 r : TS} {D : Ends} {σ : L2.St} {H : Hp} (R : L2.St → Hp → Prop) (h1 : ∀ σ' H', R σ' H' → r D σ' H') (h2 : ∀ D' : Ends, (∀ σ' H', R σ' H' → D'.nx σ' H') → tSeq s1 s2 D' σ H) : tSeq s1 (tSeq s2 r) D σ H := h2 { nx := r D, rt := D.rt, bk := D.bk, ct := D.ct } h1
/-- a text of small letters of the alphabet -/
def Lett (l : List Nat) : Prop := ∀ c ∈ l, 97 ≤ c ∧ c ≤ 122
theorem nameS_of {z : Str} (l1 : 1 ≤ (tl z).length) (l2 : (tl z).length ≤ 8) (a : Lett (tl z)) : nameS z = true := by
  unfold nameS signs
  rw [len_tl, decide_eq_true l1, decide_eq_true l2, Bool.true_and, Bool.true_and]
  refine List.all_eq_true.mpr fun c hc => ?_
  have := a c hc
  rw [decide_eq_true this.1, decide_eq_true this.2]
  rfl
theorem nameS_le {z : Str} (h : nameS z = true) : 1 ≤ (tl z).length ∧ (tl z).length ≤ 8 ∧ Lett (tl z) := by
  unfold nameS signs at h
  simp only [Bool.and_eq_true, decide_eq_true_eq] at h
  rw [len_tl] at h
  exact ⟨h.1, h.2.1, fun c m => by
    have := List.all_eq_true.mp h.2.2 c m
    simpa using this⟩
def sg (c : Nat) : Str := ⟨#[c]⟩
theorem tl_sg (c : Nat) : tl (sg c) = [c] := rfl
theorem sg_len (c : Nat) : (sg c).length = 1 := rfl
/-- signs in a row, joined -/
def mkS (l : List Nat) : Str := ⟨l.toArray⟩
theorem tl_mkS (l : List Nat) : tl (mkS l) = l := rfl
theorem tl_ext {a b : Str} (h : tl a = tl b) : a = b := by
  obtain ⟨⟨a⟩⟩ := a
  obtain ⟨⟨b⟩⟩ := b
  have h : a = b := h
  rw [h]
theorem join_sg (cs : List Nat) : Txt.join (Str.ofString "") (cs.map sg) = mkS cs := by
  refine tl_ext ?_
  rw [join_eq, tl_join, List.map_map, tl_mkS]
  show joinL [] (cs.map (tl ∘ sg)) = cs
  rw [joinL_nil]
  induction cs with
  | nil => rfl
  | cons c cs ih => rw [List.map_cons, List.flatten_cons, ih]; rfl
theorem sgs_of {F : Nat → Prop} : ∀ {ys : List V}, (∀ (i : Nat) (y : V), ys[i]? = some y → ∃ c, y = .str (sg c) ∧ F c) → ∃ cs : List Nat, ys = (cs.map sg).map V.str ∧ ∀ c ∈ cs, F c
  | [], _ => ⟨[], rfl, fun _ m => nomatch m⟩
  | y :: ys, h => by
    obtain ⟨c, rfl, fc⟩ := h 0 y rfl
    obtain ⟨cs, rfl, g⟩ := sgs_of (ys := ys) fun i y hy => h (i + 1) y hy
    exact ⟨c :: cs, rfl, fun x m => (List.mem_cons.mp m).elim (fun e => e ▸ fc) (g x)⟩
theorem tl_cut_to (z : Str) (k : Nat) : tl (cutS z none (some (k : Int))) = (tl z).take k := by
  show ((tl z).drop (HT.sIx z.length 0 none)).take (HT.sIx z.length z.length (some (k : Int)) - HT.sIx z.length 0 none) = _
  rw [HT.sIx_none, HT.sIx_nat, List.drop_zero, Nat.sub_zero]
  by_cases h : k ≤ z.length
  · rw [Nat.min_eq_left h]
  · rw [Nat.min_eq_right (by omega), List.take_of_length_le (by rw [← len_tl]; omega), List.take_of_length_le (by rw [← len_tl]; omega)]
theorem tl_cut_from (z : Str) (k : Nat) : tl (cutS z (some (k : Int)) none) = (tl z).drop k := by
  show ((tl z).drop (HT.sIx z.length 0 (some (k : Int)))).take (HT.sIx z.length z.length none - HT.sIx z.length 0 (some (k : Int))) = _
  rw [HT.sIx_none, HT.sIx_nat]
  by_cases h : k ≤ z.length
  · rw [Nat.min_eq_left h]
    exact List.take_of_length_le (by rw [List.length_drop, ← len_tl]; omega)
  · rw [Nat.min_eq_right (by omega), Nat.sub_self, List.take_zero, List.drop_of_length_le (by rw [← len_tl]; omega)]
theorem nodup_sub {α : Type} [DecidableEq α] : ∀ {l m : List α}, l.Nodup → (∀ x ∈ l, x ∈ m) → l.length ≤ m.length
  | [], _, _, _ => Nat.zero_le _
  | a :: l, m, d, s => by
    have d := List.nodup_cons.mp d
    have ha := s a List.mem_cons_self
    have l1 := List.length_erase_of_mem ha
    have l2 := List.length_pos_of_mem ha
    have i := nodup_sub (m := m.erase a) d.2 fun y hy => (List.mem_erase_of_ne fun q => d.1 (by rw [← q]; exact hy)).mpr (s y (List.mem_cons_of_mem _ hy))
    rw [List.length_cons]
    omega
/-- the name with one sign changed -/
def var (z : Str) (k c : Nat) : Str := mkS ((tl z).take k ++ c :: (tl z).drop (k + 1))
theorem var_inj {z : Str} {k c d : Nat} (h : var z k c = var z k d) : c = d := by
  have e := congrArg tl h
  unfold var at e
  rw [tl_mkS, tl_mkS] at e
  have e2 := List.append_cancel_left e
  injection e2
theorem var_good {z : Str} {k c : Nat} (g : nameS z = true) (hk : k < (tl z).length) (h1 : 97 ≤ c) (h2 : c ≤ 122) : nameS (var z k c) = true := by
  obtain ⟨a1, a2, a3⟩ := nameS_le g
  have l : ((tl z).take k ++ c :: (tl z).drop (k + 1)).length = (tl z).length := by
    rw [List.length_append, List.length_cons, List.length_take, List.length_drop]
    omega
  unfold var
  refine nameS_of (by rw [tl_mkS]; omega) (by rw [tl_mkS]; omega) ?_
  rw [tl_mkS]
  intro x m
  rcases List.mem_append.mp m with m | m
  · exact a3 x (List.mem_of_mem_take m)
  · rcases List.mem_cons.mp m with rfl | m
    · exact ⟨h1, h2⟩
    · exact a3 x (List.mem_of_mem_drop m)
def freeL (z : Str) (k : Nat) (ns : List Str) : List Str := (((List.range 26).map fun i => 97 + i).map (var z k)).filter fun o => decide (o ∉ ns)
theorem free_some {z : Str} {k : Nat} {ns : List Str} (h : ns.length < 26) : 0 < (freeL z k ns).length := by
  refine Nat.pos_of_ne_zero fun e => ?_
  have e := List.length_eq_zero_iff.mp e
  unfold freeL at e
  rw [List.filter_eq_nil_iff] at e
  have nd : (((List.range 26).map fun i => 97 + i).map (var z k)).Nodup := by
    exact List.Pairwise.map (var z k) (fun a b (ne : a ≠ b) e => ne (var_inj e)) (List.Pairwise.map (fun i => 97 + i) (fun a b (ne : a ≠ b) e => ne (by omega)) List.nodup_range)
  have z := nodup_sub nd (m := ns) fun x m => by
    have y := e x m
    simpa using y
  rw [List.length_map, List.length_map, List.length_range] at z
  omega
theorem free_good {z : Str} {k : Nat} {ns : List Str} (g : nameS z = true) (hk : k < (tl z).length) {o : Str} (m : o ∈ freeL z k ns) : nameS o = true ∧ o ∉ ns := by
  unfold freeL at m
  obtain ⟨m1, m2⟩ := List.mem_filter.mp m
  obtain ⟨c, mc, rfl⟩ := List.mem_map.mp m1
  obtain ⟨i, mi, rfl⟩ := List.mem_map.mp mc
  have := List.mem_range.mp mi
  exact ⟨var_good g hk (by omega) (by omega), of_decide_eq_true m2⟩
theorem inV_strs (z : Str) (ns : List Str) : inV (.str z) (ns.map V.str) = decide (z ∈ ns) := by
  unfold inV
  rw [List.any_map]
  induction ns with
  | nil => rfl
  | cons y ns ih =>
    rw [List.any_cons, ih]
    show ((y == z) || decide (z ∈ ns)) = _
    by_cases e : y = z
    · subst e; simp
    · have e2 : ¬ z = y := fun q => e q.symm
      simp [e, e2]
theorem strs_flat (ns : List Str) : (ns.map V.str).all flatV = true := by
  rw [List.all_map, List.all_eq_true]
  exact fun _ _ => rfl
theorem sgs_sum (cs : List Nat) : ((cs.map sg).map (·.length)).sum = cs.length := by
  induction cs with
  | nil => rfl
  | cons c cs ih =>
    rw [List.map_cons, List.map_cons, List.sum_cons, ih, List.length_cons]
    show 1 + cs.length = _
    omega
theorem len_tl4 (z : Str) : z.length = z.cps.toList.length := (Array.length_toList).symm
def spNames : Sp := fun vs H Q _ => ∃ (p : Addr) (m c : Nat), vs = [.ref p, .int m] ∧ BoxAt H p c ∧ m ≤ 6 ∧ c + 1000 < 100000 ∧
  ∀ (l : Addr) (ns : List Str) H', But p H H' → BoxAt H' p (c + 20 * m) → H l = none → l ≠ p → H' l = some (.lst (ns.map V.str)) → ns.length = m → (∀ z ∈ ns, nameS z = true) → ns.Nodup → Q (.ref l) H'
section
variable {P : Program} {w : World} {K : PySem.W.Frag} {mg : Str → Option Value} {base : Heap} {f : Addr} {fd : FuncData}
theorem ok_names (F : Fd K "_law_names" sNames f fd) (g : mg "_law_names" = some (.ref f)) (B : Bl mg) (o_law_take : Ok P w K mg base CX0 1 "_law_take" sTake ["box", "many"] spDraw1) : Ok P w K mg base CX0 2 "_law_names" sNames ["box", "many"] spNames := by
  refine ⟨f, fd, g, F, F.bindsN fun _ _ _ _ _ _ us hl => match us, hl with | [_, _], _ => rfl, F.ok scNames (fun vs H Q E h => ?_) (fun cdv A outer s H vs Q E hr h => ?_)⟩
  · obtain ⟨p, m, c, rfl, _⟩ := h
    rfl
  · have hu : (cxOf CX0 P w K mg base ["box", "many", "letters", "found", "k", "name", "j", "place", "free", "letter", "other"] "_law_names" (defScope sNames) f cdv A outer s H E).A.units + 64 < cLine := by
      have z := hr.un
      show (A.deeper _).units + 64 < cLine
      omega
    refine ⟨_, (pss_cons (ps_asg (pe_tup (pa_cons pe_str (pa_cons (pe_lst pa_nil) pa_nil))) (pg_tup rfl (pgs_cons (pg_name (i := 2) scNames.nd rfl (Or.inr rfl)) (pgs_cons (pg_name (i := 3) scNames.nd rfl (Or.inr rfl)) pgs_nil))))
      (pss_cons (ps_for (passes_of rfl) rfl (pi_range1 (by rfl) (B.u "range" (by decide +kernel)) (pa_cons (pv 1) pa_nil)) (pg_name (i := 4) scNames.nd rfl (Or.inl rfl))
        (pss_cons (ps_set (i := 5) scNames.nd rfl (Or.inr rfl) (pe_join pe_str (pe_lc (own := [("j", 6)]) (g := gName 6) rfl scNames.nd (pi_range1 (by rfl) (B.u "range" (by decide +kernel)) (pa_cons (pe_ix ix_seq (pe_lst (pa_cons pe_int (pa_cons pe_int (pa_cons pe_int (pa_cons pe_int (pa_cons pe_int (pa_cons pe_int pa_nil))))))) (pe_o o_law_take (hr.mono (by decide)) (by rfl) (pa_cons (pv 0) (pa_cons pe_int pa_nil))) fun _ _ => rfl) pa_nil)) (blkOk_by (N := ["box", "many", "letters", "found", "k", "name", "j", "place", "free", "letter", "other"]) (sc := defScope sNames) (by decide +kernel)) (fun _ _ _ _ _ => (pg_name (i := 6) scNames.nd rfl (Or.inl rfl))) (fun _ _ _ _ _ => pts_nil) (fun _ _ _ _ _ => (pe_ix (r := rIx K) ix_seq (pv 2) (pe_o o_law_take (hr.mono (by decide)) (by rfl) (pa_cons (pv 0) (pa_cons pe_int pa_nil))) fun _ _ => rfl)))))
        (pss_cons (ps_if (pw_and (pt_cmpR (op_neNil hu) (pv 3) (pe_lst pa_nil) (nomark _)) (pw_and1 (pt_cmpR op_eq (pe_o o_law_take (hr.mono (by decide)) (by rfl) (pa_cons (pv 0) (pa_cons pe_int pa_nil))) pe_int (nomark _)))).pt
          (pss_one (ps_set (i := 5) scNames.nd rfl (Or.inr rfl) (pe_slice sl_str (pe_op op_add_str (pe_ix ix_seq (pv 3) (pe_un un_neg pe_int) fun _ _ => rfl) (pv 5)) po_none (po_some pe_int))))
          pss_nil)
        (pss_cons (ps_set (i := 7) scNames.nd rfl (Or.inr rfl) (pe_o o_law_take (hr.mono (by decide)) (by rfl) (pa_cons (pv 0) (pa_cons (pe_callB call_len (by rfl) (B.u "len" (by decide +kernel)) boot_len (pa_cons (pv 5) pa_nil)) pa_nil))))
        (pss_cons (ps_setLc (i := 8) (own := [("letter", 9)]) (g := gName 9) rfl scNames.nd rfl rfl (sw_true rfl rfl rfl (by decide +kernel)) (pi_str (pv 2)) (blkOk_by (N := ["box", "many", "letters", "found", "k", "name", "j", "place", "free", "letter", "other"]) (sc := defScope sNames) (by decide +kernel)) (fun _ _ _ _ _ => (pg_name (i := 9) scNames.nd rfl (Or.inl rfl))) (fun _ _ _ _ _ => pts_nil) (fun _ _ _ _ _ => (pe_op op_add_str (pe_op op_add_str (pe_slice sl_str (pv 5) po_none (po_some (pv 7))) (pv 9)) (pe_slice sl_str (pv 5) (po_some (pe_op op_add (pv 7) pe_int)) po_none))))
        (pss_cons (ps_setLc (i := 8) (own := [("other", 10)]) (g := gName 10) rfl scNames.nd rfl rfl (sw_true rfl rfl rfl (by decide +kernel)) (pi_list (pv 8)) (blkOk_by (N := ["box", "many", "letters", "found", "k", "name", "j", "place", "free", "letter", "other"]) (sc := defScope sNames) (by decide +kernel)) (fun _ _ _ _ _ => (pg_name (i := 10) scNames.nd rfl (Or.inl rfl))) (fun _ _ _ _ _ => (pts_one (pt_cmpR (r := rIn K true) (by exact op_notIn_seq) (pv 10) (pv 3) (by rfl)))) (fun _ _ _ _ _ => (pv 10)))
        (pss_one (ps_expr (pe_bm PySem.F.plainAttrs_list PySem.F.slot_list_append PySem.F.type_list_append mt_append (pv 3) (pa_cons (pe_ifExp (pt_cmpR op_notIn_seq (pv 5) (pv 3) (by rfl)) (pv 5) (pe_ix ix_seq (pv 8) (pe_o o_law_take (hr.mono (by decide)) (by rfl) (pa_cons (pv 0) (pa_cons (pe_callB call_len (by rfl) (B.u "len" (by decide +kernel)) boot_len (pa_cons (pv 8) pa_nil)) pa_nil))) fun _ _ => rfl)) pa_nil))))))))))
      (pss_one (ps_ret (pv 3))))), ?_⟩
    obtain ⟨p, m, c, rfl, hp, m6, hc, q⟩ := h
    obtain ⟨ob, hob⟩ := hp.some
    generalize hL : (Str.ofString "abcdefghijklmnopqrstuvwxyz") = L
    have lL : L.length = 26 := by rw [← hL]; decide +kernel
    have aL : L.cps.toList = (List.range 26).map fun i => 97 + i := by rw [← hL]; decide +kernel
    refine ⟨two_ln (by decide), fun F hF => ⟨two_ln (by show 2 ≤ _; decide), fun T hT => ?_⟩⟩
    have nF : F ≠ p := (ne_of_none hob hF).symm
    have nFT : F ≠ T := fun e => by rw [← e, upd_same] at hT; cases hT
    have k0 : Same H (upd (upd H F (.lst [])) T (.tup [.str L, .ref F])) := (upd_grow hF).trans (upd_grow hT)
    refine ⟨T, _, rfl, SqT.of upd_same, rfl, _, _, rfl, _, _, rfl, rfl, ?_⟩
    dsimp only [gName]
    refine ⟨_, rfl, _, rfl, by omega, by omega, ?_⟩
    refine for_range (n := m) (fun i σ H' => ∃ ns : List Str, But p H H' ∧ BoxAt H' p (c + 20 * i) ∧ H' F = some (.lst (ns.map V.str)) ∧ ns.length = i ∧ (∀ z ∈ ns, nameS z = true) ∧ ns.Nodup ∧
      ∃ a1 a2 a3 a4 a5 a6 a7 : Option V, σ = [some (.ref p), some (.int m), some (.str L), some (.ref F), a1, a2, a3, a4, a5, a6, a7]) ?_ ?_ ?_
    · refine ⟨[], But.of k0, hp.same k0, by rw [upd_ne nFT, upd_same]; rfl, rfl, (fun _ z => nomatch z), List.nodup_nil, none, none, none, none, none, none, none, rfl⟩
    · rintro i σ H1 hi ⟨ns, k1, b1, f1, l1, g1, d1, a1, a2, a3, a4, a5, a6, a7, rfl⟩
      dsimp only [gName]
      refine seq2 (fun σ H' => ∃ z : Str, nameS z = true ∧ But p H1 H' ∧ BoxAt H' p (c + 20 * i + 10) ∧ ∃ a1 a3 a4 a5 a6 a7 : Option V, σ = [some (.ref p), some (.int m), some (.str L), some (.ref F), a1, some (.str z), a3, a4, a5, a6, a7]) ?_ ?_
      · rintro σ H2 ⟨z, gz, k2, b2, a1, a3, a4, a5, a6, a7, rfl⟩
        obtain ⟨v1, v2, v3⟩ := nameS_le gz
        have lz := len_tl z
        refine ⟨_, rfl, _, rfl, _, _, rfl, ⟨two_ln (by omega), rfl⟩, p, _, _, rfl, b2, by omega, by omega, by omega, fun d H3 dl0 dl1 k3 b3 e3 => ?_⟩
        obtain ⟨pl, rfl⟩ : ∃ pl : Nat, d = pl := ⟨d.toNat, by omega⟩
        dsimp only [gName]
        have f3 := k3 _ _ nF (k2 _ _ nF f1)
        have kk : But p H1 H3 := k2.trans k3
        refine ⟨_, rfl, L, rfl, fun D hD => ?_⟩
        refine lc_as walk_str (as := tl L) (by rw [← len_tl]; rfl) (fun _ => true) (fun c' y _ => y = .str (var z pl c')) (fun _ _ _ _ _ h => h) hD (by show L.length ≤ _; omega) (fun _ _ => True.intro) ?_ ?_
        · rintro j a x H4 H5 K1 N1 ea k4 - ⟨rfl, c9, hc9, rfl⟩ hK _
          have e9 : a = c9 := by
            rw [← Array.getElem?_toList] at hc9
            have ea : L.cps.toList[j]? = some a := ea
            rw [hc9] at ea
            exact (Option.some.inj ea).symm
          subst e9
          have lt1 := len_tl (cutS z none (some (pl : Int)))
          rw [tl_cut_to, List.length_take] at lt1
          have lt2 := len_tl (cutS z (some ((pl + 1 : Nat) : Int)) none)
          rw [tl_cut_from, List.length_drop] at lt2
          have lt3 := strLen_append (cutS z none (some (pl : Int))) (sg a)
          have l1 := sg_len a
          refine ⟨rfl, _, rfl, _, rfl, _, rfl, z, rfl, two_ln (by omega), _, rfl, _, sg a, rfl, rfl, two_ln (by omega), _, rfl, _, rfl, _, _, rfl, rfl, _, rfl, z, rfl, two_ln (by omega), _, _, rfl, rfl, ?_, ?_⟩
          · refine two_ln ?_
            show (cutS z none (some (pl : Int)) ++ sg a).length + (cutS z (some ((pl + 1 : Nat) : Int)) none).length ≤ _
            omega
          · refine hK rfl _ _ (Same.refl _) (congrArg V.str (tl_ext ?_))
            show tl (cutS z none (some (pl : Int)) ++ sg a ++ cutS z (some ((pl + 1 : Nat) : Int)) none) = _
            unfold var
            rw [tl_append, tl_append, tl_cut_to, tl_cut_from, tl_mkS, tl_sg, List.append_assoc]
            rfl
        · intro ys H4 k4 h4 r4
          rw [List.filter_eq_self.mpr fun _ _ => rfl] at r4
          have ey : ys = ((tl L).map (var z pl)).map V.str := by rw [r4.map, List.map_map]; rfl
          rw [show tl L = (List.range 26).map fun i => 97 + i from aL] at ey
          have k34 := del_sub k4
          have f4 := k34 _ _ f3
          dsimp only [gName]
          refine ⟨_, rfl, D, rfl, ⟨ys, SqL.of h4⟩, fun D2 hD2 => ?_⟩
          subst ey
          refine lc_as (walk_list (xs := (((List.range 26).map fun i => 97 + i).map (var z pl)).map V.str)) (as := ((List.range 26).map fun i => 97 + i).map (var z pl)) (by rw [List.length_map (f := V.str)]) (fun o => decide (o ∉ ns)) (fun o y _ => y = .str o) (fun _ _ _ _ _ h => h) hD2 (by rw [List.length_map, List.length_map, List.length_map, List.length_range]; decide) (fun H' k => SqL.of (del_sub k _ _ h4)) ?_ ?_
          · rintro j a x H5 H6 K1 N1 ea k5 - ⟨rfl, hx⟩ hK hN
            rw [List.getElem?_map, ea] at hx
            obtain rfl := Option.some.inj hx
            refine ⟨rfl, _, rfl, _, rfl, F, _, rfl, .inl (SqL.of (del_sub k5 _ _ f4)), rfl, strs_flat ns, _, rfl, ?_⟩
            have en : (if true = true then !inV (V.str a) (ns.map V.str) else inV (V.str a) (ns.map V.str)) = decide (a ∉ ns) := by
              rw [if_pos rfl, inV_strs]
              simp
            rw [en]
            exact iteB (fun e => ⟨_, rfl, hK e _ _ (Same.refl _) rfl⟩) fun e => hN e _ (Same.refl _)
          · intro ys H5 k5 h5 r5
            have ey : ys = (freeL z pl ns).map V.str := r5.map
            subst ey
            have f5 := del_sub k5 _ _ f4
            have k35 : Same H3 H5 := k34.trans (del_sub k5)
            have b5 := b3.same k35
            have fs := free_some (z := z) (k := pl) (ns := ns) (by omega)
            have fg : ∀ o ∈ freeL z pl ns, nameS o = true ∧ o ∉ ns := fun o m => free_good gz (by omega) m
            have fl : (freeL z pl ns).length ≤ 26 := by
              unfold freeL
              refine Nat.le_trans (List.length_filter_le _ _) ?_
              rw [List.length_map, List.length_map, List.length_range]
              exact Nat.le_refl _
            generalize freeL z pl ns = fr at h5 fs fg fl
            have last : ∀ (o : Str) (H' : Hp), nameS o = true → o ∉ ns → But p H1 H' → BoxAt H' p (c + 20 * (i + 1)) → H' F = some (.lst (ns.map V.str)) → ∃ ms : List Str, But p H (upd H' F (.lst (ns.map V.str ++ [V.str o]))) ∧
                BoxAt (upd H' F (.lst (ns.map V.str ++ [V.str o]))) p (c + 20 * (i + 1)) ∧ (upd H' F (.lst (ns.map V.str ++ [V.str o]))) F = some (.lst (ms.map V.str)) ∧ ms.length = i + 1 ∧ (∀ z ∈ ms, nameS z = true) ∧ ms.Nodup := by
              intro o H' go no k b f
              refine ⟨ns ++ [o], fun x u nx e => ?_, b.eq (upd_ne nF.symm), by rw [upd_same, List.map_append]; rfl, by rw [List.length_append, l1]; rfl, fun y m => ?_, ?_⟩
              · rw [upd_ne (ne_of_none e hF)]
                exact k _ _ nx (k1 _ _ nx e)
              · rcases List.mem_append.mp m with m | m
                · exact g1 y m
                · rw [List.mem_singleton.mp m]
                  exact go
              · rw [List.nodup_append]
                exact ⟨d1, List.nodup_cons.mpr ⟨(fun m => nomatch m), List.nodup_nil⟩, fun a ma b mb e => no (by rw [List.mem_singleton.mp mb] at e; exact e ▸ ma)⟩
            have k15 : But p H1 H5 := kk.trans (But.of k35)
            have en2 : (if true = true then !inV (V.str z) (ns.map V.str) else inV (V.str z) (ns.map V.str)) = decide (z ∉ ns) := by
              rw [if_pos rfl, inV_strs]
              simp
            refine ⟨_, rfl, .inl ⟨rfl, _, SqL.of f5⟩, _, rfl, _, rfl, F, _, rfl, .inl (SqL.of f5), rfl, strs_flat ns, _, rfl, ?_⟩
            rw [en2]
            refine ite2 (fun e => ?_) fun _ => ?_
            · obtain ⟨ms, q1, q2, q3, q4, q5, q6⟩ := last z H5 gz (of_decide_eq_true e) k15 (b5.up (by omega)) f5
              exact ⟨_, rfl, F, _, _, rfl, rfl, f5, lt_ln (by rw [List.length_map]; omega), ms, q1, q2, q3, q4, q5, q6, _, _, _, _, _, _, _, rfl⟩
            · refine ⟨_, rfl, _, rfl, _, rfl, _, _, rfl, .inl ⟨_, SqL.of h5, rfl⟩, p, _, _, rfl, b5, by omega, by rw [List.length_map]; omega, by rw [List.length_map]; omega, fun d H6 d0 d1' k6 b6 e6 => ?_⟩
              rw [List.length_map] at d1'
              obtain ⟨dn, rfl⟩ : ∃ dn : Nat, d = dn := ⟨d.toNat, by omega⟩
              have hdn : dn < fr.length := by omega
              have ed := List.getElem?_eq_getElem hdn
              generalize fr[dn] = o at ed
              obtain ⟨go, no⟩ := fg o (List.mem_of_getElem? ed)
              have nD2 : D2 ≠ p := fun y => by
                obtain ⟨u, hu'⟩ := b3.some
                rw [y] at hD2
                rw [k34 _ _ hu'] at hD2
                cases hD2
              have f6 := k6 _ _ nF f5
              obtain ⟨ms, q1, q2, q3, q4, q5, q6⟩ := last o H6 go no (k15.trans k6) (b6.up (by omega)) f6
              refine ixAt (k6 _ _ nD2 h5) (atI_nat (by rw [List.getElem?_map, ed]; rfl)) ?_
              exact ⟨F, _, _, rfl, rfl, f6, lt_ln (by rw [List.length_map]; omega), ms, q1, q2, q3, q4, q5, q6, _, _, _, _, _, _, _, rfl⟩
      · intro D_ rest
        refine ⟨⟨_, rfl⟩, two_ln (by show 6 ≤ _; decide), fun E hE => ⟨_, rfl, p, 6, _, rfl, b1.same (upd_grow hE), by omega, by decide, by decide, fun d H2 d0 d1 k2 b2 e2 => ?_⟩⟩
        have nEp : E ≠ p := fun e => by
          obtain ⟨o, ho⟩ := b1.some
          rw [e, ho] at hE
          cases hE
        obtain ⟨dn, rfl⟩ : ∃ dn : Nat, d = dn := ⟨d.toNat, by omega⟩
        obtain ⟨r, hr, r1, r8⟩ : ∃ r : Nat, ([.int 1, .int 8, .int 3, .int 2, .int 5, .int 4] : List V)[dn]? = some (.int r) ∧ 1 ≤ r ∧ r ≤ 8 := by
          have h6 : dn < 6 := by omega
          match dn, h6 with
          | 0, _ => exact ⟨1, rfl, by decide, by decide⟩
          | 1, _ => exact ⟨8, rfl, by decide, by decide⟩
          | 2, _ => exact ⟨3, rfl, by decide, by decide⟩
          | 3, _ => exact ⟨2, rfl, by decide, by decide⟩
          | 4, _ => exact ⟨5, rfl, by decide, by decide⟩
          | 5, _ => exact ⟨4, rfl, by decide, by decide⟩
        have kE := k2 _ _ nEp upd_same
        obtain ⟨ob2, hob2⟩ := b2.some
        refine ixAt kE (atI_nat hr) ⟨_, rfl, by omega, by omega, fun D hD => ?_⟩
        refine lc_genB (p := p) (walk_range (lo := 0) (n := r)) (fun i' H' => BoxAt H' p (c + 20 * i + 1 + i')) (fun i y _ => ∃ c, y = .str (sg c) ∧ 97 ≤ c ∧ c ≤ 122) (fun _ _ _ _ _ h => h) (fun i H1 H2 e h => h.eq e.symm) hob2 b2 hD (by omega) (fun _ _ => True.intro) ?_ ?_
        · rintro j x H3 H4 K1 N1 hj k3 - b3 ⟨rfl, rfl⟩ hK
          refine ⟨rfl, _, rfl, _, rfl, p, 26, _, rfl, b3, by omega, by decide, by decide, fun d2 H5 d20 d21 k5 b5 e5 => ?_⟩
          obtain ⟨dm, rfl⟩ : ∃ dm : Nat, d2 = dm := ⟨d2.toNat, by omega⟩
          refine .inr (.inr ⟨L, _, 97 + dm, rfl, rfl, two_ln (by omega), atI_nat (by rw [aL, List.getElem?_map, List.getElem?_range (by omega)]; rfl), hK _ _ k5 b5 ⟨97 + dm, rfl, by omega, by omega⟩⟩)
        · intro ys H3 k3 b3 h3 l3 r3
          have kb := but_of k3
          obtain ⟨cs, rfl, gc⟩ := sgs_of r3
          have lc : cs.length = r := by rw [List.length_map, List.length_map] at l3; exact l3
          refine ⟨_, D, cs.map sg, rfl, rfl, .inl (SqL.of h3), ?_, ?_⟩
          · rw [sgs_sum]
            show cs.length + (cs.map sg).length * 0 ≤ _
            omega
          rw [join_sg]
          have k13 : But p H1 H3 := (But.of (upd_grow hE)).trans (k2.trans kb)
          have gz : nameS (mkS cs) = true := nameS_of (by rw [tl_mkS]; omega) (by rw [tl_mkS]; omega) (by rw [tl_mkS]; exact gc)
          have f3 := k13 _ _ nF f1
          dsimp only [gName]
          have done_ : ∀ (z : Str) (H' : Hp), nameS z = true → But p H1 H' → BoxAt H' p (c + 20 * i + 10) → D_.nx [some (.ref p), some (.int m), some (.str L), some (.ref F), some (.int (0 + (i : Int))), some (.str z), a3, a4, a5, a6, a7] H' := fun z H' gz k b => rest _ _ ⟨z, gz, k, b, _, _, _, _, _, _, rfl⟩
          refine ⟨_, rfl, two_ln (by decide), fun pe hpe => ?_⟩
          have k3e : Same H3 (upd H3 pe (.lst [])) := upd_grow hpe
          refine ⟨F, pe, _, rfl, rfl, SqL.of (k3e _ _ f3), SqL.of upd_same, _, rfl, iteB (fun e => ?_) fun _ => ?_⟩
          · refine ⟨_, rfl, p, 2, _, rfl, b3.same k3e, by omega, by decide, by decide, fun d2 H4 d20 d21 k4 b4 e4 => ?_⟩
            have f4 := k4 _ _ nF (k3e _ _ f3)
            have k14 : But p H1 H4 := k13.trans ((But.of k3e).trans k4)
            refine ⟨rfl, _, rfl, iteB (fun _ => ?_) fun _ => done_ _ _ gz k14 (b4.up (by omega))⟩
            obtain ⟨nl, z0, en⟩ : ∃ nl z0, ns = nl ++ [z0] := by
              cases h : ns.reverse with
              | nil =>
                rw [List.reverse_eq_nil_iff.mp h] at e
                cases e
              | cons z0 r => exact ⟨r.reverse, z0, by rw [← List.reverse_cons, ← h, List.reverse_reverse]⟩
            have g0 := g1 z0 (by rw [en]; simp)
            obtain ⟨u1, u2, u3⟩ := nameS_le g0
            obtain ⟨v1, v2, v3⟩ := nameS_le gz
            have lz0 := len_tl z0
            have lz1 := len_tl (mkS cs)
            refine ⟨_, rfl, 1, rfl, ?_⟩
            refine ixAt f4 (by rw [en, List.map_append]; exact atI_last _ _) ⟨_, rfl, _, _, rfl, rfl, two_ln (by omega), _, rfl, _, rfl, ?_, ?_⟩
            · have z := strLen_append z0 (mkS cs)
              exact two_ln (by omega)
            refine done_ _ _ ?_ k14 (b4.up (by omega))
            have tc : tl (cutS (z0 ++ mkS cs) none (some 8)) = (tl (z0 ++ mkS cs)).take 8 := tl_cut_to (z0 ++ mkS cs) 8
            refine nameS_of ?_ ?_ ?_
            · rw [tc, List.length_take, tl_append, List.length_append]; omega
            · rw [tc, List.length_take]; omega
            · rw [tc]
              intro x m
              have m := List.mem_of_mem_take m
              rw [tl_append] at m
              rcases List.mem_append.mp m with m | m
              · exact u3 x m
              · exact v3 x m
          · exact done_ _ _ gz (k13.trans (But.of k3e)) ((b3.same k3e).up (by omega))
    · rintro σ H1 ⟨ns, k1, b1, f1, l1, g1, d1, a1, a2, a3, a4, a5, a6, a7, rfl⟩
      exact ⟨_, rfl, q F ns H1 k1 b1 hF nF f1 l1 g1 d1⟩
end
end K10

namespace K10
open PySem PySem.Spec PyProof.Rows L2
abbrev sAreLines : Stmt := top 15
theorem scAreLines : FnScope ["value", "line"] ["value"] (defScope sAreLines) := ⟨rfl, rfl, rfl, by decide +kernel, rfl, by decide +kernel, by decide +kernel⟩
theorem listD_row {d : PyData} : listD d = (rowD d).isSome := by
  cases d <;> rfl
theorem rowD_of {d : PyData} {ds : List PyData} : rowD d = some ds ↔ d = .list ds ∨ d = .tuple ds := by
  cases d <;> simp [rowD]
theorem lineOf_some {d : PyData} {l : Line} (h : lineOf d = some l) : d = dLine l ∧ lineS l = true := by
  cases d with
  | tuple ds =>
    match ds with
    | [] => cases h
    | [a] => cases a <;> cases h
    | [a, b] =>
      cases a with
      | str z =>
        cases b with
        | str y =>
          rw [lineOf_two] at h
          by_cases e : lineS (z, y) = true
          · rw [if_pos e] at h
            cases h
            exact ⟨rfl, e⟩
          · rw [if_neg e] at h
            cases h
        | _ => cases h
      | _ => cases b <;> cases h
    | a :: b :: c :: r => cases a <;> cases b <;> cases h
  | _ => cases h
theorem lineOf_good {l : Line} (h : lineS l = true) : lineOf (dLine l) = some l := by
  unfold dLine
  rw [lineOf_two, if_pos h]
/-- lines lie there as tuples -/
theorem lines_at {H : Hp} : ∀ {xs : List V} {ds : List PyData}, RddAll H xs ds → (∀ d ∈ ds, (lineOf d).isSome = true) →
    ∃ ps : List (Addr × Line), xs = (ps.map fun p => V.ref p.1) ∧ ds = (ps.map fun p => dLine p.2) ∧ (∀ p ∈ ps, H p.1 = some (.tup ((kLine p.2).map kV)) ∧ lineS p.2 = true) ∧ ds.filterMap lineOf = ps.map (·.2)
  | [], [], _, _ => ⟨[], rfl, rfl, (fun _ m => nomatch m), rfl⟩
  | x :: xs, d :: ds, .cons r t, h => by
    obtain ⟨ps, e1, e2, e3, e4⟩ := lines_at t fun y m => h y (List.mem_cons_of_mem _ m)
    obtain ⟨l, hl⟩ := Option.isSome_iff_exists.mp (h d List.mem_cons_self)
    obtain ⟨ed, el⟩ := lineOf_some hl
    rw [ed] at r
    unfold dLine at r
    cases r with
    | tup hp ra =>
      obtain ⟨a, b, rfl, r1, r2⟩ := rdds_two ra
      cases r1
      cases r2
      refine ⟨(_, l) :: ps, by rw [e1]; rfl, by rw [e2, ed]; rfl, fun p m => ?_, ?_⟩
      · rcases List.mem_cons.mp m with rfl | m
        · exact ⟨hp, el⟩
        · exact e3 p m
      · rw [List.filterMap_cons_some hl, e4]
        rfl
def spAreLines : Sp := fun vs H Q _ => ∃ v d, vs = [v] ∧ Rdd H v d ∧ Light d ∧ (∀ ds, rowD d = some ds → ds.length < 64) ∧ ∀ H', Same H H' → Q (.bl (linesOf d).isSome) H'
section
variable {P : Program} {w : World} {K : PySem.W.Frag} {mg : Str → Option Value} {base : Heap} {f : Addr} {fd : FuncData}
theorem ok_are_lines (F : Fd K "are_lines" sAreLines f fd) (g : mg "are_lines" = some (.ref f)) (B : Bl mg) (o_is_list : Ok P w K mg base CX0 1 "is_list" sIsList ["value"] spIsList) (o_is_line : Ok P w K mg base CX0 2 "is_line" sIsLine ["value"] spIsLine)
    (o_are_different : Ok P w K mg base CX0 1 "are_different" sDiff ["values"] (spDiffX K)) : Ok P w K mg base CX0 3 "are_lines" sAreLines ["value"] spAreLines := by
  refine ⟨f, fd, g, F, F.bindsN fun _ _ _ _ _ _ us hl => match us, hl with | [_], _ => rfl, F.ok scAreLines (fun vs H Q E h => ?_) (fun cdv A outer s H vs Q E hr h => ?_)⟩
  · obtain ⟨v, d, rfl, _⟩ := h
    rfl
  · refine ⟨_, (pss_one (ps_ret (pe_and (pe_o o_is_list (hr.mono (by decide)) (by rfl) (pa_cons (pv 0) pa_nil)) (pe_and (pe_callB (cr_all rfl) (by rfl) (B.u "all" (by decide +kernel)) (by decide +kernel) (pa_cons (pe_lc (own := [("line", 1)]) (g := gName 1) rfl scAreLines.nd (pi_seq (pv 0)) (blkOk_by (N := ["value", "line"]) (sc := defScope sAreLines) (by decide +kernel)) (fun _ _ _ _ _ => (pg_name (i := 1) scAreLines.nd rfl (Or.inl rfl))) (fun _ _ _ _ _ => pts_nil) (fun _ _ _ _ _ => (pe_o o_is_line (hr.mono (by decide)) (by rfl) (pa_cons (pv 1) pa_nil)))) pa_nil)) (pe_one (pe_o o_are_different (hr.mono (by decide)) (by rfl) (pa_cons (pv 0) pa_nil))))))), ?_⟩
    obtain ⟨v, d, rfl, r, t, few, q⟩ := h
    refine ⟨_, rfl, v, d, rfl, r, fun H1 k1 => ⟨_, rfl, iteB (fun e => ?_) fun e => ?_⟩⟩
    · obtain ⟨p, xs, ds, rfl, hp, ra, hd⟩ := row_of r e
      have hp1 := hp.mono k1
      have ra1 := ra.mono k1
      have l := rdds_len ra
      have lt := few ds (rowD_of.mpr hd)
      have tm := (t.row hd).2
      refine ⟨_, rfl, p, xs, rfl, hp1.sq, fun J w D hD => ?_⟩
      refine lc_gen w (fun _ => true) (fun i y _ => y = .bl (lineOf (ds.getD i .none)).isSome) (fun _ _ _ _ _ h => h) hD (by omega) (fun H' k => ?_) ?_ ?_
      · rcases hp1 with h1 | h1
        · rw [h1, del_sub k _ _ h1]
        · rw [h1, del_sub k _ _ h1]
      · rintro i x H2 H3 K1 N1 hi k2 ⟨o, ho⟩ ⟨rfl, hx⟩ hK _
        have hdi : i < ds.length := by omega
        obtain ⟨x', hx', rx⟩ := rdds_get (ra1.mono (del_sub k2)) (List.getElem?_eq_getElem hdi)
        rw [hx] at hx'
        obtain rfl : x = x' := Option.some.inj hx'
        have ed : ds.getD i .none = ds[i] := by rw [List.getD_eq_getElem?_getD, List.getElem?_eq_getElem hdi]; rfl
        rw [ed] at hK
        exact ⟨rfl, _, rfl, x, ds[i], rfl, rx, tm _ (List.getElem_mem hdi), fun H4 k4 => hK rfl _ _ k4 rfl⟩
      · intro ys H2 k2 h2 l2 r2
        rw [filt_all] at l2 r2
        have ey := map_of (F := fun i => V.bl (lineOf (ds.getD i .none)).isSome) l2 r2
        have k12 := del_sub k2
        have ey2 : ys = ((List.range xs.length).map fun i => (lineOf (ds.getD i .none)).isSome).map V.bl := by rw [ey, List.map_map]; rfl
        have ea : (List.all ((List.range xs.length).map fun i => (lineOf (ds.getD i .none)).isSome) id) = ds.all fun x => (lineOf x).isSome := by
          rw [List.all_map, Bool.eq_iff_iff, List.all_eq_true, List.all_eq_true]
          constructor
          · intro h x m
            obtain ⟨i, hi, e⟩ := List.mem_iff_getElem.mp m
            have z := h i (List.mem_range.mpr (by omega))
            simp only [Function.comp, id, List.getD_eq_getElem?_getD, List.getElem?_eq_getElem hi, Option.getD_some, e] at z
            exact z
          · intro h i m
            have hi : i < ds.length := by have := List.mem_range.mp m; omega
            simp only [Function.comp, id, List.getD_eq_getElem?_getD, List.getElem?_eq_getElem hi, Option.getD_some]
            exact h _ (List.getElem_mem hi)
        have el : (linesOf d).isSome = ((ds.all fun x => (lineOf x).isSome) && decide (ds.filterMap lineOf).Nodup) := by
          unfold linesOf
          rw [rowD_of.mpr hd]
          dsimp only
          by_cases c : ((ds.all fun x => (lineOf x).isSome) && decide (ds.filterMap lineOf).Nodup) = true
          · rw [if_pos c, c] <;> rfl
          · rw [if_neg c]
            simpa using c
        refine ⟨D, (List.range xs.length).map fun i => (lineOf (ds.getD i .none)).isSome, rfl, by rw [← ey2]; exact SqL.of h2, _, rfl, iteB (fun al => ?_) fun al => ?_⟩
        · rw [ea] at al
          obtain ⟨ps, e1, e2, e3, e4⟩ := lines_at (ra1.mono k12) (List.all_eq_true.mp al)
          refine ⟨_, rfl, .inr ⟨p, ps.map fun x => (x.1, kLine x.2), rfl, ?_, fun x m => ?_, ?_, ?_⟩⟩
          · rw [List.map_map, show ((fun p : Addr × List Key => V.ref p.1) ∘ fun x : Addr × Line => (x.1, kLine x.2)) = fun p => V.ref p.1 from rfl, ← e1]
            exact (hp1.mono k12).sq
          · obtain ⟨y, my, rfl⟩ := List.mem_map.mp m
            exact (e3 y my).1
          · rw [List.length_map]
            have := congrArg List.length e2
            rw [List.length_map] at this
            omega
          · have z := q H2 (k1.trans k12)
            rw [el, al, Bool.true_and, e4] at z
            rw [List.map_map, show ((fun p : Addr × List Key => p.2) ∘ fun x : Addr × Line => (x.1, kLine x.2)) = kLine ∘ fun x => x.2 from rfl, ← List.map_map]
            have en : decide ((ps.map (·.2)).map kLine).Nodup = decide (ps.map (·.2)).Nodup := by
              apply decide_eq_decide.mpr
              constructor
              · exact fun h => List.Pairwise.of_map kLine (fun _ _ ne e => ne (congrArg kLine e)) h
              · exact fun h => List.Pairwise.map kLine (fun _ _ ne e => ne (kLine_inj e)) h
            rw [en]
            exact z
        · rw [ea] at al
          have z := q H2 (k1.trans k12)
          rw [el, show (ds.all fun x => (lineOf x).isSome) = false by simpa using al, Bool.false_and] at z
          exact z
    · have z := q H1 k1
      have e0 : rowD d = none := by
        rw [listD_row] at e
        simpa using e
      unfold linesOf at z
      rw [e0] at z
      exact z
end
end K10

namespace K10
open PySem PySem.Spec PyProof.Rows L2
abbrev sAreOwns : Stmt := top 19
theorem scAreOwns : FnScope ["values", "known", "own"] ["values"] (defScope sAreOwns) := ⟨rfl, rfl, rfl, by decide +kernel, rfl, by decide +kernel, by decide +kernel⟩
abbrev sIsFounds : Stmt := top 18
theorem scIsFounds : FnScope ["value", "item", "own", "lines"] ["value"] (defScope sIsFounds) := ⟨rfl, rfl, rfl, by decide +kernel, rfl, by decide +kernel, by decide +kernel⟩
def isNoneD : PyData → Bool
  | .none => true
  | _ => false
def strOf : PyData → Option Str
  | .str z => some z
  | _ => none
def known (ds : List PyData) : List PyData := ds.filter fun d => !isNoneD d
def ownsB (ds : List PyData) : Bool := (known ds).all (strD nameS) && decide ((known ds).filterMap strOf).Nodup
theorem strs_at {H : Hp} : ∀ {xs : List V} {ds : List PyData}, RddAll H xs ds → (∀ d ∈ ds, strD nameS d = true) → ∃ ns : List Str, xs = ns.map V.str ∧ ds = ns.map PyData.str ∧ ds.filterMap strOf = ns
  | [], [], _, _ => ⟨[], rfl, rfl, rfl⟩
  | x :: xs, d :: ds, .cons r t, h => by
    obtain ⟨ns, e1, e2, e3⟩ := strs_at t fun y m => h y (List.mem_cons_of_mem _ m)
    have z := h d List.mem_cons_self
    cases d with
    | str y =>
      cases r
      exact ⟨y :: ns, by rw [e1]; rfl, by rw [e2]; rfl, by rw [List.filterMap_cons_some (show strOf (.str y) = some y from rfl), e3]⟩
    | _ => cases z
def spAreOwns (K : PySem.W.Frag) : Sp := fun vs H Q _ => ∃ (l : Addr) (xs : List V) (ds : List PyData), vs = [.ref l] ∧ H l = some (.lst xs) ∧ RddAll H xs ds ∧ (∀ d ∈ ds, Light d) ∧ ds.length ≤ 100 ∧ ∀ H', Same H H' → Q (.bl (ownsB ds)) H'
theorem isNone_eq {H : Hp} {v : V} {d : PyData} (r : Rdd H v d) : decide (v = V.non) = isNoneD d := by
  cases r <;> rfl
section
variable {P : Program} {w : World} {K : PySem.W.Frag} {mg : Str → Option Value} {base : Heap} {f : Addr} {fd : FuncData}
theorem ok_are_owns (F : Fd K "are_owns" sAreOwns f fd) (g : mg "are_owns" = some (.ref f)) (B : Bl mg) (o_is_name : Ok P w K mg base CX0 1 "is_name" sIsName ["value"] (spName nameS)) (o_are_different : Ok P w K mg base CX0 1 "are_different" sDiff ["values"] (spDiffX K)) :
    Ok P w K mg base CX0 2 "are_owns" sAreOwns ["values"] (spAreOwns K) := by
  refine ⟨f, fd, g, F, F.bindsN fun _ _ _ _ _ _ us hl => match us, hl with | [_], _ => rfl, F.ok scAreOwns (fun vs H Q E h => ?_) (fun cdv A outer s H vs Q E hr h => ?_)⟩
  · obtain ⟨l, xs, ds, rfl, _⟩ := h
    rfl
  · refine ⟨_, (pss_cons (ps_setLc (i := 1) (own := [("own", 2)]) (g := gName 2) rfl scAreOwns.nd rfl rfl (sw_true rfl rfl rfl (by decide +kernel)) (pi_seq (pv 0)) (blkOk_by (N := ["values", "known", "own"]) (sc := defScope sAreOwns) (by decide +kernel)) (fun _ _ _ _ _ => (pg_name (i := 2) scAreOwns.nd rfl (Or.inl rfl))) (fun _ _ _ _ _ => (pts_one (pt_cmpR op_notN (pv 2) pe_non (nomark _)))) (fun _ _ _ _ _ => (pv 2)))
      (pss_one (ps_ret (pe_and (pe_callB (cr_all rfl) (by rfl) (B.u "all" (by decide +kernel)) (by decide +kernel) (pa_cons (pe_lc (own := [("own", 2)]) (g := gName 2) rfl scAreOwns.nd (pi_seq (pv 1)) (blkOk_by (N := ["values", "known", "own"]) (sc := defScope sAreOwns) (by decide +kernel)) (fun _ _ _ _ _ => (pg_name (i := 2) scAreOwns.nd rfl (Or.inl rfl))) (fun _ _ _ _ _ => pts_nil) (fun _ _ _ _ _ => (pe_o o_is_name (hr.mono (by decide)) (by rfl) (pa_cons (pv 2) pa_nil)))) pa_nil)) (pe_one (pe_o o_are_different (hr.mono (by decide)) (by rfl) (pa_cons (pv 1) pa_nil))))))), ?_⟩
    obtain ⟨l, xs, ds, rfl, hs, ra, lt, few, q⟩ := h
    have ll := rdds_len ra
    refine ⟨_, rfl, l, xs, rfl, .inl (SqL.of hs), fun J w D hD => ?_⟩
    refine lc_as w (as := ds) ll.symm (fun d => !isNoneD d) (fun d y H' => Rdd H' y d) (fun d y H1 H2 k r => r.mono k) hD (by omega) (fun H' k => by rw [hs, del_sub k _ _ hs]) ?_ ?_
    · rintro i a x H1 H2 K1 N1 ea k1 - ⟨rfl, hx⟩ hK hN
      obtain ⟨x', hx', rx⟩ := rdds_get (ra.mono k1) ea
      rw [hx] at hx'
      obtain rfl : x = x' := Option.some.inj hx'
      refine ⟨rfl, _, rfl, rfl, _, rfl, ?_⟩
      rw [isNone_eq rx]
      refine iteB (fun e => ⟨_, rfl, hK e _ _ (Same.refl _) rx⟩) fun e => hN e _ (Same.refl _)
    · intro ys H1 k1 h1 r1
      have rk : RddAll (del H1 D) ys (known ds) := by
        have z := All2.rdd (g := fun d => d) r1
        rw [List.map_id'] at z
        exact z
      have rk1 : RddAll H1 ys (known ds) := rk.mono del_le
      have lk : (known ds).length ≤ ds.length := List.length_filter_le _ _
      have ly := rdds_len rk1
      refine ⟨_, rfl, D, ys, rfl, .inl (SqL.of h1), fun J w D2 hD2 => ?_⟩
      refine lc_as w (as := known ds) ly.symm (fun _ => true) (fun d y _ => y = .bl (strD nameS d)) (fun _ _ _ _ _ h => h) hD2 (by omega) (fun H' k => by rw [h1, del_sub k _ _ h1]) ?_ ?_
      · rintro i a x H2 H3 K1 N1 ea k2 - ⟨rfl, hx⟩ hK _
        obtain ⟨x', hx', rx⟩ := rdds_get (rk1.mono (del_sub k2)) ea
        rw [hx] at hx'
        obtain rfl : x = x' := Option.some.inj hx'
        have la := lt a (List.mem_filter.mp (List.mem_of_getElem? ea)).1
        exact ⟨rfl, _, rfl, x, a, rfl, rx, (fun z e => Light.str (e ▸ la)), fun H4 k4 => hK rfl _ _ k4 rfl⟩
      · intro bs H2 k2 h2 r2
        rw [List.filter_eq_self.mpr fun _ _ => rfl] at r2
        have eb : bs = ((known ds).map fun d => strD nameS d).map V.bl := by rw [r2.map, List.map_map]; rfl
        have k12 := del_sub k2
        have ea : List.all ((known ds).map fun d => strD nameS d) id = (known ds).all (strD nameS) := by
          rw [List.all_map]
          rfl
        refine ⟨D2, (known ds).map fun d => strD nameS d, rfl, by rw [← eb]; exact SqL.of h2, _, rfl, iteB (fun al => ?_) fun al => ?_⟩
        · rw [ea] at al
          obtain ⟨ns, e1, e2, e3⟩ := strs_at (rk1.mono k12) (List.all_eq_true.mp al)
          refine ⟨_, rfl, .inl ⟨D, ns, rfl, .inl ?_, ?_, ?_⟩⟩
          · rw [← e1]
            exact SqL.of (k12 _ _ h1)
          · have := congrArg List.length e2
            rw [List.length_map] at this
            omega
          · have z := q H2 ((del_sub k1).trans k12)
            unfold ownsB at z
            rw [al, Bool.true_and, e3] at z
            exact z
        · rw [ea] at al
          have z := q H2 ((del_sub k1).trans k12)
          unfold ownsB at z
          rw [show (known ds).all (strD nameS) = false by simpa using al, Bool.false_and] at z
          exact z
/-- founds, by what is shown -/
def foundB : PyData → Bool
  | .tuple [_, ls] => (linesOf ls).isSome
  | _ => false
def fstD : PyData → PyData
  | .tuple (a :: _) => a
  | _ => .none
def foundsB (d : PyData) : Bool := match rowD d with
  | none => false
  | some ds => decide (1 ≤ ds.length) && (decide (ds.length ≤ 12) && (ds.all foundB && ownsB (ds.map fstD)))
theorem Light.fst {d : PyData} (t : Light d) : Light (fstD d) := by
  cases d with
  | tuple es =>
    match es with
    | [] => show (4 : Nat) ≤ 1000000; decide
    | a :: r => exact (t.row (.inr rfl)).2 a List.mem_cons_self
  | _ => show (4 : Nat) ≤ 1000000; decide
/-- few lines in each -/
def fewL : PyData → Prop
  | .tuple [_, ls] => ∀ ds, rowD ls = some ds → ds.length < 64
  | _ => True
def spIsFounds : Sp := fun vs H Q _ => ∃ v d, vs = [v] ∧ Rdd H v d ∧ Light d ∧ (∀ ds, rowD d = some ds → ∀ x ∈ ds, fewL x) ∧ ∀ H', Same H H' → Q (.bl (foundsB d)) H'
theorem ok_is_founds (F : Fd K "is_founds" sIsFounds f fd) (g : mg "is_founds" = some (.ref f)) (B : Bl mg) (h_N : ∃ t, mg "MOST_READERS" = some (.int 12 t)) (o_is_list : Ok P w K mg base CX0 1 "is_list" sIsList ["value"] spIsList) (o_is_tuple : Ok P w K mg base CX0 1 "is_tuple" sIsTuple ["value", "many"] spIsTuple)
    (o_are_lines : Ok P w K mg base CX0 3 "are_lines" sAreLines ["value"] spAreLines) (o_are_owns : Ok P w K mg base CX0 2 "are_owns" sAreOwns ["values"] (spAreOwns K)) : Ok P w K mg base CX0 4 "is_founds" sIsFounds ["value"] spIsFounds := by
  obtain ⟨t12, h_MOST_READERS⟩ := h_N
  refine ⟨f, fd, g, F, F.bindsN fun _ _ _ _ _ _ us hl => match us, hl with | [_], _ => rfl, F.ok scIsFounds (fun vs H Q E h => ?_) (fun cdv A outer s H vs Q E hr h => ?_)⟩
  · obtain ⟨v, d, rfl, _⟩ := h
    rfl
  · refine ⟨_, (pss_cons (ps_if (pw_or (pt_not (pt_val (pe_o o_is_list (hr.mono (by decide)) (by rfl) (pa_cons (pv 0) pa_nil)))) (pw_or1 (pt_not (pt_chain op_le op_le pe_int (pe_callB call_len (by rfl) (B.u "len" (by decide +kernel)) boot_len (pa_cons (pv 0) pa_nil)) (pe_glob (by rfl) h_MOST_READERS (v := .int 12) ⟨_, rfl⟩))))).pt
        (pss_one (ps_ret pe_bl))
        pss_nil)
      (pss_cons (ps_for (passes_of rfl) rfl (pi_seq (pv 0)) (pg_name (i := 1) scIsFounds.nd rfl (Or.inl rfl))
        (pss_one (ps_if (pw_or (pt_not (pt_val (pe_o o_is_tuple (hr.mono (by decide)) (by rfl) (pa_cons (pv 1) (pa_cons pe_int pa_nil))))) (pw_or1 (pt_not (pt_val (pe_o o_are_lines (hr.mono (by decide)) (by rfl) (pa_cons (pe_ix ix_seq (pv 1) pe_int fun _ _ => rfl) pa_nil)))))).pt
          (pss_one (ps_ret pe_bl))
          pss_nil)))
      (pss_one (ps_ret (pe_o o_are_owns (hr.mono (by decide)) (by rfl) (pa_cons (pe_lc (own := [("own", 2), ("lines", 3)]) (g := gTup K 2 (gCons (gName 2) (gCons (gName 3) gNil))) rfl scIsFounds.nd (pi_seq (pv 0)) (blkOk_by (N := ["value", "item", "own", "lines"]) (sc := defScope sIsFounds) (by decide +kernel)) (fun _ _ _ _ _ => (pg_tup rfl (pgs_cons (pg_name (i := 2) scIsFounds.nd rfl (Or.inl rfl)) (pgs_cons (pg_name (i := 3) scIsFounds.nd rfl (Or.inl rfl)) pgs_nil)))) (fun _ _ _ _ _ => pts_nil) (fun _ _ _ _ _ => (pv 2))) pa_nil)))))), ?_⟩
    obtain ⟨v, d, rfl, r, t, few, q⟩ := h
    have no : foundsB d = false → ∀ H', Same H H' → Q (.bl false) H' := fun e H' k => e ▸ q H' k
    refine ⟨_, rfl, v, d, rfl, r, fun H1 k1 => ⟨_, rfl, iteB (fun e => iteT ?_) fun e => ?_⟩⟩
    · refine no ?_ _ k1
      have e0 : rowD d = none := by
        rw [listD_row] at e
        simpa using e
      unfold foundsB
      rw [e0]
    have e := not_f e
    obtain ⟨p, xs, ds, rfl, hp, ra, hd⟩ := row_of r e
    have l := rdds_len ra
    have tl := t.row hd
    have hp1 := hp.mono k1
    have few1 := few ds (rowD_of.mpr hd)
    have ef : foundsB d = (decide (1 ≤ ds.length) && (decide (ds.length ≤ 12) && (ds.all foundB && ownsB (ds.map fstD)))) := by
      unfold foundsB
      rw [rowD_of.mpr hd]
    rw [ef] at no q
    refine ⟨_, rfl, _, _, rfl, hp1.len, _, _, rfl, rfl, _, rfl, iteB (fun e1 => ?_) fun e1 => ?_⟩
    · have l1 : 1 ≤ ds.length := by
        have := of_decide_eq_true e1
        omega
      refine ⟨_, _, rfl, rfl, _, rfl, iteB (fun e2 => ?_) fun e2 => ?_⟩
      · refine no ?_ _ k1
        have l2 : ¬ ds.length ≤ 12 := fun y => by
          have e3 : decide (((xs.length : Nat) : Int) ≤ 12) = true := decide_eq_true (by omega)
          rw [e3] at e2
          cases e2
        rw [decide_eq_false l2, Bool.false_and, Bool.and_false]
      have l2 : ds.length ≤ 12 := by
        have := of_decide_eq_true (not_f e2)
        omega
      rw [decide_eq_true l1, decide_eq_true l2, Bool.true_and, Bool.true_and] at no q
      have hpq : (Same H) H1 := k1
      refine ⟨_, rfl, p, xs, rfl, hp1.sq, fun J w => ?_⟩
      refine for_it w (fun i σ H' => Same H H' ∧ (∀ x ∈ ds.take i, foundB x = true) ∧ ∃ a b c, σ = [some (.ref p), a, b, c]) ⟨k1, (fun x m => by simp at m), none, none, none, rfl⟩ (fun i σ H' _ h => ?_) ?_ ?_
      · rcases hp with z | z
        · rw [h.1 _ _ z, k1 _ _ z]
        · rw [h.1 _ _ z, k1 _ _ z]
      · rintro i x σ H2 H3 hi ⟨k2, good, a, b, c, rfl⟩ ⟨rfl, hx⟩
        have hdi : i < ds.length := by omega
        have ed := List.getElem?_eq_getElem hdi
        have et := List.take_succ_eq_append_getElem hdi
        have md := List.getElem_mem hdi
        generalize ds[i] = y at ed et md
        obtain ⟨x', hx', rx⟩ := rdds_get (ra.mono k2) ed
        rw [hx] at hx'
        obtain rfl : x = x' := Option.some.inj hx'
        have bad : foundB y = false → (ds.all foundB && ownsB (ds.map fstD)) = false := fun z => by
          rw [show ds.all foundB = false from by
            rw [← Bool.not_eq_true, List.all_eq_true]
            intro al
            rw [al y md] at z
            cases z]
          rfl
        have ty := tl.2 y md
        have fy := few1 y md
        refine ⟨_, rfl, x, y, 2, rfl, rx, (fun es e => ?_), _, rfl, iteB (fun e3 => iteT ?_) fun e3 => ?_⟩
        · have := (ty.row (.inr e)).1
          omega
        · refine no (bad ?_) _ k2
          cases y with
          | tuple es =>
            match es with
            | [] => rfl
            | [_] => rfl
            | [_, _] => simp [tupD] at e3
            | _ :: _ :: _ :: _ => rfl
          | _ => rfl
        have e3 := not_f e3
        obtain ⟨pt, zs, es, rfl, rfl, ht, rt⟩ := rx.tup_of (by cases y with | tuple es => rfl | _ => cases e3)
        have l3 : es.length = 2 := by simpa [tupD] using e3
        obtain ⟨ow, ln, rfl⟩ : ∃ a b, es = [a, b] := by
          match es, l3 with
          | [a, b], _ => exact ⟨a, b, rfl⟩
        obtain ⟨x1, x2, rfl, r1, r2⟩ := rdds_two rt
        have tr := (ty.row (.inr rfl)).2
        refine ⟨_, rfl, ixTup (SqT.of ht) rfl ⟨x2, ln, rfl, r2, tr ln (by simp), fy, fun H4 k4 => ⟨_, rfl, iteB (fun e4 => ?_) fun e4 => ?_⟩⟩⟩
        · exact no (bad (by show (linesOf ln).isSome = false; simpa using e4)) _ (k2.trans k4)
        · refine ⟨k2.trans k4, fun x m => ?_, _, _, _, rfl⟩
          rw [et] at m
          rcases List.mem_append.mp m with m | m
          · exact good x m
          · rw [List.mem_singleton.mp m]
            exact not_f e4
      · rintro σ H2 ⟨k2, good, a, b, c, rfl⟩
        rw [l, List.take_length] at good
        have al : ds.all foundB = true := List.all_eq_true.mpr good
        rw [al, Bool.true_and] at q
        refine ⟨_, rfl, p, xs, rfl, (hp.mono k2).sq, fun J w2 D hD => ?_⟩
        refine lc_as w2 (as := ds) l.symm (fun _ => true) (fun d y H' => Rdd H' y (fstD d)) (fun d y H1 H2 k r => r.mono k) hD (by omega) (fun H' k => ?_) ?_ ?_
        · rcases hp with z | z
          · rw [k2 _ _ z, del_sub k _ _ (k2 _ _ z)]
          · rw [k2 _ _ z, del_sub k _ _ (k2 _ _ z)]
        · rintro i y x H3 H4 K1 N1 ey k3 - ⟨rfl, hx⟩ hK _
          obtain ⟨x', hx', rx⟩ := rdds_get ((ra.mono k2).mono k3) ey
          rw [hx] at hx'
          obtain rfl : x = x' := Option.some.inj hx'
          have gy := al
          rw [List.all_eq_true] at gy
          have gy := gy y (List.mem_of_getElem? ey)
          obtain ⟨ow, ln, rfl⟩ : ∃ a b, y = .tuple [a, b] := by
            cases y with
            | tuple es =>
              match es with
              | [] => cases gy
              | [_] => cases gy
              | [a, b] => exact ⟨a, b, rfl⟩
              | _ :: _ :: _ :: _ => cases gy
            | _ => cases gy
          cases rx with
          | tup ht rt =>
            obtain ⟨x1, x2, rfl, r1, r2⟩ := rdds_two rt
            exact ⟨_, _, rfl, SqT.of (del_le _ _ ht), rfl, _, _, rfl, _, _, rfl, rfl, rfl, _, rfl, hK rfl _ _ (Same.refl _) r1⟩
        · intro ys H3 k3 h3 r3
          rw [List.filter_eq_self.mpr fun _ _ => rfl] at r3
          have r4 := r3.rdd.mono (del_le (H := H3) (p := D))
          refine ⟨D, ys, ds.map fstD, rfl, h3, r4, fun x m => ?_, by rw [List.length_map]; omega, fun H4 k4 => q H4 (k2.trans ((del_sub k3).trans k4))⟩
          obtain ⟨y, my, rfl⟩ := List.mem_map.mp m
          exact (tl.2 y my).fst
    · refine ⟨false, rfl, iteT (no ?_ _ k1)⟩
      have l1 : ¬ 1 ≤ ds.length := fun y => by
        have e3 : decide ((1 : Int) ≤ ((xs.length : Nat) : Int)) = true := decide_eq_true (by omega)
        rw [e3] at e1
        cases e1
      rw [decide_eq_false l1, Bool.false_and]
end
end K10

namespace K10
open PySem PySem.Spec PyProof.Rows L2
abbrev sChkF : Stmt := top 20
theorem scChkF : FnScope ["founds"] ["founds"] (defScope sChkF) := ⟨rfl, rfl, rfl, by decide +kernel, rfl, by decide +kernel, by decide +kernel⟩
abbrev sChkR : Stmt := top 23
theorem scChkR : FnScope ["founds", "i", "j"] ["founds", "i", "j"] (defScope sChkR) := ⟨rfl, rfl, rfl, by decide +kernel, rfl, by decide +kernel, by decide +kernel⟩
/-- refused by the class x, with v as f -/
def Refuses (K : PySem.W.Frag) (x f : Str) (v : V) (H : Hp) (E : XK) : Prop := ∀ d H', Same H H' → H' d = some (.xd [(f, v)]) → E (.ref (He.ga K x)) (some d) H'
theorem Refuses.mono {K : PySem.W.Frag} {x f : Str} {v : V} {H H1 : Hp} {E : XK} (k : Same H H1) (h : Refuses K x f v H E) : Refuses K x f v H1 E := fun d H' k' e => h d H' (k.trans k') e
def fewD (d : PyData) : Prop := ∀ ds, rowD d = some ds → ∀ x ∈ ds, fewL x
def spChkF (K : PySem.W.Frag) : Sp := fun vs H Q E => ∃ v d, vs = [v] ∧ Rdd H v d ∧ Light d ∧ fewD d ∧ (foundsB d = false → Refuses K "InvalidFounds" "given" v H E) ∧ (foundsB d = true → ∀ H', Same H H' → Q .non H')
/-- how many readers -/
def readers (d : PyData) : Nat := ((rowD d).getD []).length
def sameI : PyData → PyData → Bool
  | .int a, .int b => decide (a = b)
  | _, _ => false
def badI (n : Nat) (di dj : PyData) : Bool := !belowD n dj || sameI di dj
/-- what is refused of a question, and what is not -/
structure Asked (K : PySem.W.Frag) (v vi vj : V) (d di dj : PyData) (H : Hp) (E : XK) (W : Prop) : Prop where
  r : Rdd H v d
  li : Light d
  few : fewD d
  ri : Rdd H vi di
  rj : Rdd H vj dj
  nf : foundsB d = false → Refuses K "InvalidFounds" "given" v H E
  ni : foundsB d = true → belowD (readers d) di = false → Refuses K "InvalidIndex" "given" vi H E
  nj : foundsB d = true → belowD (readers d) di = true → badI (readers d) di dj = true → Refuses K "InvalidIndex" "given" vj H E
  ok : foundsB d = true → belowD (readers d) di = true → badI (readers d) di dj = false → W
def spChkR (K : PySem.W.Frag) : Sp := fun vs H Q E => ∃ v vi vj d di dj, vs = [v, vi, vj] ∧ Asked K v vi vj d di dj H E (∀ H', Same H H' → Q .non H')
section
variable {P : Program} {w : World} {K : PySem.W.Frag} {mg : Str → Option Value} {base : Heap} {f : Addr} {fd : FuncData}
theorem ok_check_founds (F : Fd K "check_founds" sChkF f fd) (g : mg "check_founds" = some (.ref f)) (O_InvalidFounds : One P w K mg base "InvalidFounds" "given") (o_is_founds : Ok P w K mg base CX0 4 "is_founds" sIsFounds ["value"] spIsFounds) :
    Ok P w K mg base (L2N.CX P w) 5 "check_founds" sChkF ["founds"] (spChkF K) := by
  refine ⟨f, fd, g, F, F.bindsN fun _ _ _ _ _ _ us hl => match us, hl with | [_], _ => rfl, F.ok scChkF (fun vs H Q E h => ?_) (fun cdv A outer s H vs Q E hr h => ?_)⟩
  · obtain ⟨v, d, rfl, _⟩ := h
    rfl
  · have tk : L2N.Takes (cxOf (L2N.CX P w) P w K mg base ["founds"] "check_founds" (defScope sChkF) f cdv A outer s H E) (fun cls d _ H => E cls d H) := L2N.takes_of rfl rfl rfl rfl
    refine ⟨_, (pss_one (ps_if (pt_not (pt_val (pe_o o_is_founds (hr.mono (by decide)) (by rfl) (pa_cons (pv 0) pa_nil))))
        (pss_one (L2N.ps_raise rfl tk (by exact (pmk_e1 O_InvalidFounds (hr.mono (by decide)) (pv 0) (by rfl)))))
        pss_nil)), ?_⟩
    obtain ⟨v, d, rfl, r, t, few, no, ok⟩ := h
    refine ⟨_, rfl, v, d, rfl, r, t, few, fun H1 k1 => ⟨_, rfl, iteB (fun e => ?_) fun e => ?_⟩⟩
    · exact ⟨_, rfl, (no (not_t e)).mono k1⟩
    · exact ok (not_f e) _ k1
theorem sameI_eq {H : Hp} {vi vj : V} {di dj : PyData} {n : Nat} (ri : Rdd H vi di) (rj : Rdd H vj dj) (bi : belowD n di = true) (bj : belowD n dj = true) : decide (vi = vj) = sameI di dj := by
  cases di with
  | int a =>
    cases dj with
    | int b =>
      cases ri
      cases rj
      show decide (V.int a = V.int b) = decide (a = b)
      exact decide_eq_decide.mpr ⟨V.int.inj, fun e => by rw [e]⟩
    | _ => cases bj
  | _ => cases bi
theorem ok_check_readers (F : Fd K "check_readers" sChkR f fd) (g : mg "check_readers" = some (.ref f)) (B : Bl mg) (O_InvalidIndex : One P w K mg base "InvalidIndex" "given") (o_is_below : Ok P w K mg base CX0 1 "is_below" sIsBelow ["value", "bound"] spIsBelow)
    (o_check_founds : Ok P w K mg base (L2N.CX P w) 5 "check_founds" sChkF ["founds"] (spChkF K)) :
    Ok P w K mg base (L2N.CX P w) 6 "check_readers" sChkR ["founds", "i", "j"] (spChkR K) := by
  refine ⟨f, fd, g, F, F.bindsN fun _ _ _ _ _ _ us hl => match us, hl with | [_, _, _], _ => rfl, F.ok scChkR (fun vs H Q E h => ?_) (fun cdv A outer s H vs Q E hr h => ?_)⟩
  · obtain ⟨v, vi, vj, d, di, dj, rfl, _⟩ := h
    rfl
  · have tk : L2N.Takes (cxOf (L2N.CX P w) P w K mg base ["founds", "i", "j"] "check_readers" (defScope sChkR) f cdv A outer s H E) (fun cls d _ H => E cls d H) := L2N.takes_of rfl rfl rfl rfl
    refine ⟨_, (pss_cons (ps_expr (pe_oS o_check_founds (hr.mono (by decide)) (by rfl) (fun σ => L2N.passAt tk σ) (pa_cons (pv 0) pa_nil)))
      (pss_cons (ps_if (pt_not (pt_val (pe_o o_is_below (hr.mono (by decide)) (by rfl) (pa_cons (pv 1) (pa_cons (pe_callB call_len (by rfl) (B.u "len" (by decide +kernel)) boot_len (pa_cons (pv 0) pa_nil)) pa_nil)))))
        (pss_one (L2N.ps_raise rfl tk (by exact (pmk_e1 O_InvalidIndex (hr.mono (by decide)) (pv 1) (by rfl)))))
        pss_nil)
      (pss_one (ps_if (pw_or (pt_not (pt_val (pe_o o_is_below (hr.mono (by decide)) (by rfl) (pa_cons (pv 2) (pa_cons (pe_callB call_len (by rfl) (B.u "len" (by decide +kernel)) boot_len (pa_cons (pv 0) pa_nil)) pa_nil))))) (pw_or1 (pt_cmpR op_eq (pv 1) (pv 2) (nomark _)))).pt
        (pss_one (L2N.ps_raise rfl tk (by exact (pmk_e1 O_InvalidIndex (hr.mono (by decide)) (pv 2) (by rfl)))))
        pss_nil)))), ?_⟩
    obtain ⟨v, vi, vj, d, di, dj, rfl, a⟩ := h
    refine ⟨_, rfl, v, d, rfl, a.r, a.li, a.few, a.nf, fun fo H1 k1 => ?_⟩
    have fo2 := fo
    unfold foundsB at fo2
    obtain ⟨ds, hd⟩ : ∃ ds, rowD d = some ds := by
      cases e : rowD d with
      | none => rw [e] at fo2; cases fo2
      | some ds => exact ⟨ds, rfl⟩
    obtain ⟨p, xs, ds', rfl, hp, ra, hd'⟩ := row_of a.r (by rw [listD_row, hd]; rfl)
    have l := rdds_len ra
    have er : readers d = xs.length := by
      unfold readers
      rw [rowD_of.mpr hd', l]
      rfl
    have ni := a.ni fo
    have nj := a.nj fo
    have ok := a.ok fo
    rw [er] at ni nj ok
    refine ⟨_, rfl, _, rfl, _, _, rfl, (hp.mono k1).len, vi, di, _, rfl, a.ri.mono k1, _, rfl, iteB (fun e => ?_) fun e => ?_⟩
    · exact ⟨_, rfl, (ni (not_t e)).mono k1⟩
    have bi := not_f e
    refine ⟨_, rfl, _, rfl, _, _, rfl, (hp.mono k1).len, vj, dj, _, rfl, a.rj.mono k1, _, rfl, iteB (fun e => iteT ?_) fun e => ?_⟩
    · refine ⟨_, rfl, (nj bi ?_).mono k1⟩
      unfold badI
      rw [e]
      rfl
    have bj := not_f e
    have se := sameI_eq a.ri a.rj bi bj
    have fl : scal vi vj = true := by
      obtain ⟨z1, h1, _⟩ := a.ri.int_of (by cases di with | int i => rfl | _ => cases bi)
      obtain ⟨z2, h2, _⟩ := a.rj.int_of (by cases dj with | int i => rfl | _ => cases bj)
      rw [h1, h2]
      rfl
    refine ⟨_, rfl, _, rfl, fl, _, rfl, ?_⟩
    rw [se]
    refine iteB (fun e => ?_) fun e => ?_
    · refine ⟨_, rfl, (nj bi ?_).mono k1⟩
      unfold badI
      rw [bj, e]
      rfl
    · refine ok bi ?_ _ k1
      unfold badI
      rw [bj, e]
      rfl
end
end K10

/-! enumerate(t) of a tuple t -/
namespace L2
open PySem PySem.Spec PyProof.Rows
theorem meets_enumT (l : Addr) (items : Array Value) : Meets (Builtin.«enumerate.__new__» ⟨[.type "enumerate", .ref l], []⟩) fun x R s =>
    s.heap.IsTuple l items ∧ R (.ok (.ret (.ref (s.heap.push { cls := .type "tuple_iterator", data := .fields #[.ref l, .int 0 0] }).objs.size)))
      { heap := (s.heap.push { cls := .type "tuple_iterator", data := .fields #[.ref l, .int 0 0] }).push { cls := .type "enumerate", data := .fields #[.none, .bool false, .ref s.heap.objs.size, rawInt 0, .none, .none] }, gens := s.gens, drawn := s.drawn, toks := s.toks, os := s.os } := by
  refine Meets.of_wp fun prog w A R s h => ?_
  obtain ⟨hp, g, d, tk, os⟩ := s
  obtain ⟨hl, h⟩ := h
  have hsub := sub_enumerate
  unfold Builtin.«enumerate.__new__»
  refine wpAny_bind ?_
  unfold Builtin.SmallTypes.newClass
  refine wpAny_bind ?_
  refine wpAny_pure (wpAny_ite_false rfl (wpAny_bind (wpAny_of_eq hsub (wpAny_ite_false rfl (wpAny_pure (wpAny_ite_true rfl (wpAny_bind ?_)))))))
  unfold Builtin.SmallTypes.calledThroughType
  refine wpAny_bind (wpAny_stack_any fun st => wpAny_pure ?_)
  have fin : ∀ z, z = (pure (.ref l, Option.none) : Sem (Value × Option Value)) → wpAny (model prog w) A.in1 (z >>= fun x => do
        let it ← pyIter x.1
        let r ← Builtin.SmallTypes.newRecord (Value.type "enumerate") (Builtin.SmallTypes.ownedTupleFields ++ [it, rawInt 0, .none, .none])
        ret r) (fun fin s' => ∃ v, fin = Fin.done (Flow.ret v) ∧ R (Except.ok (Flow.ret v)) s') (fun e s' => R (Except.error e) s') { heap := hp, gens := g, drawn := d, toks := tk, os := os } := fun z hz => by
    refine wpAny_bind (wpAny_of_eq hz (wpAny_bind (wpAny_pyIter_tuple hl ?_)))
    refine wpAny_bind ?_
    unfold Builtin.SmallTypes.newRecord
    exact wpAny_newObj_type (wpAny_pure ⟨_, rfl, h⟩) (by show 6 ≤ _; rw [sizeLine_eq]; decide)
  generalize List.drop 1 st = L
  split
  · generalize (_ == Value.type "enumerate") = b
    cases b
    · exact fin _ rfl
    · exact fin _ rfl
  · exact fin _ rfl
section
variable {prog : Program} {w : World} {A : Around} {E : Value → Shared → Prop} {s : Shared} {it t : Addr} {i : Nat} {items : Array Value} {x : Value} {Q : Value → Shared → Prop}
theorem tupNext_item (hit : s.heap.IsTupleIter it t i) (ht : s.heap.IsTuple t items) (hx : items[i]? = some x)
    (hQ : ∀ h' : Heap, h'.IsTupleIter it t (i + 1) → Heap.SameBut it s.heap h' → Q x { heap := h', gens := s.gens, drawn := s.drawn, toks := s.toks, os := s.os }) :
    wpAny (model prog w) A (Builtin.SmallTypes.nextOf (.ref it)) Q E s := by
  have hty : s.TypeIs (.ref it) "tuple_iterator" := IsTupIter.typeIs hit
  obtain ⟨o, ho, hc, hd⟩ := hit
  obtain ⟨ol, hol, hlc, nl, hdl⟩ := ht
  refine wpAny_bind (wpAny_callSpecial?_slot hty slot_tupleiter_next (wpAny_call_entry slot_tupleiter_next hty entry_tupleiter_next ?_ (args_tupleiter_next (.ref it))))
  refine wpAny_bind (wpAny_of_eq (a := (Value.ref it, [])) rfl ?_)
  refine wpAny_bind (wpAny_field ho hd rfl ?_)
  refine wpAny_ite_false rfl ?_
  refine wpAny_bind (wpAny_field ho hd rfl (wpAny_bind (wpAny_seqItems hol hdl ?_)))
  show wpAny _ _ (match items[i]? with | some x => _ | none => _) _ _ _
  rw [hx]
  refine wpAny_bind (wpAny_setField ho hd (by simp) (wpAny_pure ⟨x, rfl, wpAny_pure (hQ _ ?_ (Heap.SameBut.update s.heap it _))⟩))
  refine ⟨_, Heap.get?_update_self _ ho (Obj.isFreed_of_fields (Obj.data_mapFields hd _)), (Obj.cls_mapFields o _).trans hc, ?_⟩
  rw [Obj.data_mapFields hd]
  simp [rawInt]
theorem tupNext_end (hh : A.handled = Option.none) (hit : s.heap.IsTupleIter it t i) (ht : s.heap.IsTuple t items) (hx : items[i]? = Option.none)
    (hE : ∀ (h' : Heap) (e : Addr), Heap.ExtBut it s.heap h' → (∃ o, h'.get? e = some o ∧ o.cls = .type "StopIteration") → E (.ref e) { heap := h', gens := s.gens, drawn := s.drawn, toks := s.toks, os := s.os }) :
    wpAny (model prog w) A (Builtin.SmallTypes.nextOf (.ref it)) Q E s := by
  have hty : s.TypeIs (.ref it) "tuple_iterator" := IsTupIter.typeIs hit
  obtain ⟨o, ho, hc, hd⟩ := hit
  obtain ⟨ol, hol, hlc, nl, hdl⟩ := ht
  refine wpAny_bind (wpAny_callSpecial?_slot hty slot_tupleiter_next (wpAny_call_entry slot_tupleiter_next hty entry_tupleiter_next ?_ (args_tupleiter_next (.ref it))))
  refine wpAny_bind (wpAny_of_eq (a := (Value.ref it, [])) rfl ?_)
  refine wpAny_bind (wpAny_field ho hd rfl ?_)
  refine wpAny_ite_false rfl ?_
  refine wpAny_bind (wpAny_field ho hd rfl (wpAny_bind (wpAny_seqItems hol hdl ?_)))
  show wpAny _ _ (match items[i]? with | some x => _ | none => _) _ _ _
  rw [hx]
  refine wpAny_bind (wpAny_rule (wpAny_bind (wpAny_setField ho hd (by simp) ?_)))
  unfold Builtin.SmallTypes.stopIteration
  refine wpAny_bind ?_
  unfold newExc
  refine wpAny_bind (wpAny_newObj_type (wpAny_bind (wpAny_of_eq rfl (wpAny_newObj_type ?_ (sizeOk_excFields _ _ _ _ _ _ _ _)))) (by show 0 ≤ _; omega))
  unfold raiseNew
  refine wpAny_bind (wpAny_handled ?_)
  rw [show (A.in1).handled = Option.none from hh]
  refine wpAny_bind (wpAny_pure (wpAny_throw (hE _ _ ?_ ?_)))
  · intro b o' hb e
    refine Heap.get?_push_of_some _ (Heap.get?_push_of_some _ ?_)
    exact (Heap.SameBut.update s.heap it _).extBut b o' hb e
  · exact ⟨_, Heap.get?_push_size _ rfl, rfl⟩
theorem draws_tuple (hh : A.handled = Option.none) (it t : Addr) (hne : t ≠ it) (items : Array Value) : Draws prog w A it [it, t] items.size (fun i v => items[i]? = some v) fun i h => h.IsTupleIter it t i ∧ h.IsTuple t items where
  live := fun i h st => let ⟨o, ho, _⟩ := st.1; ⟨o, ho⟩
  frame := fun i h h' st hk => ⟨st.1.at fun o e => hk it (by simp) o e, st.2.at fun o e => hk t (by simp) o e⟩
  item := fun i s Q E hi st hQ => tupNext_item (x := items[i]) st.1 st.2 (by simp [hi]) fun h' h1 h2 => hQ items[i] h' s.toks (by simp [hi]) ⟨h1, st.2.extBut h2.extBut hne⟩ h2
  done := fun s Q E st hE => tupNext_end hh st.1 st.2 (by simp) hE
theorem draws_ended (hh : A.handled = Option.none) (it t : Addr) (items : Array Value) (i : Nat) (hx : items[i]? = Option.none) : Draws prog w A it [it, t] i (fun _ _ => False) fun j h => j = i ∧ h.IsTupleIter it t i ∧ h.IsTuple t items where
  live := fun j h st => let ⟨o, ho, _⟩ := st.2.1; ⟨o, ho⟩
  frame := fun j h h' st hk => ⟨st.1, st.2.1.at fun o e => hk it (by simp) o e, st.2.2.at fun o e => hk t (by simp) o e⟩
  item := fun j s Q E hi st hQ => absurd st.1 (Nat.ne_of_lt hi)
  done := fun s Q E st hE => tupNext_end hh st.2.1 st.2.2 hx hE
theorem call_enumT (hl : s.heap.IsTuple t items)
    (h : ∀ h' : Heap, IsEnum h' (s.heap.objs.size + 1) s.heap.objs.size 0 .none → h'.IsTupleIter s.heap.objs.size t 0 → h'.objs.size = s.heap.objs.size + 2 → (∀ (b : Addr) (o : Obj), s.heap.get? b = some o → h'.get? b = some o) →
      Q (.ref (s.heap.objs.size + 1)) { heap := h', gens := s.gens, drawn := s.drawn, toks := s.toks, os := s.os }) :
    wpAny (model prog w) A (call (.type "enumerate") [.ref t]) Q E s := by
  refine callType_new F.called_enumerate (by decide) (F.typeCall_enumerate_1 _) (F.newCall_enumerate_1 _) (fun obj => F.args_object_init_2 obj _) F.entry_enumerate_new (meets_enumT t items) ⟨hl, ?_⟩
  have hz := Heap.size_push s.heap { cls := Value.type "tuple_iterator", data := Data.fields #[Value.ref t, Value.int 0 0] }
  have he := Heap.get?_push_size (s.heap.push { cls := Value.type "tuple_iterator", data := Data.fields #[Value.ref t, Value.int 0 0] }) (o := { cls := Value.type "enumerate", data := Data.fields #[.none, .bool false, .ref s.heap.objs.size, rawInt 0, .none, .none] }) rfl
  rw [hz] at he
  show wants _ _ _ _
  rw [hz]
  refine ⟨⟨_, he, rfl⟩, h _ he ⟨_, Heap.get?_push_of_some _ (Heap.get?_push_size _ rfl), rfl, rfl⟩ ?_ fun b o e => Heap.get?_push_of_some _ (Heap.get?_push_of_some _ e)⟩
  rw [Heap.size_push, hz]
end
def IteT (K : PySem.W.Frag) (a : Addr) : It where
  go := fun i H => ∃ xs x, SqT K H a xs ∧ xs[i]? = some x
  yld := fun i H v H' => ∃ T x, v = .ref T ∧ H T = Option.none ∧ H' = upd H T (.tup [.int (i : Nat), x]) ∧ ∀ xs, SqT K H a xs → xs[i]? = some x
  stop := fun i H => ∃ xs, SqT K H a xs ∧ xs.length ≤ i
theorem turn_enumT {P : Program} {w : World} {K : PySem.W.Frag} {elts : List Expr} {kk : Nat} {tpos : Pos} (a e it : Addr) (items : List Value) :
    Turn P w K (.Tuple elts kk tpos) (IteT K a) [e, it] e fun i h => (∃ old, IsEnum h e it (i : Nat) old) ∧ h.IsTupleIter it a i ∧ e ≠ it where
  mem := by simp
  obj := fun i h ⟨⟨old, he⟩, ⟨o, ho, hc, hd⟩, _⟩ b hb => by
    rcases (by simpa using hb : b = e ∨ b = it) with z | z
    · rw [z]
      exact ⟨_, he, fun v q => nomatch q⟩
    · rw [z]
      exact ⟨o, ho, fun v q => by rw [hd] at q; cases q⟩
  keep := fun i h h' ⟨⟨old, he⟩, hi, hne⟩ k => ⟨⟨old, k e (by simp) _ he⟩, hi.at fun o q => k it (by simp) o q, hne⟩
  item := fun X hP hw hK hc i pins s σ H E I hf st hg => by
    subst hP hw hK
    obtain ⟨⟨old, he⟩, hit, hne⟩ := st
    obtain ⟨xs, x, hq, hx⟩ := hg
    obtain ⟨its, rv, p, hz⟩ := I.tuple hq
    obtain ⟨u, hu, ru⟩ := rv.get hx
    have hel := Heap.lt_size he
    have hil : it < s.heap.objs.size := by
      obtain ⟨o, q, _⟩ := hit
      exact Heap.lt_size q
    have ta : s.heap.IsTuple a its.toArray := p
    have hat : a ≠ it := fun z => by
      obtain ⟨o, q, c, _⟩ := hit
      obtain ⟨o2, q2, c2, _⟩ := ta
      rw [z, q] at q2
      cases q2
      rw [c] at c2
      exact absurd c2 (by simp)
    have hae : a ≠ e := fun z => by
      obtain ⟨o2, q2, c2, _⟩ := ta
      rw [z, he] at q2
      cases q2
      exact absurd c2 (by simp)
    have hi : i < its.toArray.size := by
      rw [List.size_toArray]
      exact (List.getElem?_eq_some_iff.mp hu).1
    refine wpAny_pyNext_enum_itemD (draws_tuple (A := X.A.in1) (show X.A.in1.handled = Option.none from I.ok.hd hc) it a hat its.toArray) he ⟨hit, ta⟩ hi hne (by simp [hne, hae.symm]) ?_
    intro y h' tk hy ho hst hT hsz hk
    have hyu : y = u := by
      rw [List.getElem?_toArray, hu] at hy
      exact (Option.some.inj hy).symm
    subst hyu
    refine ⟨_, rfl, wpAny_letOwnedTupleGo_enum ho fun h'' he' sb => ?_⟩
    have hT2 := (sb.right s.heap.objs.size (Nat.ne_of_gt hel)).trans hT
    have new : ObjOk X.prog X.w (upd H s.heap.objs.size (.tup [.int (i : Nat), x])) h'' s.heap.objs.size (.tup [.int (i : Nat), x]) :=
      ⟨by show 2 ≤ _; rw [sizeLine_eq]; decide, [.int (i : Nat) tk, y], .cons ⟨tk, rfl⟩ (.cons ru .nil), ⟨_, hT2, rfl, 0, rfl⟩⟩
    have I1 := I.turnedNew (t' := tk + 1) (fun b ob hb q => (sb.right b fun z => hb (by simp [z])).trans (hk b ob (fun z => hb (by simp [z])) (fun z => hb (by simp [z])) q)) hf (Nat.le_refl _) new
    refine ⟨.ref s.heap.objs.size, _, I1, rfl, ⟨_, x, rfl, I.hok.fresh (Nat.le_refl _), rfl, fun ys hy => ?_⟩, ⟨⟨y, ?_⟩, hst.1.at fun o q => (sb.right it (Ne.symm hne)).trans q, hne⟩, fun b hb => ?_⟩
    · rw [I.tuple_inj hy hq]; exact hx
    · have : ((i + 1 : Nat) : Int) = (i : Int) + 1 := by omega
      rw [this]
      exact he'
    · have hb' : b < s.heap.objs.size := by
        rcases (by simpa using hb : b = e ∨ b = it) with z | z
        · rw [z]; exact hel
        · rw [z]; exact hil
      rw [upd_ne (Nat.ne_of_lt hb')]
      exact (hf b hb).1
  done := fun X hP hw hK hc i pins s σ H E I hf st hg => by
    subst hP hw hK
    obtain ⟨⟨old, he⟩, hit, hne⟩ := st
    obtain ⟨xs, hq, hx⟩ := hg
    obtain ⟨its, rv, p, hz⟩ := I.tuple hq
    have ta : s.heap.IsTuple a its.toArray := p
    have hl := rv.length
    obtain ⟨f0, f1, f2, f3, f4, f5⟩ := hf it (by simp)
    refine wpAny_pyNext_enum_endD (draws_ended (A := X.A.in1) (show X.A.in1.handled = Option.none from I.ok.hd hc) it a its.toArray i (by simp; omega)) he ⟨rfl, hit, ta⟩ fun h' eb => ⟨rfl, I.turned (fun b o hb q => eb b o hb q) f0 f1 f3 f4 f5⟩
  self := fun A i s Q E ⟨⟨_, he⟩, _⟩ h => wpAny_pyIter_enum he h

/-- what an enumerate yields -/
def YEn (xs : List V) : Nat → Hp → V → Hp → Prop := fun i H v H' => ∃ T x, v = .ref T ∧ H T = Option.none ∧ H' = upd H T (.tup [.int (i : Nat), x]) ∧ xs[i]? = some x
/-- enumerate of what is a list or a tuple -/
def iEnumT (K : PySem.W.Frag) (ta : TA) : TI := fun σ H R => ta σ H fun vs H1 => ∃ a xs, vs = [.ref a] ∧ (SqL K H1 a xs ∨ SqT K H1 a xs) ∧ ∀ J, Walk J xs.length (fun H => H a = H1 a) (YEn xs) → R J H1
theorem pi_enumT {X : Cx} {e : Expr} {ta : TA} {p pos tpos : Pos} {elts : List Expr} {kk : Nat} (hg : Gl X "enumerate") (hm : X.mg "enumerate" = Option.none) (ha : PA X [e] ta) (hs : starEach [e] X.env = [(false, eval e X.env)] := by rfl) :
    PI X (.Tuple elts kk tpos) (.Call (.Name "enumerate" p) [e] [] pos) (iEnumT X.K ta) := by
  refine ⟨fun pins s σ H R I h => ?_⟩
  refine Call_ (ld_blt I hg hm boot_enumerate (callWith_type1 (thn (ha.run pos pins s σ H _ I h) fun us s1 ⟨vs, H1, I1, r1, q1⟩ => ?_) hs))
  obtain ⟨a, xs, ex, hq, q⟩ := q1
  subst ex
  cases r1 with
  | cons r rr =>
    cases rr
    cases r
    rcases hq with hq | hq
    · have q := q (Ite X.K a) ⟨fun i H hi e => ⟨xs, xs[i], sqL_at e hq, List.getElem?_eq_getElem hi⟩, fun H e => ⟨xs, sqL_at e hq, Nat.le_refl _⟩, fun i H x H' hi e ⟨T, y, h1, h2, h3, h4⟩ => ⟨T, y, h1, h2, h3, h4 xs (sqL_at e hq)⟩⟩
      obtain ⟨its, rv, p', hz⟩ := I1.list hq
      refine call_enumerate_list p'.isList fun h' he hit hsz hk => wpAny_pyIter_enum he ?_
      refine ⟨s1.heap.objs.size + 1, [s1.heap.objs.size + 1, s1.heap.objs.size], _, _, H1, rfl, I1.kept (t' := s1.toks) hk, turn_enum a _ s1.heap.objs.size, ⟨⟨_, he⟩, hit, Nat.succ_ne_self _⟩, fun b hb => ?_, q⟩
      rcases (by simpa using hb : b = s1.heap.objs.size + 1 ∨ b = s1.heap.objs.size) with z | z
      · rw [z]; exact I1.fpOk (by omega) (I1.hok.fresh (by omega))
      · rw [z]; exact I1.fpOk (by omega) (I1.hok.fresh (by omega))
    · have q := q (IteT X.K a) ⟨fun i H hi e => ⟨xs, xs[i], sqT_at e hq, List.getElem?_eq_getElem hi⟩, fun H e => ⟨xs, sqT_at e hq, Nat.le_refl _⟩, fun i H x H' hi e ⟨T, y, h1, h2, h3, h4⟩ => ⟨T, y, h1, h2, h3, h4 xs (sqT_at e hq)⟩⟩
      obtain ⟨its, rv, p', hz⟩ := I1.tuple hq
      refine call_enumT (show s1.heap.IsTuple a its.toArray from p') fun h' he hit hsz hk => wpAny_pyIter_enum he ?_
      refine ⟨s1.heap.objs.size + 1, [s1.heap.objs.size + 1, s1.heap.objs.size], _, _, H1, rfl, I1.kept (t' := s1.toks) hk, turn_enumT a _ s1.heap.objs.size its, ⟨⟨_, he⟩, hit, Nat.succ_ne_self _⟩, fun b hb => ?_, q⟩
      rcases (by simpa using hb : b = s1.heap.objs.size + 1 ∨ b = s1.heap.objs.size) with z | z
      · rw [z]; exact I1.fpOk (by omega) (I1.hok.fresh (by omega))
      · rw [z]; exact I1.fpOk (by omega) (I1.hok.fresh (by omega))
end L2

/-! {k: v for .. in ..} whose keys are tuples of numbers and texts -/
namespace L2
open PySem PySem.Spec PyProof.Rows
/-- one key, one value -/
theorem put_tup {X : Cx} {pins : List (Addr × Obj)} {σ : St} {H : Hp} {s : Shared} {E : Value → Shared → Prop} {D b : Addr} {kvs : List (List Key × V)} {k : List Key} {v : V} {r : Value} {Q : Unit → Shared → Prop} (room : X.A.units + 1 < cLine) (J : Inv X pins σ H s)
    (hD : H D = some (.dT kvs)) (hb : H b = some (.tup (k.map kV))) (few : kvs.length < sizeLine) (rv : RelV v r) (next : ∀ s', Inv X pins σ (upd H D (.dT (putK kvs k v))) s' → Q () s') : wpAny (model X.prog X.w) X.A (dictSet D (.ref b) r) Q E s := by
  obtain ⟨z, nsys, xs, rel, dd⟩ := dt_of J.hok hD
  have len : xs.length ≤ sizeLine := by rw [← Paired.length rel]; exact z
  have len2 : (putK kvs k v).length ≤ sizeLine := by have := length_putK kvs k v; omega
  refine wpAny_dictSet_heap (hsz := len) (show X.A.units < cLine by omega) (key_of J.hok hb) dd fun h' dd' sb => next _ ?_
  obtain ⟨q, es, ep, hq, a2, a3, a4, _, a5⟩ := dd'
  refine d_write J (by rw [hD]; trivial) sb ⟨q, hq⟩ ⟨len2, nsys, _, (rel.put k hb rv).keeps fun c ys ec => ?_, q, es, ep, hq, a2, a3, a4, a5⟩
  rw [upd_ne (ne_of ec hD fun z => nomatch z), ec]
section
variable {X : Cx} {kx vx tg iter : Expr} {ifs : List Expr} {scope : Scope} {own : List (Str × Nat)} {pos pos' : Pos} {wi : TI} {g : TG} {tt : TT} {tk tv : TE}
/-- the block's turns: D the new table -/
def tDcT (wi : TI) (g : TG) (tt : TT) (tk tv : TE) (vs : List Nat) : TE := fun σ H Q => wi σ H fun J H1 => ∀ D, H1 D = none → ∃ W : Nat → Nat → Hp → Prop, (∃ m, W 0 m (upd H1 D (.dT []))) ∧ ∀ i m H, W i m H →
  (J.stop i H ∧ Q (.ref D) H) ∨ (J.go i H ∧ ∃ Nx : Hp → Prop, (∀ H', Nx H' → ∃ m', m' < m ∧ W (i + 1) m' H') ∧ ∀ x H', J.yld i H x H' → g x (wipe σ vs) H' fun σ2 H2 => wipe σ2 vs = wipe σ vs ∧ tt σ2 H2 fun b H3 =>
    if b = true then tk σ2 H3 fun y H4 => tv σ2 H4 fun z H5 => ∃ kvs k t, y = .ref t ∧ H5 t = some (.tup (k.map kV)) ∧ H5 D = some (.dT kvs) ∧ kvs.length < sizeLine ∧ Nx (upd H5 D (.dT (putK kvs k z))) else Nx H3)
abbrev dictObj : Obj := { cls := .type "dict", data := .dict #[] }
theorem pe_dcT (calm : X.calm = true) (room : X.A.units + 1 < cLine) (nd : X.N.Nodup) (hi : PI X tg iter wi) (ok : BlkOk X.N X.env.scope scope own)
    (hg : ∀ (z : Shared) (H : Hp) (C : Addr) (cl : List (Str × Addr)) (fp : List Addr), PG (X.blk z H scope (compEnvC scope cl C X.env) fp) tg g)
    (ht : ∀ (z : Shared) (H : Hp) (C : Addr) (cl : List (Str × Addr)) (fp : List Addr), PTs (X.blk z H scope (compEnvC scope cl C X.env) fp) ifs tt)
    (hk : ∀ (z : Shared) (H : Hp) (C : Addr) (cl : List (Str × Addr)) (fp : List Addr), PE (X.blk z H scope (compEnvC scope cl C X.env) fp) kx tk)
    (hv : ∀ (z : Shared) (H : Hp) (C : Addr) (cl : List (Str × Addr)) (fp : List Addr), PE (X.blk z H scope (compEnvC scope cl C X.env) fp) vx tv) (fold : ∀ x, foldedSetIterable iter X.env x = pure x := by intro _; rfl) :
    PE X (.DictComp kx vx [⟨tg, iter, ifs, 0⟩] scope pos) (tDcT wi g tt tk tv (own.map (·.2))) := by
  refine ⟨fun pins s σ H Q I h => ?_⟩
  rw [arm_eval_DictComp]
  have free : ∀ y ∈ scope.names, y.2 = .free → ∃ c, X.env.cells.lookup y.1 = some c := fun y hy e => (ok.free y hy e).elim (fun k => I.ok.has _ (.inl k)) fun k => I.ok.has _ (.inr k)
  refine wpAny_comprehension_free rfl fold (closure_ok free) ok.kind (fun y hy e => by rw [ok.uniq y hy, e]) (thn (hi.run pins s σ H _ I h) fun xv s1 hx => thn hx fun itv s2 h2 => ?_)
  obtain ⟨it, fp, tn, J, H2, rfl, I2, T, st2, f2, q⟩ := h2
  refine wpAny_newObj_type (newEnv_comp ?_)
  obtain ⟨D, hD⟩ : ∃ D, s2.heap.objs.size = D := ⟨_, rfl⟩
  rw [hD]
  have fresh : H2 D = none := I2.hok.fresh (Nat.le_of_eq hD)
  obtain ⟨W, ⟨m0, w0⟩, turn⟩ := q D fresh
  obtain ⟨z3, hz3⟩ : ∃ z3 : Shared, { s2 with heap := s2.heap.push dictObj } = z3 := ⟨_, rfl⟩
  have J3 : Inv X pins σ (upd H2 D (.dT [])) z3 := by
    rw [← hz3]
    refine I2.laid (t' := s2.toks) (fun b o e => Heap.get?_push_of_some _ e) (Nat.le_of_eq hD) ?_
    rw [← hD]
    exact dt_empty s2.heap I2.big
  have z3h : z3.heap = s2.heap.push dictObj := by rw [← hz3]
  have below : ∀ b ∈ fp, b < s2.heap.objs.size := fun b hb => let ⟨o, e, _⟩ := T.obj _ _ st2 b hb; Heap.lt_size e
  have f3 : ∀ b ∈ fp, FpOk X pins (upd H2 D (.dT [])) b ∧ b < z3.heap.objs.size := fun b hb => by
    have lt := below b hb
    refine ⟨⟨?_, (f2 b hb).2⟩, by rw [z3h, Heap.size_push]; exact Nat.lt_succ_of_lt lt⟩
    rw [upd_ne (hD ▸ Nat.ne_of_lt lt)]
    exact (f2 b hb).1
  have st3 : tn 0 z3.heap := T.keep _ _ _ st2 fun b _ o e => by rw [z3h]; exact Heap.get?_push_of_some _ e
  have J4 := block_start J3 ok nd f3
  obtain ⟨cl, hcl⟩ : ∃ cl, cellsFrom (z3.heap.objs.size + 1) scope.names (cloFrom X.env.cells scope.names []) = cl := ⟨_, rfl⟩
  rw [hcl] at J4
  have pg := hg z3 (upd H2 D (.dT [])) z3.heap.objs.size cl fp
  have pt := ht z3 (upd H2 D (.dT [])) z3.heap.objs.size cl fp
  have pk := hk z3 (upd H2 D (.dT [])) z3.heap.objs.size cl fp
  have pv := hv z3 (upd H2 D (.dT [])) z3.heap.objs.size cl fp
  have away : ∀ b ∈ fp, (upd H2 D (.dT [])) b = none := fun b hb => (f3 b hb).1.1
  have post : ∀ s' m H', Inv X pins σ H' s' → Q (.ref D) H' → s'.heap.Ns z3.heap.objs.size m → FpOk X pins H' z3.heap.objs.size → compPost (model X.prog X.w) X.A X.xe none (EP X pins σ Q) (.ref D) z3.heap.objs.size (.ok .next) s' := fun s' m H' J' q' hn ⟨g0, g1, g2, g3, g4, g5⟩ =>
    ⟨m, hn, fun h'' sb => ⟨.ref D, H', J'.turned (t' := s'.toks) (fun b o hb e => (sb.2 b hb).trans e) g0 g1 g3 g4 g5, rfl, q'⟩⟩
  have goal : codeAny (model X.prog X.w) X.A (.compStart (.DictComp kx vx [⟨tg, iter, ifs, 0⟩] scope pos) 0 (.ref it) (.ref D) (compEnvC scope cl z3.heap.objs.size X.env)) (compPost (model X.prog X.w) X.A X.xe none (EP X pins σ Q) (.ref D) z3.heap.objs.size)
      { z3 with heap := pushCells (z3.heap.push dictObj) scope.names } := by
    generalize hce : compEnvC scope cl z3.heap.objs.size X.env = ce at J4 pg pt pk pv ⊢
    have ceL : ce.locals = z3.heap.objs.size := by rw [← hce]; rfl
    generalize hH3 : upd H2 D (.dT []) = H3 at J3 J4 pg pt pk pv w0 away f3
    generalize hz4 : ({ z3 with heap := pushCells (z3.heap.push dictObj) scope.names } : Shared) = z4 at J4 ⊢
    have st4 : tn 0 z4.heap := T.keep _ _ _ st3 fun b _ o e => by rw [← hz4]; exact pushCells_keeps _ _ _ _ (Heap.get?_push_of_some _ e)
    have still : ∀ {σ' : St} {H' : Hp} {s' : Shared}, Inv (X.blk z3 H3 scope ce fp) [] σ' H' s' → (∀ b ∈ fp, H' b = none) → ∀ b ∈ fp, FpOk (X.blk z3 H3 scope ce fp) [] H' b := fun {σ' H' s'} J' no b hb =>
      ⟨no b hb, (J'.ok.exf b hb).1, J'.ok.exfs b hb, .inl hb, (fun x c e => (J'.ok.exf b hb).2 x c e), fun p hp => absurd (show p ∈ ([] : List (Addr × Obj)) ++ [] from hp) (by simp)⟩
    refine codeAny_compStart_dict ?lp (T.self X.A 0 _ _ _ st4 ?lp)
    refine compLoop_anyD (fun n s' => ∃ i H', Inv (X.blk z3 H3 scope ce fp) [] (wipe σ (own.map (·.2))) H' s' ∧ tn i s'.heap ∧ (∀ b ∈ fp, H' b = none) ∧ W i n H') (fun n s5 ⟨i, H5, J5, st5, no5, w5⟩ => ?_) m0 ⟨0, H3, J4, st4, away, w0⟩
    rcases turn i n H5 w5 with ⟨stop, qq⟩ | ⟨go, Nx, hNx, step⟩
    · refine thnF (T.done (X.blk z3 H3 scope ce fp) rfl rfl rfl calm i [] s5 _ H5 (fun _ _ => False) J5 (still J5 no5) st5 stop) fun r s6 ⟨hr, J6⟩ => ?_
      subst hr
      have J7 : Inv X pins σ H5 s6 := J3.call' (ch := fp) J6.os J6.base J6.hok J6.bare fun b hb => let z := (f3 b hb).1.2; ⟨z.2.2.1, z.1, z.2.2.2.1, z.2.2.2.2⟩
      have noC : H5 z3.heap.objs.size = none := ceL ▸ (show H5 ce.locals = none from J6.free)
      obtain ⟨m, hn, _⟩ := J6.loc
      exact post s6 m H5 J7 qq (ceL ▸ (show s6.heap.Ns ce.locals m from hn)) (J3.fpOk (Nat.le_refl _) noC)
    · refine thnF (T.item (X.blk z3 H3 scope ce fp) rfl rfl rfl calm i [] s5 _ H5 (fun _ _ => False) J5 (still J5 no5) st5 go) fun r s6 ⟨u, hr, h6⟩ => ?_
      subst hr
      refine thnF h6 fun _ s7 ⟨x, H7, J7, r7, y7, st7, no7⟩ => ?_
      refine thnF (pg.run _ s7 _ H7 x u _ (J7.pinned (still J7 no7) (T.obj _ _ st7)) r7 (step x H7 y7)) fun _ s8 ⟨σ8, H8, J8, hw8, q8⟩ => ?_
      refine thnF (pt.run _ s8 σ8 H8 _ J8 q8) fun b s9 ⟨H9, J9, q9⟩ => ?_
      have over : ∀ {s' : Shared} {H' : Hp}, Inv (X.blk z3 H3 scope ce fp) ([] ++ pinsAt fp s7.heap) σ8 H' s' → Nx H' → ∃ m, m < n ∧ ∃ i H', Inv (X.blk z3 H3 scope ce fp) [] (wipe σ (own.map (·.2))) H' s' ∧ tn i s'.heap ∧ (∀ b ∈ fp, H' b = none) ∧ W i m H' := by
        intro s' H' J' nx
        obtain ⟨m', lt, w'⟩ := hNx H' nx
        have pin : ∀ b ∈ fp, ∀ o, s7.heap.get? b = some o → s'.heap.get? b = some o ∧ H' b = none := fun b hb o e =>
          let z := J'.pin (b, o) (List.mem_append_right _ (List.mem_append_right _ (mem_pinsAt hb e)))
          ⟨z.1, z.2.1⟩
        refine ⟨m', lt, i + 1, H', (J'.unpinned (pins := [])).weak (by rw [← hw8, wipe_length]) (fun j v e => (wipe_some (hw8 ▸ e)).1), T.keep _ _ _ st7 fun b hb o e => (pin b hb o e).1, fun b hb => ?_, w'⟩
        obtain ⟨o, e, _⟩ := T.obj _ _ st7 b hb
        exact (pin b hb o e).2
      cases b with
      | false =>
        rw [if_neg Bool.false_ne_true] at q9 ⊢
        exact over J9 q9
      | true =>
        rw [if_pos rfl] at q9 ⊢
        refine thnF (pk.run _ s9 σ8 H9 _ J9 q9) fun a s10 ⟨yk, H10, J10, r10, q10⟩ => ?_
        refine thnF (pv.run _ s10 σ8 H10 _ J10 q10) fun a2 s11 ⟨yv, H11, J11, r11, kvs, k, t, ek, ht, hD11, few, nx⟩ => ?_
        subst ek
        cases r10
        exact put_tup (X := X.blk z3 H3 scope ce fp) room J11 hD11 ht few r11 fun s12 J12 => over J12 nx
  subst hz3
  subst hcl
  exact goal
end
end L2

/-! {k: [] for .. in ..}, the keys tuples: a table of new lists -/
namespace L2
open PySem PySem.Spec PyProof.Rows
/-- the rows of such a table -/
def tabV (tab : List (List Key × Addr)) : List (List Key × V) := tab.map fun e => (e.1, V.ref e.2)
/-- at D: the table tab of lists, the one of the key k being f k -/
structure DL (H : Hp) (D : Addr) (tab : List (List Key × Addr)) (f : List Key → List V) : Prop where
  top : H D = some (.dT (tabV tab))
  nk : (tab.map (·.1)).Nodup
  nd : (tab.map (·.2)).Nodup
  nin : D ∉ tab.map (·.2)
  row : ∀ e ∈ tab, H e.2 = some (.lst (f e.1))
theorem tab_none {k : List Key} : ∀ {tab : List (List Key × Addr)}, k ∉ tab.map (·.1) → valV (tabV tab) k = none
  | [], _ => rfl
  | e :: tab, h => by
    have h1 : ¬ e.1 = k := fun z => h (by rw [List.map_cons, z]; exact List.mem_cons_self)
    show valV ((e.1, V.ref e.2) :: tabV tab) k = none
    rw [valV_neg h1]
    exact tab_none fun z => h (by rw [List.map_cons]; exact List.mem_cons_of_mem _ z)
theorem tab_some {k : List Key} {a : Addr} : ∀ {tab : List (List Key × Addr)}, (tab.map (·.1)).Nodup → (k, a) ∈ tab → valV (tabV tab) k = some (.ref a)
  | [], _, h => nomatch h
  | e :: tab, nd, h => by
    rw [List.map_cons] at nd
    have nd := List.nodup_cons.mp nd
    show valV ((e.1, V.ref e.2) :: tabV tab) k = _
    rcases List.mem_cons.mp h with h | h
    · subst h
      exact valV_pos rfl
    · rw [valV_neg fun z => nd.1 (by rw [z]; exact List.mem_map.mpr ⟨(k, a), h, rfl⟩)]
      exact tab_some nd.2 h
section
variable {J : It} {n : Nat} {G : Hp → Prop} {Y : Nat → Hp → V → Hp → Prop}
theorem dc_it (w : Walk J n G Y) {g : TG} {tt : TT} {tk tv : TE} {vs : List Nat} {σ : St} {H1 : Hp} {D : Addr} {Qd : Hp → Prop} (Pv : Nat → Hp → Prop) (h0 : Pv 0 (upd H1 D (.dT []))) (hG : ∀ i H, i ≤ n → Pv i H → G H)
    (hs : ∀ i x H H', i < n → Pv i H → Y i H x H' → g x (wipe σ vs) H' fun σ2 H2 => wipe σ2 vs = wipe σ vs ∧ tt σ2 H2 fun b H3 =>
      if b = true then tk σ2 H3 fun y H4 => tv σ2 H4 fun z H5 => ∃ kvs k t, y = .ref t ∧ H5 t = some (.tup (k.map kV)) ∧ H5 D = some (.dT kvs) ∧ kvs.length < sizeLine ∧ Pv (i + 1) (upd H5 D (.dT (putK kvs k z))) else Pv (i + 1) H3) (hd : ∀ H, Pv n H → Qd H) :
    ∃ W : Nat → Nat → Hp → Prop, (∃ m, W 0 m (upd H1 D (.dT []))) ∧ ∀ i m H, W i m H →
      (J.stop i H ∧ Qd H) ∨ (J.go i H ∧ ∃ Nx : Hp → Prop, (∀ H', Nx H' → ∃ m', m' < m ∧ W (i + 1) m' H') ∧ ∀ x H', J.yld i H x H' → g x (wipe σ vs) H' fun σ2 H2 => wipe σ2 vs = wipe σ vs ∧ tt σ2 H2 fun b H3 =>
        if b = true then tk σ2 H3 fun y H4 => tv σ2 H4 fun z H5 => ∃ kvs k t, y = .ref t ∧ H5 t = some (.tup (k.map kV)) ∧ H5 D = some (.dT kvs) ∧ kvs.length < sizeLine ∧ Nx (upd H5 D (.dT (putK kvs k z))) else Nx H3) := by
  refine ⟨fun i m H => m = n - i ∧ i ≤ n ∧ Pv i H, ⟨n, by simp, Nat.zero_le _, h0⟩, ?_⟩
  rintro i m H ⟨rfl, hi, p⟩
  have q := hG i H hi p
  by_cases hlt : i < n
  · refine .inr ⟨w.goes i H hlt q, Pv (i + 1), fun H' p' => ⟨n - (i + 1), by omega, rfl, hlt, p'⟩, fun x H' y => hs i x H H' hlt p (w.yields i H x H' hlt q y)⟩
  · have e : i = n := by omega
    subst e
    exact .inl ⟨w.stops H q, hd H p⟩
theorem dc_empties (w : Walk J n G Y) {g : TG} {tt : TT} {tk tv : TE} {vs : List Nat} {σ : St} {H : Hp} {D : Addr} {Qd : Hp → Prop} (ks : List (List Key)) (lk : ks.length = n) (nk : ks.Nodup) (hD : H D = none) (hn : n ≤ 16777215) (hG : ∀ H', Same H (del H' D) → G H')
    (he : ∀ i x H1 H2 (K : V → V → Hp → Prop) (N : Hp → Prop), i < n → Same H (del H1 D) → Y i H1 x H2 → (∀ k t a, ks[i]? = some k → H1 t = some (.tup (k.map kV)) → H1 a = none → K (.ref t) (.ref a) (upd H1 a (.lst []))) →
      g x (wipe σ vs) H2 fun σ2 H2' => wipe σ2 vs = wipe σ vs ∧ tt σ2 H2' fun b H3 => if b = true then tk σ2 H3 fun y H4 => tv σ2 H4 fun z H5 => K y z H5 else N H3)
    (q : ∀ tab H', tab.map (·.1) = ks → (∀ e ∈ tab, H e.2 = none) → Same H (del H' D) → Same H H' → DL H' D tab (fun _ => []) → Qd H') :
    ∃ W : Nat → Nat → Hp → Prop, (∃ m, W 0 m (upd H D (.dT []))) ∧ ∀ i m H, W i m H →
      (J.stop i H ∧ Qd H) ∨ (J.go i H ∧ ∃ Nx : Hp → Prop, (∀ H', Nx H' → ∃ m', m' < m ∧ W (i + 1) m' H') ∧ ∀ x H', J.yld i H x H' → g x (wipe σ vs) H' fun σ2 H2 => wipe σ2 vs = wipe σ vs ∧ tt σ2 H2 fun b H3 =>
        if b = true then tk σ2 H3 fun y H4 => tv σ2 H4 fun z H5 => ∃ kvs k t, y = .ref t ∧ H5 t = some (.tup (k.map kV)) ∧ H5 D = some (.dT kvs) ∧ kvs.length < sizeLine ∧ Nx (upd H5 D (.dT (putK kvs k z))) else Nx H3) := by
  refine dc_it w (fun i H' => Same H (del H' D) ∧ ∃ tab : List (List Key × Addr), tab.map (·.1) = ks.take i ∧ (∀ e ∈ tab, H e.2 = none) ∧ DL H' D tab (fun _ => [])) ?_ (fun i H' _ h => hG H' h.1) ?_ ?_
  · refine ⟨fun b o e => ?_, [], by simp, (fun _ z => nomatch z), upd_same, .nil, .nil, (fun z => nomatch z), fun _ z => nomatch z⟩
    rw [del_ne (ne_of_none e hD), upd_ne (ne_of_none e hD)]
    exact e
  · rintro i x H1 H2 hi ⟨k1, tab, l1, f1, S⟩ hy
    refine he i x H1 H2 _ _ hi k1 hy fun k t a hk ht ha => ?_
    have lt : tab.length = i := by
      have := congrArg List.length l1
      rw [List.length_map, List.length_take] at this
      omega
    have nD : a ≠ D := fun e => by rw [e, S.top] at ha; cases ha
    have na : a ∉ tab.map (·.2) := fun m => by
      obtain ⟨e, he, rfl⟩ := List.mem_map.mp m
      rw [S.row e he] at ha
      cases ha
    have Ha : H a = none := by
      cases e : H a with
      | none => rfl
      | some o =>
        have := k1 a o e
        rw [del_ne nD, ha] at this
        cases this
    have hik : i < ks.length := (List.getElem?_eq_some_iff.mp hk).1
    have ek : ks[i] = k := (List.getElem?_eq_some_iff.mp hk).2
    have tk1 : ks.take (i + 1) = ks.take i ++ [k] := by rw [List.take_succ_eq_append_getElem hik, ek]
    have nkt : k ∉ tab.map (·.1) := fun m => by
      rw [l1] at m
      have nd2 := nk.sublist (List.take_sublist (i + 1) ks)
      rw [tk1] at nd2
      exact (List.nodup_append.mp nd2).2.2 k m k (by simp) rfl
    have pn := putK_new (V.ref a) (tab_none nkt)
    have tn : t ≠ D := fun e => by rw [e, S.top] at ht; cases ht
    refine ⟨tabV tab, k, t, rfl, by rw [upd_ne (ne_of_none ht ha)]; exact ht, by rw [upd_ne nD.symm]; exact S.top, by unfold tabV; rw [List.length_map, lt]; exact lt_ln (by omega), (fun b o z => ?_), tab ++ [(k, a)], ?_, ?_, ?_⟩
    · have z1 := k1 b o z
      have nb : b ≠ D := ne_of_none z hD
      rw [del_ne nb] at z1 ⊢
      rw [upd_ne nb, upd_ne (ne_of_none z1 ha)]
      exact z1
    · rw [List.map_append, l1, tk1]
      rfl
    · intro e he
      rcases List.mem_append.mp he with he | he
      · exact f1 e he
      · rw [List.mem_singleton.mp he]
        exact Ha
    · rw [pn]
      refine ⟨by rw [upd_same]; unfold tabV; rw [List.map_append]; rfl, ?_, ?_, ?_, ?_⟩
      · rw [List.map_append]
        refine List.nodup_append.mpr ⟨S.nk, by simp, fun b hb c hc e => ?_⟩
        have hc := List.mem_singleton.mp hc
        rw [e, hc] at hb
        exact nkt hb
      · rw [List.map_append]
        refine List.nodup_append.mpr ⟨S.nd, by simp, fun b hb c hc e => ?_⟩
        have hc := List.mem_singleton.mp hc
        rw [e, hc] at hb
        exact na hb
      · intro m
        rw [List.map_append] at m
        rcases List.mem_append.mp m with m | m
        · exact S.nin m
        · exact nD (List.mem_singleton.mp m).symm
      · intro e he
        rcases List.mem_append.mp he with he | he
        · have ne : e.2 ≠ D := fun z => S.nin (by rw [← z]; exact List.mem_map.mpr ⟨e, he, rfl⟩)
          have z := S.row e he
          rw [upd_ne ne, upd_ne (ne_of_none z ha)]
          exact z
        · rw [List.mem_singleton.mp he, upd_ne nD, upd_same]
  · rintro H1 ⟨k1, tab, l1, f1, S⟩
    exact q tab H1 (by rw [l1, ← lk, List.take_length]) f1 k1 (del_sub k1) S
end
end L2

namespace L2
open PySem PySem.Spec PyProof.Rows
/-- a comprehension's walk, whatever its body asks -/
theorem in_it {J : It} {n : Nat} {G : Hp → Prop} {Y : Nat → Hp → V → Hp → Prop} (w : Walk J n G Y) {H4 : Hp} {Qd : Hp → Prop} {B : (Hp → Prop) → V → Hp → Prop} (Pv : Nat → Hp → Prop) (h0 : Pv 0 H4) (hG : ∀ i H, i ≤ n → Pv i H → G H)
    (hs : ∀ i x H H', i < n → Pv i H → Y i H x H' → B (Pv (i + 1)) x H') (hd : ∀ H, Pv n H → Qd H) :
    ∃ W : Nat → Nat → Hp → Prop, (∃ m, W 0 m H4) ∧ ∀ i m H, W i m H → (J.stop i H ∧ Qd H) ∨ (J.go i H ∧ ∃ Nx : Hp → Prop, (∀ H', Nx H' → ∃ m', m' < m ∧ W (i + 1) m' H') ∧ ∀ x H', J.yld i H x H' → B Nx x H') := by
  refine ⟨fun i m H => m = n - i ∧ i ≤ n ∧ Pv i H, ⟨n, by simp, Nat.zero_le _, h0⟩, ?_⟩
  rintro i m H ⟨rfl, hi, p⟩
  have q := hG i H hi p
  by_cases hlt : i < n
  · exact .inr ⟨w.goes i H hlt q, Pv (i + 1), fun H' p' => ⟨n - (i + 1), by omega, rfl, hlt, p'⟩, fun x H' y => hs i x H H' hlt p (w.yields i H x H' hlt q y)⟩
  · have e : i = n := by omega
    subst e
    exact .inl ⟨w.stops H q, hd H p⟩
end L2
namespace K10
open PySem PySem.Spec PyProof.Rows L2
/-- a pair of lines as data -/
def dPair (p : Line × Line) : PyData := .tuple [dLine p.1, dLine p.2]
theorem pair_alike (a b : Line × Line) : PySem.W.alike (dPair a) (dPair b) = true := by
  rfl
theorem pair_tup (b : Line × Line) : ∃ x r, dPair b = .tuple (x :: r) := ⟨_, _, rfl⟩
theorem pair_deep (b : Line × Line) : (dPair b).depth ≤ 8 := by
  obtain ⟨⟨a, b⟩, c, d⟩ := b
  simp [dPair, dLine, PyData.depth, PyData.depthAll]
/-- where each line stands -/
def plc (lb : List Line) : List (List Key × V) := lb.zipIdx.map fun q => (kLine q.1, V.int ((q.2 : Nat) : Int))
theorem plc_snoc (lb : List Line) (l : Line) : plc (lb ++ [l]) = plc lb ++ [(kLine l, V.int (lb.length : Nat))] := by
  unfold plc
  rw [List.zipIdx_append, List.map_append]
  simp
theorem plc_len (lb : List Line) : (plc lb).length = lb.length := by
  unfold plc
  rw [List.length_map, List.length_zipIdx]
theorem plc_val (lb : List Line) (l : Line) : valV (plc lb) (kLine l) = if l ∈ lb then some (V.int (lb.idxOf l : Nat)) else none := by
  unfold plc
  have key : ∀ (m : List Line) (n : Nat), valV ((m.zipIdx n).map fun q => (kLine q.1, V.int ((q.2 : Nat) : Int))) (kLine l) = if l ∈ m then some (V.int ((n + m.idxOf l : Nat) : Int)) else none := by
    intro m
    induction m with
    | nil => intro n; rfl
    | cons a m ih =>
      intro n
      rw [List.zipIdx_cons, List.map_cons]
      by_cases e : a = l
      · subst e
        rw [valV_pos rfl, if_pos List.mem_cons_self, List.idxOf_cons_self]
        rfl
      · rw [valV_neg (fun z => e (kLine_inj z)), ih (n + 1)]
        by_cases mm : l ∈ m
        · rw [if_pos mm, if_pos (List.mem_cons_of_mem _ mm), List.idxOf_cons, show (a == l) = false from beq_eq_false_iff_ne.mpr e, cond_false]
          congr 3
          omega
        · rw [if_neg mm, if_neg (fun z => (List.mem_cons.mp z).elim (fun y => e y.symm) mm)]
  have z := key lb 0
  rw [Nat.zero_add] at z
  exact z
theorem plc_put {lb : List Line} {l : Line} (h : l ∉ lb) : putK (plc lb) (kLine l) (V.int (lb.length : Nat)) = plc (lb ++ [l]) := by
  have no : ((plc lb).any fun kv => decide (kv.1 = kLine l)) = false := by
    rw [← Bool.not_eq_true, List.any_eq_true]
    rintro ⟨kv, m, e⟩
    unfold plc at m
    obtain ⟨q, mq, rfl⟩ := List.mem_map.mp m
    have e := kLine_inj (of_decide_eq_true e)
    exact h (e ▸ List.fst_mem_of_mem_zipIdx mq)
  unfold putK
  rw [no, plc_snoc]
  rfl
/-- the pairs whose first stands at k -/
def pairsAt (sh lb : List Line) (k : Nat) : List (Line × Line) := match sh[k]? with
  | none => []
  | some a => ((sh.drop (k + 1)).filter fun b => decide (lb.idxOf b < lb.idxOf a)).map fun b => (a, b)
def pairsTo (sh lb : List Line) (n : Nat) : List (Line × Line) := (List.range n).flatMap (pairsAt sh lb)
theorem pairsTo_succ (sh lb : List Line) (n : Nat) : pairsTo sh lb (n + 1) = pairsTo sh lb n ++ pairsAt sh lb n := by
  unfold pairsTo
  rw [List.range_succ, List.flatMap_append]
  simp
theorem pairsAt_len (sh lb : List Line) (k : Nat) : (pairsAt sh lb k).length ≤ sh.length := by
  unfold pairsAt
  cases sh[k]? with
  | none => exact Nat.zero_le _
  | some a =>
    rw [List.length_map]
    refine Nat.le_trans (List.length_filter_le _ _) ?_
    rw [List.length_drop]
    omega
theorem pairsTo_len (sh lb : List Line) (n : Nat) : (pairsTo sh lb n).length ≤ n * sh.length := by
  induction n with
  | zero => exact Nat.zero_le _
  | succ n ih =>
    rw [pairsTo_succ, List.length_append, Nat.succ_mul]
    exact Nat.add_le_add ih (pairsAt_len sh lb n)
def shared (la lb : List Line) : List Line := la.filter fun l => decide (l ∈ lb)
/-- the turned pairs, sorted -/
def turnedL (la lb : List Line) : List (Line × Line) := (pairsTo (shared la lb) lb (shared la lb).length).mergeSort (PySem.W.dataLe false dPair)
def spTLines : Sp := fun vs H Q _ => ∃ (p q : Addr) (xs ys : List V) (la lb : List Line), vs = [.ref p, .ref q] ∧ RowAt H p xs ∧ RddAll H xs (la.map dLine) ∧ RowAt H q ys ∧ RddAll H ys (lb.map dLine) ∧ lb.Nodup ∧ la.length < 64 ∧ lb.length < 64 ∧
  ∀ l zs H', Same H H' → H l = none → H' l = some (.lst zs) → RddAll H' zs ((turnedL la lb).map dPair) → Q (.ref l) H'
theorem line_tup {H : Hp} {v : V} {l : Line} (r : Rdd H v (dLine l)) : ∃ a, v = .ref a ∧ H a = some (.tup ((kLine l).map kV)) := by
  unfold dLine at r
  cases r with
  | tup h ra =>
    obtain ⟨x, y, rfl, r1, r2⟩ := rdds_two ra
    cases r1
    cases r2
    exact ⟨_, rfl, h⟩
theorem tup_line {H : Hp} {a : Addr} {l : Line} (h : H a = some (.tup ((kLine l).map kV))) : Rdd H (.ref a) (dLine l) := .tup h (.cons (.str _) (.cons (.str _) .nil))
theorem del_upd_eq {H : Hp} {D : Addr} {o : HO} : del (upd H D o) D = del H D := by
  funext b
  by_cases e : b = D
  · rw [e, del_same, del_same]
  · rw [del_ne e, del_ne e, upd_ne e]
theorem pairs_push {H : Hp} {D t a c : Addr} {acc : List V} {ps : List (Line × Line)} {l b : Line} (hD : H D = some (.lst acc)) (ht : H t = none) (ha : H a = some (.tup ((kLine l).map kV))) (hc : H c = some (.tup ((kLine b).map kV)))
    (r : All2 (fun pr y => Rdd (del H D) y (dPair pr)) ps acc) : All2 (fun pr y => Rdd (del (upd (upd H t (.tup [.ref a, .ref c])) D (.lst (acc ++ [.ref t]))) D) y (dPair pr)) (ps ++ [(l, b)]) (acc ++ [.ref t]) := by
  have nt : t ≠ D := fun z => by rw [z, hD] at ht; cases ht
  have k : Same (del H D) (del (upd H t (.tup [.ref a, .ref c])) D) := fun x o e => by
    have nx : x ≠ D := fun z => by rw [z, del_same] at e; cases e
    rw [del_ne nx] at e ⊢
    rw [upd_ne (fun z => by rw [z, ht] at e; cases e)]
    exact e
  rw [del_upd_eq]
  refine All2.snoc (R := fun pr y => Rdd (del (upd H t (.tup [.ref a, .ref c])) D) y (dPair pr)) ?_ (r.imp fun pr y h => h.mono k)
  have na : a ≠ D := fun z => by rw [z, hD] at ha; cases ha
  have nc : c ≠ D := fun z => by rw [z, hD] at hc; cases hc
  refine .tup (by rw [del_ne nt, upd_same]) (.cons (Rdd.mono k (tup_line ?_)) (.cons (Rdd.mono k (tup_line ?_)) .nil))
  · rw [del_ne na]
    exact ha
  · rw [del_ne nc]
    exact hc
end K10

namespace L2
open PySem PySem.Spec PyProof.Rows
mutual
theorem Rdd.dp {K : PySem.W.Frag} {H : Hp} : ∀ {v : V} {d : PyData}, Rdd H v d → d.canLay0 = true → Dp K H v d
  | _, _, .non, _ => .non
  | _, _, .bl b, _ => .bl b
  | _, _, .int i, _ => .int i
  | _, _, .str x, _ => .str x
  | _, _, .lst h r, c => .lst (SqL.of h) (RddAll.dp r (by simpa [PyData.canLay0] using c))
  | _, _, .tup h r, c => .tup (SqT.of h) (RddAll.dp r (by simpa [PyData.canLay0] using c))
  | _, _, .dK h r q, c => by simp [PyData.canLay0] at c
theorem RddAll.dp {K : PySem.W.Frag} {H : Hp} : ∀ {vs : List V} {ds : List PyData}, RddAll H vs ds → PyData.canLayAll0 ds = true → DpAll K H vs ds
  | _, _, .nil, _ => .nil
  | _, _, .cons r t, c => by
    simp only [PyData.canLayAll0, Bool.and_eq_true] at c
    exact .cons (Rdd.dp r c.1) (RddAll.dp t c.2)
end
end L2
namespace K10
open PySem PySem.Spec PyProof.Rows L2 Tn TL
theorem strOk_of {z : Str} (h : ∀ c ∈ z.cps.toList, c ≤ 126) : PyData.strOk z = true := by
  unfold PyData.strOk
  rw [← Array.all_toList, List.all_eq_true]
  intro c hc
  have := h c hc
  exact decide_eq_true (by omega)
/-- a line of signs that can be laid -/
def lineOk (l : Line) : Prop := PyData.strOk l.1 = true ∧ PyData.strOk l.2 = true
theorem lines_shaped {l : List Line} (h : ∀ x ∈ l, lineOk x) : SeqAt.shaped (.list (l.map dLine)) = true := by
  unfold SeqAt.shaped
  have a : PyData.canLayAll0 (l.map dLine) = true ∧ PyData.depthAll (l.map dLine) ≤ 1 := by
    induction l with
    | nil => exact ⟨rfl, Nat.zero_le _⟩
    | cons r rs ih =>
      have ih := ih fun x m => h x (List.mem_cons_of_mem _ m)
      have hr := h r List.mem_cons_self
      refine ⟨?_, ?_⟩
      · have := ih.1
        simp only [List.map_cons, PyData.canLayAll0, PyData.canLay0, dLine, hr.1, hr.2, this, Bool.and_true]
      · have := ih.2
        simp only [List.map_cons, PyData.depthAll, PyData.depth, dLine]
        omega
  have c : (PyData.list (l.map dLine)).canLay0 = true := by simpa [PyData.canLay0] using a.1
  rw [c, Bool.true_and]
  apply decide_eq_true
  simp only [PyData.depth]
  have := a.2
  omega
theorem line_shaped {l : Line} (h : lineOk l) : SeqAt.shaped (dLine l) = true := by
  unfold SeqAt.shaped dLine
  simp [PyData.canLay0, PyData.canLayAll0, PyData.depth, PyData.depthAll, h.1, h.2]
theorem shaped_lay {d : PyData} (h : SeqAt.shaped d = true) : d.canLay0 = true := by
  unfold SeqAt.shaped at h
  simp only [Bool.and_eq_true] at h
  exact h.1
theorem signs_of {lo hi : Nat} {z : Str} (h : signs lo hi z = true) : ∀ c ∈ z.cps.toList, c ≤ hi := fun c hc => by
  unfold signs at h
  have := List.all_eq_true.mp h c hc
  simp only [Bool.and_eq_true, decide_eq_true_eq] at this
  exact this.2
theorem name_ok {z : Str} (h : nameS z = true) : PyData.strOk z = true := strOk_of fun c hc => by
  unfold nameS at h
  simp only [Bool.and_eq_true] at h
  have := signs_of h.2.2 c hc
  omega
theorem text_ok {z : Str} (h : textS z = true) : PyData.strOk z = true := strOk_of fun c hc => by
  unfold textS at h
  simp only [Bool.and_eq_true] at h
  exact signs_of h.2 c hc
theorem line_eqv (a b : Line) : PyData.eqv (dLine a) (dLine b) = decide (a = b) := by
  obtain ⟨a1, a2⟩ := a
  obtain ⟨b1, b2⟩ := b
  unfold dLine
  by_cases h1 : a1 = b1
  · by_cases h2 : a2 = b2
    · subst h1 h2; simp [PyData.eqv, PyData.eqvAll]
    · simp [PyData.eqv, PyData.eqvAll, h2]
  · simp [PyData.eqv, PyData.eqvAll, h1]
theorem lines_any (l : Line) (ls : List Line) : ((ls.map dLine).any fun z => PyData.eqv z (dLine l)) = decide (l ∈ ls) := by
  induction ls with
  | nil => rfl
  | cons a ls ih =>
    rw [List.map_cons, List.any_cons, ih, line_eqv]
    by_cases e : a = l
    · subst e; simp
    · have : ¬ l = a := fun z => e z.symm
      simp [e, this]
/-- tuples stay -/
def KeepT (H H' : Hp) : Prop := ∀ b ys, H b = some (.tup ys) → H' b = some (.tup ys)
theorem KeepT.same {H H' : Hp} (k : Same H H') : KeepT H H' := fun b ys e => k b _ e
theorem KeepT.trans {H H1 H2 : Hp} (a : KeepT H H1) (b : KeepT H1 H2) : KeepT H H2 := fun x ys e => b x ys (a x ys e)
theorem KeepT.box {H H' : Hp} {p : Addr} {c : Nat} (b : BoxAt H p c) (k : But p H H') : KeepT H H' := fun x ys e => k x _ (fun z => by
  obtain ⟨us, h, _⟩ := b
  rw [z, h] at e
  cases e) e
theorem KeepT.lst {H : Hp} {a : Addr} {xs : List V} {o : HO} (h : H a = some (.lst xs)) : KeepT H (upd H a o) := fun x ys e => by
  rw [upd_ne (fun z => by rw [z, h] at e; cases e)]
  exact e
theorem KeepT.del {H : Hp} {a : Addr} {xs : List V} (h : H a = some (.lst xs)) : KeepT H (L2.del H a) := fun x ys e => by
  rw [del_ne (fun z => by rw [z, h] at e; cases e)]
  exact e
/-- lines as they stand -/
def LinesAt (H : Hp) (ls : List Line) (xs : List V) : Prop := All2 (fun l y => ∃ a, y = V.ref a ∧ H a = some (.tup ((kLine l).map kV))) ls xs
theorem LinesAt.keep {H H' : Hp} {ls : List Line} {xs : List V} (k : KeepT H H') (h : LinesAt H ls xs) : LinesAt H' ls xs := h.imp fun l y ⟨a, e, z⟩ => ⟨a, e, k _ _ z⟩
theorem LinesAt.rdd {H : Hp} {ls : List Line} {xs : List V} (h : LinesAt H ls xs) : RddAll H xs (ls.map dLine) := All2.rdd (h.imp fun l y ⟨a, e, z⟩ => e ▸ tup_line z)
theorem lines_of {H : Hp} {ls : List Line} {xs : List V} (h : RddAll H xs (ls.map dLine)) : LinesAt H ls xs := (rdd_all2 h).imp fun l y r => line_tup r
theorem lineS_ok {l : Line} (h : lineS l = true) : lineOk l := by
  unfold lineS at h
  rw [Bool.and_eq_true] at h
  exact ⟨name_ok h.1, text_ok h.2⟩
/-- those that are new where they stand -/
def firsts (fs : List Line) : List Line := ((List.range fs.length).filter fun k => decide (fs.getD k ("", "") ∉ fs.take k)).map fun k => fs.getD k ("", "")
theorem firsts_mem {fs : List Line} {l : Line} (m : l ∈ firsts fs) : l ∈ fs := by
  unfold firsts at m
  obtain ⟨k, mk, rfl⟩ := List.mem_map.mp m
  have hk := List.mem_range.mp (List.mem_filter.mp mk).1
  rw [List.getD_eq_getElem?_getD, List.getElem?_eq_getElem hk]
  exact List.getElem_mem hk
theorem firsts_len (fs : List Line) : (firsts fs).length ≤ fs.length := by
  unfold firsts
  rw [List.length_map]
  refine Nat.le_trans (List.length_filter_le _ _) ?_
  rw [List.length_range]
  exact Nat.le_refl _
theorem firsts_nodup (fs : List Line) : (firsts fs).Nodup := by
  unfold firsts
  have key : ∀ l : List Nat, l.Pairwise (· < ·) → (∀ k ∈ l, k < fs.length ∧ fs.getD k ("", "") ∉ fs.take k) → (l.map fun k => fs.getD k ("", "")).Nodup := by
    intro l
    induction l with
    | nil => intro _ _; exact List.nodup_nil
    | cons a l ih =>
      intro d h
      have d := List.pairwise_cons.mp d
      rw [List.map_cons, List.nodup_cons]
      refine ⟨fun m => ?_, ih d.2 fun k mk => h k (List.mem_cons_of_mem _ mk)⟩
      obtain ⟨k, mk, e⟩ := List.mem_map.mp m
      have lt := d.1 k mk
      obtain ⟨lk, no⟩ := h k (List.mem_cons_of_mem _ mk)
      refine no ?_
      have ha : a < fs.length := by omega
      rw [e, List.getD_eq_getElem?_getD, List.getElem?_eq_getElem ha]
      refine List.mem_iff_getElem?.mpr ⟨a, ?_⟩
      rw [List.getElem?_take, if_pos lt, List.getElem?_eq_getElem ha]
      rfl
  refine key _ (List.Pairwise.filter _ List.pairwise_lt_range) fun k mk => ?_
  obtain ⟨m1, m2⟩ := List.mem_filter.mp mk
  exact ⟨List.mem_range.mp m1, of_decide_eq_true m2⟩
theorem fresh_but {p a : Addr} {H H' : Hp} (k : But p H H') (n : a ≠ p) (h : H' a = none) : H a = none := by
  cases e : H a with
  | none => rfl
  | some o =>
    rw [k _ _ n e] at h
    cases h
theorem not_box {H : Hp} {p a : Addr} {c : Nat} (b : BoxAt H p c) (h : H a = none) : a ≠ p := fun e => by
  obtain ⟨o, ho⟩ := b.some
  rw [e, ho] at h
  cases h
end K10

namespace K10
open PySem PySem.Spec PyProof.Rows L2 Tn TL
abbrev sLines : Stmt := top 33
theorem scLines : FnScope ["box", "names", "many", "signs", "found", "k", "text", "j", "name"] ["box", "names", "many"] (defScope sLines) := ⟨rfl, rfl, rfl, by decide +kernel, rfl, by decide +kernel, by decide +kernel⟩
theorem textS_of {z : Str} (l : (tl z).length ≤ 40) (a : ∀ c ∈ tl z, 32 ≤ c ∧ c ≤ 126) : textS z = true := by
  unfold textS signs
  rw [len_tl, decide_eq_true l, Bool.true_and]
  refine List.all_eq_true.mpr fun c hc => ?_
  have := a c hc
  rw [decide_eq_true this.1, decide_eq_true this.2]
  rfl
theorem t_text : ∀ i : Nat, i < 40 → textS (Str.ofString "t" ++ Str.ofString (toString (i : Int))) = true := by decide +kernel
theorem t_len : ∀ i : Nat, i < 40 → (Str.ofString "t").length + (Str.ofString (toString (i : Int))).length ≤ 40 := by decide +kernel
def spLines : Sp := fun vs H Q _ => ∃ (p l : Addr) (m c : Nat) (ns : List Str), vs = [.ref p, .ref l, .int m] ∧ BoxAt H p c ∧ H l = some (.lst (ns.map V.str)) ∧ l ≠ p ∧ 1 ≤ ns.length ∧ ns.length ≤ 6 ∧ (∀ z ∈ ns, nameS z = true) ∧ m ≤ 40 ∧ c + 3000 < 100000 ∧
  ∀ (r : Addr) (ls : List Line) (xs : List V) H', But p H H' → BoxAt H' p (c + 44 * m) → H r = none → r ≠ p → H' r = some (.lst xs) → LinesAt H' ls xs → (∀ l ∈ ls, lineS l = true) → ls.Nodup → ls.length ≤ m → Q (.ref r) H'
section
variable {P : Program} {w : World} {K : PySem.W.Frag} {mg : Str → Option Value} {base : Heap} {f : Addr} {fd : FuncData}
theorem ok_lines (F : Fd K "_law_lines" sLines f fd) (g : mg "_law_lines" = some (.ref f)) (B : Bl mg) (o_law_take : Ok P w K mg base CX0 1 "_law_take" sTake ["box", "many"] spDraw1) : Ok P w K mg base CX0 2 "_law_lines" sLines ["box", "names", "many"] spLines := by
  refine ⟨f, fd, g, F, F.bindsN fun _ _ _ _ _ _ us hl => match us, hl with | [_, _, _], _ => rfl, F.ok scLines (fun vs H Q E h => ?_) (fun cdv A outer s H vs Q E hr h => ?_)⟩
  · obtain ⟨p, l, m, c, ns, rfl, _⟩ := h
    rfl
  · have hu5 : (cxOf CX0 P w K mg base ["box", "names", "many", "signs", "found", "k", "text", "j", "name"] "_law_lines" (defScope sLines) f cdv A outer s H E).A.units + 65 < cLine := by
      have z := hr.un
      show (A.deeper _).units + 65 < cLine
      omega
    refine ⟨_, (pss_cons (ps_asg (pe_tup (pa_cons pe_str (pa_cons (pe_lst pa_nil) pa_nil))) (pg_tup rfl (pgs_cons (pg_name (i := 3) scLines.nd rfl (Or.inr rfl)) (pgs_cons (pg_name (i := 4) scLines.nd rfl (Or.inr rfl)) pgs_nil))))
      (pss_cons (ps_for (passes_of rfl) rfl (pi_range1 (by rfl) (B.u "range" (by decide +kernel)) (pa_cons (pv 2) pa_nil)) (pg_name (i := 5) scLines.nd rfl (Or.inl rfl))
        (pss_cons (ps_set (i := 6) scLines.nd rfl (Or.inl rfl) (pe_join pe_str (pe_lc (own := [("j", 7)]) (g := gName 7) rfl scLines.nd (pi_range1 (by rfl) (B.u "range" (by decide +kernel)) (pa_cons (pe_ix ix_seq (pe_lst (pa_cons pe_int (pa_cons pe_int (pa_cons pe_int (pa_cons pe_int (pa_cons pe_int (pa_cons pe_int pa_nil))))))) (pe_o o_law_take (hr.mono (by decide)) (by rfl) (pa_cons (pv 0) (pa_cons pe_int pa_nil))) fun _ _ => rfl) pa_nil)) (blkOk_by (N := ["box", "names", "many", "signs", "found", "k", "text", "j", "name"]) (sc := defScope sLines) (by decide +kernel)) (fun _ _ _ _ _ => (pg_name (i := 7) scLines.nd rfl (Or.inl rfl))) (fun _ _ _ _ _ => pts_nil) (fun _ _ _ _ _ => (pe_ix (r := rIx K) ix_seq (pv 3) (pe_o o_law_take (hr.mono (by decide)) (by rfl) (pa_cons (pv 0) (pa_cons (pe_callB (r := rLen K) (by exact call_len) (by rfl) (B.u "len" (by decide +kernel)) boot_len (pa_cons (pv 3) pa_nil)) pa_nil))) fun _ _ => rfl)))))
        (pss_cons (ps_set (i := 8) scLines.nd rfl (Or.inl rfl) (pe_ix ix_seq (pv 1) (pe_o o_law_take (hr.mono (by decide)) (by rfl) (pa_cons (pv 0) (pa_cons (pe_callB call_len (by rfl) (B.u "len" (by decide +kernel)) boot_len (pa_cons (pv 1) pa_nil)) pa_nil))) fun _ _ => rfl))
        (pss_one (ps_expr (pe_bm PySem.F.plainAttrs_list PySem.F.slot_list_append PySem.F.type_list_append mt_append (pv 4) (pa_cons (pe_ifExp (pt_cmpR (op_notInD hu5) (pe_tup (pa_cons (pv 8) (pa_cons (pv 6) pa_nil))) (pv 4) (by rfl)) (pe_tup (pa_cons (pv 8) (pa_cons (pv 6) pa_nil))) (pe_tup (pa_cons (pv 8) (pa_cons (pe_op op_add_str pe_str (pe_callTy call_str_int (by rfl) (B.u "str" (by decide +kernel)) (by decide +kernel) (pa_cons (pv 5) pa_nil))) pa_nil)))) pa_nil)))))))
      (pss_one (ps_ret (pe_lc (own := [("k", 5)]) (g := gName 5) rfl scLines.nd (pi_range1 (by rfl) (B.u "range" (by decide +kernel)) (pa_cons (pv 2) pa_nil)) (blkOk_by (N := ["box", "names", "many", "signs", "found", "k", "text", "j", "name"]) (sc := defScope sLines) (by decide +kernel)) (fun _ _ _ _ _ => (pg_name (i := 5) scLines.nd rfl (Or.inl rfl))) (fun _ _ _ _ _ => (pts_one (pt_cmpR (r := rNotInD K) (by exact (op_notInD hu5)) (pe_ix (r := rIx K) ix_seq (pv 4) (pv 5) fun _ _ => rfl) (pe_slice (r := rSlL K) (by exact sl_list) (pv 4) po_none (po_some (pv 5))) (by rfl)))) (fun _ _ _ _ _ => (pe_ix (r := rIx K) ix_seq (pv 4) (pv 5) fun _ _ => rfl))))))), ?_⟩
    obtain ⟨p, l, m, c, ns, rfl, hp, hl, nlp, n1, n6, gn, m40, hc, q⟩ := h
    obtain ⟨ob, hob⟩ := hp.some
    generalize hL : (Str.ofString " !\"#$&'()*+,-./0123456789:;<=>?@ABCDEFGHIJKLMNOPQRSTUVWXYZ[\\]^_`abcdefghijklmnopqrstuvwxyz{|}~") = L
    have lL : 1 ≤ L.length ∧ L.length ≤ 95 := by rw [← hL]; decide +kernel
    have aL : ∀ c ∈ tl L, 32 ≤ c ∧ c ≤ 126 := by rw [← hL]; decide +kernel
    refine ⟨two_ln (by decide), fun F hF => ⟨two_ln (by show 2 ≤ _; decide), fun T hT => ?_⟩⟩
    have nF : F ≠ p := (ne_of_none hob hF).symm
    have nFT : F ≠ T := fun e => by rw [← e, upd_same] at hT; cases hT
    have k0 : Same H (upd (upd H F (.lst [])) T (.tup [.str L, .ref F])) := (upd_grow hF).trans (upd_grow hT)
    refine ⟨T, _, rfl, SqT.of upd_same, rfl, _, _, rfl, _, _, rfl, rfl, ?_⟩
    dsimp only [gName]
    refine ⟨_, rfl, _, rfl, by omega, by omega, ?_⟩
    refine for_range (n := m) (fun i σ H' => ∃ (fs : List Line) (xs : List V), But p H H' ∧ BoxAt H' p (c + 44 * i) ∧ H' F = some (.lst xs) ∧ LinesAt H' fs xs ∧ fs.length = i ∧ (∀ z ∈ fs, lineS z = true) ∧
      ∃ a1 a2 a3 a4 : Option V, σ = [some (.ref p), some (.ref l), some (.int m), some (.str L), some (.ref F), a1, a2, a3, a4]) ?_ ?_ ?_
    · exact ⟨[], [], But.of k0, hp.same k0, by rw [upd_ne nFT, upd_same], .nil, rfl, (fun _ z => nomatch z), none, none, none, none, rfl⟩
    · rintro i σ H1 hi ⟨fs, xs, k1, b1, f1, la, l1, g1, a1, a2, a3, a4, rfl⟩
      dsimp only [gName]
      refine tSeq_by (fun σ H' => ∃ z : Str, textS z = true ∧ But p H1 H' ∧ BoxAt H' p (c + 44 * i + 42) ∧ ∃ a3 a4 : Option V, σ = [some (.ref p), some (.ref l), some (.int m), some (.str L), some (.ref F), some (.int (0 + (i : Int))), some (.str z), a3, a4]) ?_ ?_
      · rintro σ H2 ⟨z, gz, k2, b2, a3, a4, rfl⟩
        have hl2 := k2 _ _ nlp (k1 _ _ nlp hl)
        refine ⟨_, rfl, _, rfl, _, rfl, _, _, rfl, .inl ⟨_, SqL.of hl2, rfl⟩, p, _, _, rfl, b2, by omega, by rw [List.length_map]; omega, by rw [List.length_map]; omega, fun d H3 d0 d1 k3 b3 e3 => ?_⟩
        rw [List.length_map] at d1
        obtain ⟨dn, rfl⟩ : ∃ dn : Nat, d = dn := ⟨d.toNat, by omega⟩
        have ed := List.getElem?_eq_getElem (show dn < ns.length by omega)
        generalize ns[dn] = nm at ed
        have gnm := gn nm (List.mem_of_getElem? ed)
        refine ixAt (k3 _ _ nlp hl2) (atI_nat (by rw [List.getElem?_map, ed]; rfl)) ?_
        have k13 : But p H1 H3 := k2.trans k3
        have f3 := k13 _ _ nF f1
        have la3 := la.keep (KeepT.box b1 k13)
        have sl := lines_shaped fun x m => lineS_ok (g1 x m)
        have llx := la3.len
        have last : ∀ (o : Line) (a : Addr) (H' : Hp), lineS o = true → H' a = some (.tup ((kLine o).map kV)) → Same H3 H' → ∀ a1 a2 a3 a4 : Option V, rAppend (.ref F) [.ref a] H' fun _ H5 => ∃ (fs : List Line) (xs : List V), But p H H5 ∧ BoxAt H5 p (c + 44 * (i + 1)) ∧ H5 F = some (.lst xs) ∧ LinesAt H5 fs xs ∧ fs.length = i + 1 ∧ (∀ z ∈ fs, lineS z = true) ∧
            ∃ b1 b2 b3 b4 : Option V, [some (.ref p), some (.ref l), some (.int m), some (.str L), some (.ref F), a1, a2, a3, a4] = [some (.ref p), some (.ref l), some (.int m), some (.str L), some (.ref F), b1, b2, b3, b4] := by
          intro o a H' go ha k a1 a2 a3 a4
          have f' := k _ _ f3
          refine ⟨F, xs, _, rfl, rfl, f', lt_ln (by omega), fs ++ [o], xs ++ [.ref a], fun x u nx e => ?_, ?_, upd_same, ?_, by rw [List.length_append, l1]; rfl, fun y m => ?_, _, _, _, _, rfl⟩
          · rw [upd_ne (ne_of_none e hF)]
            exact k _ _ (k13 _ _ nx (k1 _ _ nx e))
          · exact ((b3.same k).up (by omega)).eq (upd_ne nF.symm)
          · have kl : KeepT H' (upd H' F (.lst (xs ++ [.ref a]))) := KeepT.lst f'
            exact All2.snoc ⟨a, rfl, kl _ _ ha⟩ ((la3.keep (KeepT.same k)).keep kl)
          · rcases List.mem_append.mp m with m | m
            · exact g1 y m
            · rw [List.mem_singleton.mp m]
              exact go
        have gl : lineS (nm, z) = true := by unfold lineS; rw [gnm, gz]; rfl
        refine ⟨_, rfl, .inl ⟨rfl, _, SqL.of f3⟩, _, rfl, _, rfl, two_ln (by show 2 ≤ _; decide), fun T1 hT1 => ?_⟩
        have kT1 : Same H3 (upd H3 T1 (.tup [.str nm, .str z])) := upd_grow hT1
        have ry : Rdd (upd H3 T1 (.tup [.str nm, .str z])) (.ref T1) (dLine (nm, z)) := tup_line upd_same
        refine ⟨_, rfl, dLine (nm, z), fs.map dLine, ry.dp (shaped_lay (line_shaped (lineS_ok gl))), (Rdd.lst (kT1 _ _ f3) (la3.keep (KeepT.same kT1)).rdd).dp (shaped_lay sl), line_shaped (lineS_ok gl), sl, _, rfl, ?_⟩
        refine ite2 (fun e => ?_) fun e => ?_
        · refine ⟨_, rfl, _, rfl, two_ln (by show 2 ≤ _; decide), fun T2 hT2 => ?_⟩
          exact last (nm, z) T2 _ gl upd_same (kT1.trans (upd_grow hT2)) _ _ _ _
        · have zi : (0 : Int) + i = (i : Int) := by omega
          have tt := t_text i (by omega)
          have tlen := t_len i (by omega)
          refine ⟨_, rfl, _, rfl, _, rfl, ?_⟩
          rw [zi]
          refine ⟨Nat.lt_of_le_of_lt (Nat.log2_le_self _) (by omega), _, _, rfl, rfl, two_ln (by omega), two_ln (by show 2 ≤ _; decide), fun T2 hT2 => ?_⟩
          have gl2 : lineS (nm, Str.ofString "t" ++ Str.ofString (toString (i : Int))) = true := by unfold lineS; rw [gnm, tt]; rfl
          exact last (nm, Str.ofString "t" ++ Str.ofString (toString (i : Int))) T2 _ gl2 upd_same (kT1.trans (upd_grow hT2)) _ _ _ _
      · intro rest
        refine ⟨⟨_, rfl⟩, two_ln (by show 6 ≤ _; decide), fun E hE => ⟨_, rfl, p, 6, _, rfl, b1.same (upd_grow hE), by omega, by decide, by decide, fun d H2 d0 d1 k2 b2 e2 => ?_⟩⟩
        have nEp : E ≠ p := fun e => by
          obtain ⟨o, ho⟩ := b1.some
          rw [e, ho] at hE
          cases hE
        obtain ⟨dn, rfl⟩ : ∃ dn : Nat, d = dn := ⟨d.toNat, by omega⟩
        obtain ⟨r, hr, r8⟩ : ∃ r : Nat, ([.int 0, .int 1, .int 3, .int 2, .int 1, .int 40] : List V)[dn]? = some (.int r) ∧ r ≤ 40 := by
          have h6 : dn < 6 := by omega
          match dn, h6 with
          | 0, _ => exact ⟨0, rfl, by decide⟩
          | 1, _ => exact ⟨1, rfl, by decide⟩
          | 2, _ => exact ⟨3, rfl, by decide⟩
          | 3, _ => exact ⟨2, rfl, by decide⟩
          | 4, _ => exact ⟨1, rfl, by decide⟩
          | 5, _ => exact ⟨40, rfl, by decide⟩
        have kE := k2 _ _ nEp upd_same
        obtain ⟨ob2, hob2⟩ := b2.some
        refine ixAt kE (atI_nat hr) ⟨_, rfl, by omega, by omega, fun D hD => ?_⟩
        refine lc_genB (p := p) (walk_range (lo := 0) (n := r)) (fun i' H' => BoxAt H' p (c + 44 * i + 1 + i')) (fun i y _ => ∃ c, y = .str (sg c) ∧ 32 ≤ c ∧ c ≤ 126) (fun _ _ _ _ _ h => h) (fun i H1 H2 e h => h.eq e.symm) hob2 b2 hD (by omega) (fun _ _ => True.intro) ?_ ?_
        · rintro j x H3 H4 K1 N1 hj k3 - b3 ⟨rfl, rfl⟩ hK
          refine ⟨rfl, _, rfl, _, rfl, _, rfl, _, _, rfl, ⟨two_ln (by omega), rfl⟩, p, _, _, rfl, b3, by omega, by omega, by omega, fun d2 H5 d20 d21 k5 b5 e5 => ?_⟩
          obtain ⟨dm, rfl⟩ : ∃ dm : Nat, d2 = dm := ⟨d2.toNat, by omega⟩
          have ll := len_tl L
          have em := List.getElem?_eq_getElem (show dm < (tl L).length by omega)
          have mm := List.getElem_mem (show dm < (tl L).length by omega)
          generalize (tl L)[dm] = cc at em mm
          refine .inr (.inr ⟨L, _, cc, rfl, rfl, two_ln (by omega), atI_nat em, hK _ _ k5 b5 ⟨cc, rfl, aL cc mm⟩⟩)
        · intro ys H3 k3 b3 h3 l3 r3
          have kb := but_of k3
          obtain ⟨cs, rfl, gc⟩ := sgs_of r3
          have lc : cs.length = r := by rw [List.length_map, List.length_map] at l3; exact l3
          refine ⟨_, D, cs.map sg, rfl, rfl, .inl (SqL.of h3), ?_, ?_⟩
          · rw [sgs_sum]
            show cs.length + (cs.map sg).length * 0 ≤ _
            omega
          rw [join_sg]
          have k13 : But p H1 H3 := (But.of (upd_grow hE)).trans (k2.trans kb)
          have gz : textS (mkS cs) = true := textS_of (by rw [tl_mkS]; omega) (by rw [tl_mkS]; exact gc)
          exact rest _ _ ⟨_, gz, k13, b3.up (by omega), _, _, rfl⟩
    · rintro σ H1 ⟨fs, xs, k1, b1, f1, la, l1, g1, a1, a2, a3, a4, rfl⟩
      dsimp only
      refine ⟨_, rfl, _, rfl, by omega, by omega, fun D hD => ?_⟩
      have l1' : fs.length = m := l1
      have lx := la.len
      have sl := fun k => lines_shaped (l := fs.take k) fun x m => lineS_ok (g1 x (List.mem_of_mem_take m))
      refine lc_as (walk_range (lo := 0) (n := m)) (as := List.range m) List.length_range (fun k => decide (fs.getD k ("", "") ∉ fs.take k)) (fun k y H' => ∃ a, y = .ref a ∧ H' a = some (.tup ((kLine (fs.getD k ("", ""))).map kV)))
        (fun k y H1 H2 kk h => h.imp fun a z => ⟨z.1, kk _ _ z.2⟩) hD (by omega) (fun _ _ => True.intro) ?_ ?_
      · rintro j a x H2 H3 K1 N1 ea k2 ⟨zs, hz⟩ ⟨rfl, rfl⟩ hK hN
        have hj : j < m := by
          have z := (List.getElem?_eq_some_iff.mp ea).1
          rwa [List.length_range] at z
        obtain rfl : j = a := by
          rw [List.getElem?_range hj] at ea
          exact Option.some.inj ea
        have zj : (0 : Int) + j = ((j : Nat) : Int) := by omega
        dsimp only [gName]
        rw [show V.int ((0 : Int) + j) = V.int ((j : Nat) : Int) from congrArg V.int zj]
        have kk := del_sub k2
        have f2 := kk _ _ f1
        have la2 : LinesAt (del H3 D) fs xs := la.keep (KeepT.same k2)
        have la3 : LinesAt H3 fs xs := la.keep (KeepT.same kk)
        have el := List.getElem?_eq_getElem (show j < fs.length by omega)
        have eg : fs.getD j ("", "") = fs[j] := by rw [List.getD_eq_getElem?_getD, el]; rfl
        have gj := g1 _ (List.getElem_mem (show j < fs.length by omega))
        rw [eg] at hK hN
        generalize fs[j] = lj at el eg gj hK hN
        obtain ⟨y, hy, ay, rfl, hay⟩ := All2.get la2 el
        have hay3 := del_le _ _ hay
        refine ⟨rfl, _, rfl, _, rfl, ixAt f2 (atI_nat hy) ⟨_, rfl, _, rfl, _, rfl, F, xs, rfl, SqL.of f2, fun S hS => ?_⟩⟩
        have ec : cutV xs none (some ((j : Nat) : Int)) = xs.take j := by
          unfold cutV
          rw [HT.sIx_none, HT.sIx_nat, List.drop_zero, Nat.sub_zero, Nat.min_eq_left (by omega)]
        have kS : Same H3 (upd H3 S (.lst (cutV xs none (some ((j : Nat) : Int))))) := upd_grow hS
        have rt : RddAll (upd H3 S (.lst (cutV xs none (some ((j : Nat) : Int))))) (xs.take j) ((fs.take j).map dLine) := by
          have key : ∀ {as : List Line} {bs : List V} (n : Nat), LinesAt H3 as bs → LinesAt H3 (as.take n) (bs.take n) := fun {as bs} n h => by
            induction h generalizing n with
            | nil => simp; exact .nil
            | cons r t ih =>
              cases n with
              | zero => exact .nil
              | succ n => exact .cons r (ih n)
          exact ((key j la3).keep (KeepT.same kS)).rdd
        refine ⟨dLine lj, (fs.take j).map dLine, (tup_line (kS _ _ hay3)).dp (shaped_lay (line_shaped (lineS_ok gj))), (Rdd.lst (by rw [upd_same, ec]) rt).dp (shaped_lay (sl j)), line_shaped (lineS_ok gj), sl j, _, rfl, ?_⟩
        rw [lines_any, show (!decide (lj ∈ fs.take j)) = decide (lj ∉ fs.take j) by simp]
        refine iteB (fun e => ⟨_, rfl, _, rfl, ixAt (kS _ _ f2) (atI_nat hy) (hK e _ _ kS ⟨ay, rfl, ?_⟩)⟩) fun e => hN e _ kS
        rw [del_ne (fun z => by rw [z, del_same] at hay; cases hay)]
        exact kS _ _ hay3
      · intro ys H2 k2 h2 r2
        have k2 := del_sub k2
        have r3 : All2 (fun l y => ∃ a, y = V.ref a ∧ H2 a = some (HO.tup ((kLine l).map kV))) (firsts fs) ys := by
          have z := r2.imp fun k y ⟨a, e, h⟩ => (⟨a, e, del_le _ _ h⟩ : ∃ a, y = V.ref a ∧ H2 a = some (HO.tup ((kLine (fs.getD k ("", ""))).map kV)))
          have key : ∀ {ks : List Nat} {ys : List V}, All2 (fun k y => ∃ a, y = V.ref a ∧ H2 a = some (HO.tup ((kLine (fs.getD k ("", ""))).map kV))) ks ys → All2 (fun l y => ∃ a, y = V.ref a ∧ H2 a = some (HO.tup ((kLine l).map kV))) (ks.map fun k => fs.getD k ("", "")) ys := by
            intro ks ys h
            induction h with
            | nil => exact .nil
            | cons r t ih => exact .cons r ih
          unfold firsts
          rw [l1']
          exact key z
        refine q D (firsts fs) ys H2 (k1.trans (But.of k2)) (b1.same k2) (fresh_but k1 (not_box b1 hD) hD) (not_box b1 hD) h2 r3 (fun x mx => g1 x (firsts_mem mx)) (firsts_nodup fs) (by have := firsts_len fs; omega)
end
end K10

/-! list(reversed(a list)) -/
namespace RT
open PySem PySem.Spec PyProof.Rows L2
section
variable {prog : Program} {w : World} {A : Around} {s : Shared} {R : Result → Shared → Prop} {E : Value → Shared → Prop}
theorem extend_rev {it l : Addr} {items : Array Value} (hh : A.handled = none) (hit : s.heap.IsRevIter it l ((items.size : Int) - 1)) (hl : s.heap.IsList l items) (hne : l ≠ it) (hn : items.size ≤ sizeLine) (S : Addr) (res : Value) (c₀ : Nat)
    (hS : s.heap.get? S = some { cls := .type "list", data := .seq #[] c₀ }) (hSl : S ≠ l) (hSi : S ≠ it)
    (hR : ∀ (h' : Heap) (tk : Nat) (acc : Array Value) (c' : Nat), (∀ b o, b ≠ S → b ≠ it → s.heap.get? b = some o → h'.get? b = some o) → h'.get? S = some { cls := .type "list", dict := none, data := .seq acc c', slots := #[] } →
      ItemsOf (fun i v => items[items.size - 1 - i]? = some v) acc items.size → R (.ok (.ret res)) { s with heap := h', toks := tk }) :
    wpAny (model prog w) A.in1 (Builtin.List.listExtendWith (.ref S) (.ref it) res)
      (fun fin s' => match fin with | .done f => R (.ok f) s' | .again c' => c'.quiet = true ∧ codeAny (model prog w) A c' R s') (fun e s' => R (.error e) s') s := by
  have W := (Walks.listRev (prog := prog) (w := w) (A := A.in1) hh it l hne items).toS
  have hSf : S ∉ [it, l] := by simp only [List.mem_cons, List.not_mem_nil, or_false, not_or]; exact ⟨hSi, hSl⟩
  have hT : s.TypeIs (.ref it) "list_reverseiterator" := Heap.IsRevIter.typeIs hit
  have h1 : Builtin.List.listSameRef (.ref S) (.ref it) = false := by simp [Builtin.List.listSameRef, hSi]
  unfold Builtin.List.listExtendWith
  refine wpAny_bind (wpAny_typeOf hT ?_)
  rw [if_neg (by rw [h1]; decide)]
  refine wpAny_bind (wpAny_pyIter_revIter hit ?_)
  refine wpAny_bind (wpAny_holding ?_)
  unfold Builtin.List.listLengthHint
  refine wpAny_bind (wpAny_specialOf hT nolen_lri ?_)
  show wpAny _ A.in1 (specialOf (Value.ref it) (Str.ofString "__length_hint__") >>= _) _ _ _
  refine wpAny_bind (wpAny_specialOf hT hint_lri ?_)
  generalize hid : ("list_reverseiterator.__length_hint__" : String) = id0
  wp_delta
  rw [show splitId id0 = some ("list_reverseiterator", "__length_hint__") from by subst hid; decide +kernel]
  subst hid
  refine wpAny_bind (wpAny_isInstance (b := true) hT (by rw [isSubtype_type]; kernel_rfl) ?_)
  refine wpAny_pure ?_
  rw [if_neg (by decide)]
  have e0 : ((items.size : Nat) : Int) - 1 - ((0 : Nat) : Int) = (items.size : Int) - 1 := by omega
  refine wpAny_pure ⟨plainId_quiet F.plain_extend_loop _, codeAny_extend_loopS W hn _ hSf _ items.size 0 _ _ _ rfl (Nat.zero_le _) ⟨Nat.zero_le _, by rw [e0]; exact hit, hl⟩ hS (ItemsOf.nil _) fun s' acc' c' hm hS' hacc => ?_⟩
  rw [Moved.eq_with hm]
  refine hR s'.heap s'.toks acc' c' (fun b o nS ni e => hm.heap b o (fun hmem => ?_) e) hS' hacc
  rcases List.mem_cons.mp hmem with e' | hmem
  · exact nS e'
  · exact ni (List.mem_singleton.mp hmem)
theorem list_init_rev {it l : Addr} {items : Array Value} (hh : A.handled = none) (hit : s.heap.IsRevIter it l ((items.size : Int) - 1)) (hl : s.heap.IsList l items) (hne : l ≠ it) (hn : items.size ≤ sizeLine) (S : Addr)
    (hS : s.heap.get? S = some { cls := .type "list", data := .seq #[] }) (hSl : S ≠ l) (hSi : S ≠ it)
    (hR : ∀ (h' : Heap) (tk : Nat) (acc : Array Value) (c' : Nat), (∀ b o, b ≠ S → b ≠ it → s.heap.get? b = some o → h'.get? b = some o) → h'.get? S = some { cls := .type "list", dict := none, data := .seq acc c', slots := #[] } →
      ItemsOf (fun i v => items[items.size - 1 - i]? = some v) acc items.size → R (.ok (.ret .none)) { s with heap := h', toks := tk }) :
    wpAny (model prog w) A.in1 (Builtin.«list.__init__» ⟨[.ref S, .ref it], []⟩)
      (fun fin s' => match fin with | .done f => R (.ok f) s' | .again c' => c'.quiet = true ∧ codeAny (model prog w) A c' R s') (fun e s' => R (.error e) s') s := by
  show wpAny _ A.in1 (do let old ← Builtin.List.listItems (.ref S); Builtin.List.listUpdate (.ref S) (fun _ => #[]); letGo old.toList.reverse; Builtin.List.listExtendWith (.ref S) (.ref it) .none) _ _ s
  refine wpAny_bind ?_
  unfold Builtin.List.listItems
  refine wpAny_bind (wpAny_seqItems hS rfl (wpAny_pure ?_))
  show wpAny _ A.in1 (updateSeq S (fun _ => #[]) >>= fun _ => letGo (#[] : Array Value).toList.reverse >>= fun _ => Builtin.List.listExtendWith (.ref S) (.ref it) .none) _ _ s
  refine wpAny_bind (wpAny_updateSeq hS rfl ?_)
  have hS₂ := Heap.get?_update_self (Obj.mapSeq (fun _ => (#[] : Array Value))) hS rfl
  have oth : ∀ b o, b ≠ S → s.heap.get? b = some o → (s.heap.update S (Obj.mapSeq (fun _ => (#[] : Array Value)))).get? b = some o :=
    fun b o hb e => (Heap.get?_update_other _ _ (Ne.symm hb)).trans e
  refine wpAny_bind (wpAny_letGo ?_)
  obtain ⟨o1, q1, q2⟩ := id hit
  obtain ⟨o3, q3, q4⟩ := id hl
  refine extend_rev (s := { s with heap := s.heap.update S (Obj.mapSeq (fun _ => (#[] : Array Value))) }) hh ⟨o1, oth _ _ hSi.symm q1, q2⟩ ⟨o3, oth _ _ hSl.symm q3, q4⟩ hne hn S .none _ hS₂ hSl hSi fun h' tk acc c' hk hS' hacc => ?_
  exact hR h' tk acc c' (fun b o nS ni e => hk b o nS ni (oth b o nS e)) hS' hacc
theorem call_list_rev {it l : Addr} {items : Array Value} {Q : Value → Shared → Prop} (hh : A.handled = none) (hit : s.heap.IsRevIter it l ((items.size : Int) - 1)) (hl : s.heap.IsList l items) (hne : l ≠ it) (hn : items.size ≤ sizeLine)
    (hQ : ∀ (h' : Heap) (tk : Nat) (acc : Array Value) (c' : Nat), (∀ b o, b ≠ it → s.heap.get? b = some o → h'.get? b = some o) → h'.get? s.heap.objs.size = some { cls := .type "list", dict := none, data := .seq acc c', slots := #[] } →
      ItemsOf (fun i v => items[items.size - 1 - i]? = some v) acc items.size → Q (.ref s.heap.objs.size) { s with heap := h', toks := tk }) :
    wpAny (model prog w) A (call (.type "list") [.ref it]) Q E s := by
  obtain ⟨oi, hoi, _⟩ := id hit
  obtain ⟨ol, hol, _⟩ := id hl
  refine callType_codes (Q₁ := fun obj s₁ => obj = .ref s.heap.objs.size ∧ s₁ = { s with heap := s.heap.push { cls := .type "list", data := .seq #[] } }) F.called_list (F.typeCall_list_1 _) F.entry_list_init
    (code_list_new _ ⟨rfl, rfl⟩) fun obj s₁ h₁ => ?_
  obtain ⟨rfl, rfl⟩ := h₁
  have hS : (s.heap.push { cls := .type "list", data := .seq #[] }).get? s.heap.objs.size = some { cls := .type "list", data := .seq #[] } := Heap.get?_push_size _ rfl
  refine ⟨⟨_, hS, rfl⟩, F.args_list_init_2 _ _, list_init_rev (A := A.in1) (s := { s with heap := s.heap.push { cls := .type "list", data := .seq #[] } }) hh (hit.at fun o e => Heap.get?_push_of_some _ e) (hl.push _) hne hn _ hS (Nat.ne_of_gt (Heap.lt_size hol)) (Nat.ne_of_gt (Heap.lt_size hoi)) fun h' tk acc c' hk hS' hacc => ?_⟩
  exact ⟨rfl, hQ h' tk acc c' (fun b o ni e => hk b o (Nat.ne_of_lt (Heap.lt_size e)) ni (Heap.get?_push_of_some _ e)) hS' hacc⟩
end
end RT
namespace L2
open PySem PySem.Spec PyProof.Rows RT
/-- list(reversed(x)), x a list: a new list -/
def tLstRev (K : PySem.W.Frag) (te : TE) : TE := fun σ H Q => te σ H fun v H1 => ∃ (a : Addr) (xs : List V), v = .ref a ∧ SqL K H1 a xs ∧ ∀ q, H1 q = none → Q (.ref q) (upd H1 q (.lst xs.reverse))
theorem pe_lstRev {X : Cx} {e : Expr} {te : TE} {p p2 pos pos2 : Pos} (hc : X.calm = true) (hg : Gl X "list") (hm : X.mg "list" = none) (hg2 : Gl X "reversed") (hm2 : X.mg "reversed" = none) (he : PE X e te)
    (hs : starEach [e] X.env = (false, eval e X.env) :: starEach [] X.env := by rfl)
    (hs2 : starEach [.Call (.Name "reversed" p2) [e] [] pos2] X.env = (false, eval (.Call (.Name "reversed" p2) [e] [] pos2) X.env) :: starEach [] X.env := by rfl) :
    PE X (.Call (.Name "list" p) [.Call (.Name "reversed" p2) [e] [] pos2] [] pos) (tLstRev X.K te) := by
  refine ⟨fun pins s σ H Q I h => ?_⟩
  refine Call_ (ld_blt I hg hm PyProof.Rows.boot_list (PyProof.Rows.callWith_type1 (PyProof.Rows.args_cons (Call_ (ld_blt I hg2 hm2 PyProof.Rows.boot_reversed (PyProof.Rows.callWith_type1 (PyProof.Rows.args_cons (thn (he.run pins s σ H _ I h) fun u s1 ⟨v, H1, I1, r1, q1⟩ => PyProof.Rows.args_nil ?_) hs) hs rfl))) hs2) hs2 rfl))
  obtain ⟨a, xs, ev, hq, q⟩ := q1
  subst ev
  obtain rfl : u = Value.ref a := r1
  obtain ⟨its, rv, p', hz⟩ := I1.list hq
  refine call_reversed_list p'.isList (PyProof.Rows.args_nil ?_)
  have hl := p'.isList
  obtain ⟨ol, hol, _⟩ := id hl
  have hne : a ≠ s1.heap.objs.size := Nat.ne_of_lt (Heap.lt_size hol)
  have hn : its.toArray.size ≤ sizeLine := by rw [List.size_toArray, ← rv.length]; exact hz
  refine call_list_rev (s := { s1 with heap := s1.heap.push (revObj a ((its.toArray.size : Int) - 1)) }) (I1.ok.hd hc) ⟨_, Heap.get?_push_size _ rfl, rfl, rfl⟩ (hl.push _) hne hn fun h' tk acc c' hk hS hi => ?_
  have le : s1.heap.objs.size ≤ (s1.heap.push (revObj a ((its.toArray.size : Int) - 1))).objs.size := by
    show _ ≤ (s1.heap.objs.push _).size
    rw [Array.size_push]
    exact Nat.le_succ _
  refine ⟨.ref _, upd H1 _ (.lst xs.reverse), I1.laid (t' := tk) (fun b o e => hk b o (Nat.ne_of_lt (Heap.lt_size e)) (Heap.get?_push_of_some _ e)) le (show ObjOk X.prog X.w _ _ _ (.lst xs.reverse) from ⟨by rw [List.length_reverse]; exact hz, acc.toList, c', vals_rev rv hi, ?_⟩), rfl, q _ (I1.hok.fresh le)⟩
  rw [Array.toArray_toList]
  exact hS
end L2

namespace K10
open PySem PySem.Spec PyProof.Rows L2 Tn TL
abbrev sLog : Stmt := top 34
theorem scLog : FnScope ["box", "lines", "kind", "found", "turn", "at", "long"] ["box", "lines", "kind"] (defScope sLog) := ⟨rfl, rfl, rfl, by decide +kernel, rfl, by decide +kernel, by decide +kernel⟩
theorem moved {xs : List V} (a n : Nat) : (xs.take a ++ (xs.drop (a + 1)).take n ++ (xs.drop a).take 1 ++ xs.drop (a + 1 + n)).Perm xs := by
  have e : xs.take a ++ ((xs.drop a).take 1 ++ ((xs.drop (a + 1)).take n ++ xs.drop (a + 1 + n))) = xs := by
    rw [← List.drop_drop (i := n) (j := a + 1), List.take_append_drop, ← List.drop_drop (i := 1) (j := a), List.take_append_drop, List.take_append_drop]
  have p : ((xs.drop (a + 1)).take n ++ ((xs.drop a).take 1 ++ xs.drop (a + 1 + n))).Perm ((xs.drop a).take 1 ++ ((xs.drop (a + 1)).take n ++ xs.drop (a + 1 + n))) := by
    rw [← List.append_assoc, ← List.append_assoc]
    exact List.perm_append_comm.append_right _
  rw [List.append_assoc, List.append_assoc]
  exact (p.append_left _).trans (.of_eq e)
theorem cut_ab (xs : List V) (a b : Nat) : cutV xs (some (a : Int)) (some (b : Int)) = (xs.drop a).take (b - a) := by
  unfold cutV
  rw [HT.sIx_nat, HT.sIx_nat]
  by_cases h : a ≤ xs.length
  · rw [Nat.min_eq_left h]
    by_cases h2 : b ≤ xs.length
    · rw [Nat.min_eq_left h2]
    · rw [Nat.min_eq_right (by omega), List.take_of_length_le (by rw [List.length_drop]; omega), List.take_of_length_le (by rw [List.length_drop]; omega)]
  · rw [Nat.min_eq_right (show xs.length ≤ a by omega), List.drop_of_length_le (Nat.le_refl _), List.drop_of_length_le (show xs.length ≤ a by omega), List.take_nil, List.take_nil]
theorem cut_0b (xs : List V) (b : Nat) : cutV xs none (some (b : Int)) = xs.take b := by
  have z := cut_ab xs 0 b
  rw [List.drop_zero, Nat.sub_zero] at z
  rw [← z]
  unfold cutV
  rw [HT.sIx_none, HT.sIx_nat, HT.sIx_nat, Nat.zero_min]
theorem cut_a0 (xs : List V) (a : Nat) : cutV xs (some (a : Int)) none = xs.drop a := by
  unfold cutV
  rw [HT.sIx_none, HT.sIx_nat]
  by_cases h : a ≤ xs.length
  · rw [Nat.min_eq_left h]
    exact List.take_of_length_le (by rw [List.length_drop]; omega)
  · rw [Nat.min_eq_right (show xs.length ≤ a by omega), List.drop_of_length_le (Nat.le_refl _), List.drop_of_length_le (show xs.length ≤ a by omega), List.take_nil]
/-- the list at r holds some of xs -/
structure Gd (H : Hp) (p : Addr) (xs : List V) (H' : Hp) (c : Nat) (r : Addr) (ys : List V) : Prop where
  k : But p H H'
  b : BoxAt H' p c
  o : H r = none
  n : r ≠ p
  h : H' r = some (.lst ys)
  s : ∃ zs, (ys ++ zs).Perm xs
theorem Gd.len {H H' : Hp} {p r : Addr} {xs ys : List V} {c : Nat} (g : Gd H p xs H' c r ys) : ys.length ≤ xs.length := by
  obtain ⟨zs, h⟩ := g.s
  have := h.length_eq
  rw [List.length_append] at this
  omega
theorem Gd.draw {H H' H2 : Hp} {p r : Addr} {xs ys : List V} {c c2 : Nat} (g : Gd H p xs H' c r ys) (k : But p H' H2) (b : BoxAt H2 p c2) : Gd H p xs H2 c2 r ys := ⟨g.k.trans k, b, g.o, g.n, k _ _ g.n g.h, g.s⟩
theorem Gd.same {H H' H2 : Hp} {p r : Addr} {xs ys : List V} {c : Nat} (g : Gd H p xs H' c r ys) (k : Same H' H2) : Gd H p xs H2 c r ys := g.draw (.of k) (g.b.same k)
theorem Gd.up {H H' : Hp} {p r : Addr} {xs ys : List V} {c c2 : Nat} (g : Gd H p xs H' c r ys) (l : c ≤ c2) : Gd H p xs H' c2 r ys := { g with b := g.b.up l }
/-- another list takes its place -/
theorem Gd.new {H H' H2 : Hp} {p r q : Addr} {xs ys zs : List V} {c : Nat} (g : Gd H p xs H' c r ys) (k : Same H' H2) (f : H' q = none) (h : H2 q = some (.lst zs)) (s : ∃ us, (zs ++ us).Perm ys) : Gd H p xs H2 c q zs := by
  refine ⟨g.k.trans (.of k), g.b.same k, fresh_but g.k (not_box g.b f) f, not_box g.b f, h, ?_⟩
  obtain ⟨us, hu⟩ := s
  obtain ⟨ws, hw⟩ := g.s
  refine ⟨us ++ ws, ?_⟩
  rw [← List.append_assoc]
  exact (hu.append_right ws).trans hw
def spLog : Sp := fun vs H Q _ => ∃ (p l : Addr) (c : Nat) (k : Int) (xs : List V), vs = [.ref p, .ref l, .int k] ∧ BoxAt H p c ∧ H l = some (.lst xs) ∧ l ≠ p ∧ xs.length ≤ 40 ∧ c + 3000 < 100000 ∧
  ∀ r ys H', Gd H p xs H' (c + 100) r ys → Q (.ref r) H'
section
variable {P : Program} {w : World} {K : PySem.W.Frag} {mg : Str → Option Value} {base : Heap} {f : Addr} {fd : FuncData}
theorem ok_log (F : Fd K "_law_log" sLog f fd) (g : mg "_law_log" = some (.ref f)) (B : Bl mg) (o_law_take : Ok P w K mg base CX0 1 "_law_take" sTake ["box", "many"] spDraw1) (o_law_mixed : Ok P w K mg base CX0 2 "_law_mixed" sMixed ["box", "items"] spMixed) :
    Ok P w K mg base CX0 3 "_law_log" sLog ["box", "lines", "kind"] spLog := by
  refine ⟨f, fd, g, F, F.bindsN fun _ _ _ _ _ _ us hl => match us, hl with | [_, _, _], _ => rfl, F.ok scLog (fun vs H Q E h => ?_) (fun cdv A outer s H vs Q E hr h => ?_)⟩
  · obtain ⟨p, l, c, k, xs, rfl, _⟩ := h
    rfl
  · have hu : (cxOf CX0 P w K mg base ["box", "lines", "kind", "found", "turn", "at", "long"] "_law_log" (defScope sLog) f cdv A outer s H E).A.units + 64 < cLine := by
      have z := hr.un
      show (A.deeper _).units + 64 < cLine
      omega
    refine ⟨_, (pss_cons (ps_if (pt_cmpR op_eq (pv 2) pe_int (nomark _))
        (pss_one (ps_set (i := 3) scLog.nd rfl (Or.inl rfl) (pe_o o_law_mixed (hr.mono (by decide)) (by rfl) (pa_cons (pv 0) (pa_cons (pv 1) pa_nil)))))
        (pss_one (ps_if (pt_cmpR op_eq (pv 2) pe_int (nomark _))
          (pss_one (ps_set (i := 3) scLog.nd rfl (Or.inl rfl) (pe_lstRev rfl (by rfl) (B.u "list" (by decide +kernel)) (by rfl) (B.u "reversed" (by decide +kernel)) (pv 1))))
          (pss_cons (ps_set (i := 3) scLog.nd rfl (Or.inl rfl) (pe_callTy call_list_of (by rfl) (B.u "list" (by decide +kernel)) (by decide +kernel) (pa_cons (pv 1) pa_nil)))
          (pss_one (ps_for (passes_of rfl) rfl (pi_range1 (by rfl) (B.u "range" (by decide +kernel)) (pa_cons (pe_ix ix_seq (pe_lst (pa_cons pe_int (pa_cons pe_int (pa_cons pe_int (pa_cons pe_int pa_nil))))) (pe_o o_law_take (hr.mono (by decide)) (by rfl) (pa_cons (pv 0) (pa_cons pe_int pa_nil))) fun _ _ => rfl) pa_nil)) (pg_name (i := 4) scLog.nd rfl (Or.inl rfl))
            (pss_cons (ps_par (i := 5) (j := 6) rfl scLog.nd rfl rfl (by decide) rfl rfl (pa_cons (pe_o o_law_take (hr.mono (by decide)) (by rfl) (pa_cons (pv 0) (pa_cons (pe_callB (call_max2 rfl) (by rfl) (B.u "max" (by decide +kernel)) (by decide +kernel) (pa_cons pe_int (pa_cons (pe_callB call_len (by rfl) (B.u "len" (by decide +kernel)) boot_len (pa_cons (pv 3) pa_nil)) pa_nil))) pa_nil))) (pa_cons (pe_op op_add pe_int (pe_o o_law_take (hr.mono (by decide)) (by rfl) (pa_cons (pv 0) (pa_cons pe_int pa_nil)))) pa_nil)) rfl)
            (pss_one (ps_set (i := 3) scLog.nd rfl (Or.inl rfl) (pe_op op_cat (pe_op op_cat (pe_op op_cat (pe_slice sl_list (pv 3) po_none (po_some (pv 5))) (pe_slice sl_list (pv 3) (po_some (pe_op op_add (pv 5) pe_int)) (po_some (pe_op op_add (pe_op op_add (pv 5) pe_int) (pv 6))))) (pe_slice sl_list (pv 3) (po_some (pv 5)) (po_some (pe_op op_add (pv 5) pe_int)))) (pe_slice sl_list (pv 3) (po_some (pe_op op_add (pe_op op_add (pv 5) pe_int) (pv 6))) po_none)))))))))))
      (pss_cons (ps_for (passes_of rfl) rfl (pi_range1 (by rfl) (B.u "range" (by decide +kernel)) (pa_cons (pe_ix ix_seq (pe_lst (pa_cons pe_int (pa_cons pe_int (pa_cons pe_int (pa_cons pe_int pa_nil))))) (pe_o o_law_take (hr.mono (by decide)) (by rfl) (pa_cons (pv 0) (pa_cons pe_int pa_nil))) fun _ _ => rfl) pa_nil)) (pg_name (i := 4) scLog.nd rfl (Or.inl rfl))
        (pss_one (ps_if (pt_cmpR (op_neNil hu) (pv 3) (pe_lst pa_nil) (nomark _))
          (pss_one (ps_expr (pe_bm PySem.F.plainAttrs_list PySem.F.slot_list_pop PySem.F.type_list_pop mt_popAt (pv 3) (pa_cons (pe_o o_law_take (hr.mono (by decide)) (by rfl) (pa_cons (pv 0) (pa_cons (pe_callB call_len (by rfl) (B.u "len" (by decide +kernel)) boot_len (pa_cons (pv 3) pa_nil)) pa_nil))) pa_nil))))
          pss_nil)))
      (pss_one (ps_ret (pe_ifExp (pt_cmpR op_gt (pe_callB call_len (by rfl) (B.u "len" (by decide +kernel)) boot_len (pa_cons (pv 3) pa_nil)) pe_int (nomark _)) (pe_slice sl_list (pv 3) po_none (po_some (pe_op op_sub (pe_callB call_len (by rfl) (B.u "len" (by decide +kernel)) boot_len (pa_cons (pv 3) pa_nil)) (pe_ix ix_seq (pe_lst (pa_cons pe_int (pa_cons pe_int (pa_cons pe_int (pa_cons pe_int pa_nil))))) (pe_o o_law_take (hr.mono (by decide)) (by rfl) (pa_cons (pv 0) (pa_cons pe_int pa_nil))) fun _ _ => rfl)))) (pv 3)))))), ?_⟩
    obtain ⟨p, l, c, k, xs, rfl, hp, hl, nlp, l40, hc, q⟩ := h
    refine tSeq_by (fun σ H' => ∃ r ys a1 a2 a3, Gd H p xs H' (c + 60) r ys ∧ σ = [some (.ref p), some (.ref l), some (.int k), some (.ref r), a1, a2, a3]) ?_ fun rest => ?_
    · rintro σ H1 ⟨r, ys, a1, a2, a3, g1, rfl⟩
      refine tSeq_by (fun σ H' => ∃ r ys a1 a2 a3, Gd H p xs H' (c + 90) r ys ∧ σ = [some (.ref p), some (.ref l), some (.int k), some (.ref r), a1, a2, a3]) ?_ fun rest => ?_
      · rintro σ H2 ⟨r, ys, a1, a2, a3, g2, rfl⟩
        have ly := g2.len
        refine ⟨_, rfl, _, _, rfl, .inl ⟨_, SqL.of g2.h, rfl⟩, _, _, rfl, rfl, _, rfl, ite2 (fun e => ?_) fun _ => ⟨_, rfl, q r ys H2 (g2.up (by omega))⟩⟩
        have e := of_decide_eq_true e
        refine ⟨_, rfl, _, rfl, _, _, rfl, .inl ⟨_, SqL.of g2.h, rfl⟩, two_ln (by show 4 ≤ _; decide), fun E hE => ⟨_, rfl, p, 4, _, rfl, (g2.same (upd_grow hE)).b, by omega, by decide, by decide, fun d H3 d0 d1 k3 b3 e3 => ?_⟩⟩
        have nEp : E ≠ p := not_box g2.b hE
        have g3 := (g2.same (upd_grow hE)).draw k3 b3
        obtain ⟨dn, rfl⟩ : ∃ dn : Nat, d = dn := ⟨d.toNat, by omega⟩
        obtain ⟨n, hn, n2⟩ : ∃ n : Nat, ([.int 0, .int 0, .int 0, .int 2] : List V)[dn]? = some (.int n) ∧ n ≤ 2 := by
          have h4 : dn < 4 := by omega
          match dn, h4 with
          | 0, _ => exact ⟨0, rfl, by decide⟩
          | 1, _ => exact ⟨0, rfl, by decide⟩
          | 2, _ => exact ⟨0, rfl, by decide⟩
          | 3, _ => exact ⟨2, rfl, by decide⟩
        refine ixAt (k3 _ _ nEp upd_same) (atI_nat hn) ⟨_, _, rfl, rfl, _, rfl, r, ys, rfl, SqL.of g3.h, fun s hs => ?_⟩
        have z : ((ys.length : Nat) : Int) - ((n : Nat) : Int) = ((ys.length - n : Nat) : Int) := by omega
        rw [z, cut_0b]
        exact q s _ _ ((g3.new (upd_grow hs) hs upd_same ⟨ys.drop (ys.length - n), by rw [List.take_append_drop]⟩).up (by omega))
      · refine ⟨two_ln (by show 4 ≤ _; decide), fun E hE => ⟨_, rfl, p, 4, _, rfl, (g1.same (upd_grow hE)).b, by omega, by decide, by decide, fun d H2 d0 d1 k2 b2 e2 => ?_⟩⟩
        have nEp : E ≠ p := not_box g1.b hE
        have g2 := (g1.same (upd_grow hE)).draw k2 b2
        obtain ⟨dn, rfl⟩ : ∃ dn : Nat, d = dn := ⟨d.toNat, by omega⟩
        obtain ⟨n, hn, n3⟩ : ∃ n : Nat, ([.int 0, .int 0, .int 1, .int 3] : List V)[dn]? = some (.int n) ∧ n ≤ 3 := by
          have h4 : dn < 4 := by omega
          match dn, h4 with
          | 0, _ => exact ⟨0, rfl, by decide⟩
          | 1, _ => exact ⟨0, rfl, by decide⟩
          | 2, _ => exact ⟨1, rfl, by decide⟩
          | 3, _ => exact ⟨3, rfl, by decide⟩
        refine ixAt (k2 _ _ nEp upd_same) (atI_nat hn) ⟨_, rfl, by omega, by omega, ?_⟩
        refine for_range (n := n) (fun i σ H' => ∃ r ys a1 a2 a3, Gd H p xs H' (c + 61 + i) r ys ∧ σ = [some (.ref p), some (.ref l), some (.int k), some (.ref r), a1, a2, a3]) ⟨r, ys, a1, a2, a3, g2, rfl⟩ ?_ ?_
        · rintro i σ H3 hi ⟨r, ys, a1, a2, a3, g3, rfl⟩
          dsimp only [gName]
          have ly := g3.len
          refine ⟨_, rfl, two_ln (by decide), fun pe hpe => ?_⟩
          have kpe : Same H3 (upd H3 pe (.lst [])) := upd_grow hpe
          have g4 := g3.same kpe
          refine ⟨r, pe, _, rfl, rfl, SqL.of g4.h, SqL.of upd_same, _, rfl, iteB (fun e => ?_) fun _ => ⟨r, ys, _, _, _, g4.up (by omega), rfl⟩⟩
          have l0 : 0 < ys.length := by
            cases ys with
            | nil => cases e
            | cons _ _ => simp
          refine ⟨_, rfl, .inl ⟨rfl, _, SqL.of g4.h⟩, _, rfl, _, rfl, _, _, rfl, .inl ⟨_, SqL.of g4.h, rfl⟩, p, _, _, rfl, g4.b, by omega, by omega, by omega, fun d H5 d0 d1 k5 b5 e5 => ?_⟩
          obtain ⟨dm, rfl⟩ : ∃ dm : Nat, d = dm := ⟨d.toNat, by omega⟩
          have g5 := g4.draw k5 b5
          have dl : dm < ys.length := by omega
          refine ⟨r, ys, (dm : Int), dm, ys[dm], rfl, rfl, g5.h, Int.le_trans (by decide : (-(2 ^ 63) : Int) ≤ 0) (Int.natCast_nonneg _), Int.lt_trans (show (dm : Int) < 71 by omega) (by decide), seqIx dl, List.getElem?_eq_getElem dl, ?_⟩
          refine ⟨r, ys.eraseIdx dm, _, _, _, ⟨fun b o nb e => ?_, BoxAt.eq (g5.b.up (by omega)) (upd_ne g5.n.symm), g5.o, g5.n, upd_same, ?_⟩, rfl⟩
          · rw [upd_ne (ne_of_none e g5.o)]
            exact g5.k b o nb e
          · obtain ⟨zs, hz⟩ := g5.s
            refine ⟨ys[dm] :: zs, ?_⟩
            refine List.Perm.trans ?_ hz
            refine List.perm_middle.trans ?_
            rw [← List.cons_append]
            exact (erase_permV dl).append_right zs
        · rintro σ H3 ⟨r, ys, a1, a2, a3, g3, rfl⟩
          exact rest _ _ ⟨r, ys, _, _, _, g3.up (by omega), rfl⟩
    · refine ⟨_, rfl, rfl, _, rfl, iteB (fun e => ?_) fun e => ?_⟩
      · refine ⟨_, rfl, _, rfl, p, l, c, xs, rfl, hp, hl, by omega, by omega, fun ys r H1 pm k1 b1 f1 n1 h1 => ?_⟩
        exact rest _ _ ⟨r, ys, _, _, _, ⟨k1, b1.up (by omega), f1, n1, h1, [], by rw [List.append_nil]; exact pm⟩, rfl⟩
      refine ⟨_, rfl, rfl, _, rfl, iteB (fun e => ?_) fun e => ?_⟩
      · refine ⟨_, rfl, l, xs, rfl, SqL.of hl, fun r hr => ?_⟩
        exact rest _ _ ⟨r, xs.reverse, _, _, _, ⟨.of (upd_grow hr), (hp.same (upd_grow hr)).up (by omega), hr, not_box hp hr, upd_same, [], by rw [List.append_nil]; exact List.reverse_perm xs⟩, rfl⟩
      refine ⟨_, rfl, l, xs, rfl, .inl (SqL.of hl), fun r0 hr0 => ?_⟩
      have g0 : Gd H p xs (upd H r0 (.lst xs)) c r0 xs := ⟨.of (upd_grow hr0), hp.same (upd_grow hr0), hr0, not_box hp hr0, upd_same, [], by rw [List.append_nil]⟩
      dsimp only [gName]
      refine ⟨two_ln (by show 4 ≤ _; decide), fun E hE => ⟨_, rfl, p, 4, _, rfl, (g0.same (upd_grow hE)).b, by omega, by decide, by decide, fun d H2 d0 d1 k2 b2 e2 => ?_⟩⟩
      have nEp : E ≠ p := not_box g0.b hE
      obtain ⟨dn, rfl⟩ : ∃ dn : Nat, d = dn := ⟨d.toNat, by omega⟩
      obtain ⟨n, hn, n6⟩ : ∃ n : Nat, ([.int 1, .int 3, .int 6, .int 2] : List V)[dn]? = some (.int n) ∧ n ≤ 6 := by
        have h4 : dn < 4 := by omega
        match dn, h4 with
        | 0, _ => exact ⟨1, rfl, by decide⟩
        | 1, _ => exact ⟨3, rfl, by decide⟩
        | 2, _ => exact ⟨6, rfl, by decide⟩
        | 3, _ => exact ⟨2, rfl, by decide⟩
      refine ixAt (k2 _ _ nEp upd_same) (atI_nat hn) ⟨_, rfl, by omega, by omega, ?_⟩
      have g2 := (g0.same (upd_grow hE)).draw k2 b2
      refine for_range (n := n) (fun i σ H' => ∃ r ys a1 a2 a3, Gd H p xs H' (c + 1 + 2 * i) r ys ∧ σ = [some (.ref p), some (.ref l), some (.int k), some (.ref r), a1, a2, a3]) ⟨r0, xs, none, none, none, g2, rfl⟩ ?_ ?_
      · rintro i σ H3 hi ⟨r, ys, a1, a2, a3, g3, rfl⟩
        dsimp only [gName]
        have ly := g3.len
        refine ⟨_, rfl, _, rfl, _, _, rfl, .inl ⟨_, SqL.of g3.h, rfl⟩, _, _, rfl, p, _, _, rfl, g3.b, by omega, by split <;> omega, by split <;> omega, fun d H4 d0 d1 k4 b4 e4 => ?_⟩
        obtain ⟨an, rfl⟩ : ∃ an : Nat, d = an := ⟨d.toNat, by omega⟩
        have g4 := g3.draw k4 b4
        refine ⟨_, rfl, p, 3, _, rfl, b4, by omega, by decide, by decide, fun d2 H5 d20 d21 k5 b5 e5 => ⟨_, _, rfl, rfl, ?_⟩⟩
        obtain ⟨ln, hln⟩ : ∃ ln : Nat, 1 + d2 = ln := ⟨(1 + d2).toNat, by omega⟩
        have g5 := g4.draw k5 b5
        dsimp only
        rw [show V.int (1 + d2) = V.int ((ln : Nat) : Int) from congrArg V.int hln]
        have z1 : ((an : Nat) : Int) + 1 = ((an + 1 : Nat) : Int) := by omega
        have z2 : ((an : Nat) : Int) + 1 + ((ln : Nat) : Int) = ((an + 1 + ln : Nat) : Int) := by omega
        refine ⟨_, _, rfl, ?_⟩
        refine ⟨_, rfl, _, rfl, _, rfl, r, ys, rfl, SqL.of g5.h, fun s1 hs1 => ?_⟩
        rw [cut_0b]
        have k_s1 := upd_grow (o := .lst (ys.take an)) hs1
        have h_s1 := upd_same (H := H5) (a := s1) (o := .lst (ys.take an))
        generalize upd H5 s1 (.lst (ys.take an)) = H6 at k_s1 h_s1 ⊢
        have g6 := g5.same k_s1
        refine ⟨_, rfl, _, rfl, _, _, rfl, rfl, _, rfl, _, rfl, _, _, rfl, rfl, _, rfl, _, _, rfl, rfl, _, rfl, r, ys, rfl, SqL.of g6.h, fun s2 hs2 => ?_⟩
        rw [z2, z1, cut_ab, Nat.add_sub_cancel_left]
        have k_s2 := upd_grow (o := .lst ((ys.drop (an + 1)).take ln)) hs2
        have h_s2 := upd_same (H := H6) (a := s2) (o := .lst ((ys.drop (an + 1)).take ln))
        generalize upd H6 s2 (.lst ((ys.drop (an + 1)).take ln)) = H7 at k_s2 h_s2 ⊢
        have g7 := g6.same k_s2
        have lA : (ys.take an).length ≤ 40 := by rw [List.length_take]; omega
        have lB : ((ys.drop (an + 1)).take ln).length ≤ 40 := by rw [List.length_take, List.length_drop]; omega
        have lC : ((ys.drop an).take 1).length ≤ 40 := by rw [List.length_take]; omega
        have lD : (ys.drop (an + 1 + ln)).length ≤ 40 := by rw [List.length_drop]; omega
        refine ⟨s1, s2, _, _, rfl, rfl, k_s2 _ _ h_s1, h_s2, two_ln (by omega), fun c1 hc1 => ?_⟩
        have k_c1 := upd_grow (o := .lst (ys.take an ++ (ys.drop (an + 1)).take ln)) hc1
        have h_c1 := upd_same (H := H7) (a := c1) (o := .lst (ys.take an ++ (ys.drop (an + 1)).take ln))
        generalize upd H7 c1 (.lst (ys.take an ++ (ys.drop (an + 1)).take ln)) = H8 at k_c1 h_c1 ⊢
        have g8 := g7.same k_c1
        refine ⟨_, rfl, _, rfl, _, rfl, _, rfl, _, _, rfl, rfl, _, rfl, r, ys, rfl, SqL.of g8.h, fun s3 hs3 => ?_⟩
        rw [z1, cut_ab, Nat.add_sub_cancel_left]
        have k_s3 := upd_grow (o := .lst ((ys.drop an).take 1)) hs3
        have h_s3 := upd_same (H := H8) (a := s3) (o := .lst ((ys.drop an).take 1))
        generalize upd H8 s3 (.lst ((ys.drop an).take 1)) = H9 at k_s3 h_s3 ⊢
        have g9 := g8.same k_s3
        refine ⟨c1, s3, _, _, rfl, rfl, k_s3 _ _ h_c1, h_s3, two_ln (by rw [List.length_append]; omega), fun c2 hc2 => ?_⟩
        have k_c2 := upd_grow (o := .lst (ys.take an ++ (ys.drop (an + 1)).take ln ++ (ys.drop an).take 1)) hc2
        have h_c2 := upd_same (H := H9) (a := c2) (o := .lst (ys.take an ++ (ys.drop (an + 1)).take ln ++ (ys.drop an).take 1))
        generalize upd H9 c2 (.lst (ys.take an ++ (ys.drop (an + 1)).take ln ++ (ys.drop an).take 1)) = HA at k_c2 h_c2 ⊢
        have gA := g9.same k_c2
        refine ⟨_, rfl, _, rfl, _, _, rfl, rfl, _, rfl, _, _, rfl, rfl, _, rfl, r, ys, rfl, SqL.of gA.h, fun s4 hs4 => ?_⟩
        rw [z2, cut_a0]
        have k_s4 := upd_grow (o := .lst (ys.drop (an + 1 + ln))) hs4
        have h_s4 := upd_same (H := HA) (a := s4) (o := .lst (ys.drop (an + 1 + ln)))
        generalize upd HA s4 (.lst (ys.drop (an + 1 + ln))) = HB at k_s4 h_s4 ⊢
        have gB := gA.same k_s4
        refine ⟨c2, s4, _, _, rfl, rfl, k_s4 _ _ h_c2, h_s4, two_ln (by rw [List.length_append, List.length_append]; omega), fun c3 hc3 => ?_⟩
        exact ⟨c3, _, _, _, _, (gB.new (upd_grow hc3) hc3 upd_same ⟨[], by rw [List.append_nil]; exact moved an ln⟩).up (by omega), rfl⟩
      · rintro σ H3 ⟨r, ys, a1, a2, a3, g3, rfl⟩
        exact rest _ _ ⟨r, ys, _, _, _, g3.up (by omega), rfl⟩
end
end K10

namespace K10
open PySem PySem.Spec PyProof.Rows L2 Tn TL
abbrev sFounds : Stmt := top 35
theorem scFounds : FnScope ["box", "readers", "many", "names", "founds", "lines", "owns", "base", "owned", "k", "own"] ["box"] (defScope sFounds) := ⟨rfl, rfl, rfl, by decide +kernel, rfl, by decide +kernel, by decide +kernel⟩
/-- all but what stands at M is kept -/
def Bm (M : List Addr) (H H' : Hp) : Prop := ∀ b o, b ∉ M → H b = some o → H' b = some o
theorem Bm.of {M : List Addr} {H H' : Hp} (k : Same H H') : Bm M H H' := fun b o _ e => k b o e
theorem Bm.but {M : List Addr} {H H' : Hp} {p : Addr} (m : p ∈ M) (k : But p H H') : Bm M H H' := fun b o n e => k b o (fun z => n (z ▸ m)) e
theorem Bm.trans {M : List Addr} {H H1 H2 : Hp} (a : Bm M H H1) (b : Bm M H1 H2) : Bm M H H2 := fun x o n e => b x o n (a x o n e)
theorem Bm.upd {M : List Addr} {H : Hp} {a : Addr} {o : HO} (m : a ∈ M) : Bm M H (L2.upd H a o) := fun b u n e => by
  rw [upd_ne (fun z => n (by rw [z]; exact m))]
  exact e
theorem Gd.back {H0 H H' : Hp} {p r : Addr} {xs ys : List V} {c : Nat} (k : But p H0 H) (g : Gd H p xs H' c r ys) : Gd H0 p xs H' c r ys := ⟨k.trans g.k, g.b, fresh_but k g.n g.o, g.n, g.h, g.s⟩
def ownV : Option Str → V
  | none => .non
  | some z => .str z
def ownD : Option Str → PyData
  | none => .none
  | some z => .str z
abbrev Fnd := Option Str × List Line
/-- an item of founds at y: its list is none of M -/
def FAt (M : List Addr) (H : Hp) (f : Fnd) (y : V) : Prop := ∃ (t q : Addr) (ys : List V), y = .ref t ∧ t ∉ M ∧ H t = some (.tup [ownV f.1, .ref q]) ∧ q ∉ M ∧ H q = some (.lst ys) ∧ LinesAt H f.2 ys
theorem FAt.bm {M : List Addr} {H H' : Hp} (k : Bm M H H') (kt : KeepT H H') {f : Fnd} {y : V} (h : FAt M H f y) : FAt M H' f y := by
  obtain ⟨t, q, ys, e, n1, h1, n2, h2, la⟩ := h
  exact ⟨t, q, ys, e, n1, k _ _ n1 h1, n2, k _ _ n2 h2, la.keep kt⟩
theorem FAt.less {M N : List Addr} {H : Hp} (s : ∀ x ∈ N, x ∈ M) {f : Fnd} {y : V} (h : FAt M H f y) : FAt N H f y := by
  obtain ⟨t, q, ys, e, n1, h1, n2, h2, la⟩ := h
  exact ⟨t, q, ys, e, fun m => n1 (s _ m), h1, fun m => n2 (s _ m), h2, la⟩
/-- right founds -/
structure FsOk (fs : List Fnd) : Prop where
  own : ∀ f ∈ fs, ∀ z, f.1 = some z → nameS z = true
  dif : (fs.filterMap (·.1)).Nodup
  lin : ∀ f ∈ fs, (∀ l ∈ f.2, lineS l = true) ∧ f.2.Nodup ∧ f.2.length ≤ 40
theorem inV_owns (z : Str) (os : List (Option Str)) : inV (.str z) (os.map ownV) = decide (some z ∈ os) := by
  unfold inV
  rw [List.any_map]
  induction os with
  | nil => rfl
  | cons y os ih =>
    rw [List.any_cons, ih]
    cases y with
    | none =>
      show (false || decide (some z ∈ os)) = _
      simp
    | some y =>
      show ((y == z) || decide (some z ∈ os)) = _
      by_cases e : y = z
      · subst e; simp
      · have e2 : ¬ z = y := fun q => e q.symm
        simp [e, e2]
theorem owns_flat (os : List (Option Str)) : (os.map ownV).all flatV = true := by
  rw [List.all_map, List.all_eq_true]
  intro x _
  cases x <;> rfl
theorem mem_known {fs : List Fnd} {z : Str} : z ∈ fs.filterMap (·.1) ↔ some z ∈ fs.map (·.1) := by
  rw [List.mem_filterMap, List.mem_map]
def toS : V → Str
  | .str z => z
  | _ => Str.empty
theorem strV_perm {ys : List V} {l : List Str} (h : ys.Perm (l.map V.str)) : ∃ ms : List Str, ys = ms.map V.str ∧ ms.Perm l := by
  refine ⟨ys.map toS, ?_, ?_⟩
  · have all : ∀ y ∈ ys, ∃ k : Str, y = .str k := fun y hy => by
      obtain ⟨k, _, e⟩ := List.mem_map.mp (h.mem_iff.mp hy)
      exact ⟨k, e.symm⟩
    clear h
    induction ys with
    | nil => rfl
    | cons y ys ih =>
      obtain ⟨k, rfl⟩ := all y List.mem_cons_self
      have := ih fun z hz => all z (List.mem_cons_of_mem _ hz)
      show V.str k :: ys = V.str k :: (ys.map toS).map V.str
      rw [← this]
  · have z := h.map toS
    rw [List.map_map] at z
    have e : l.map (toS ∘ V.str) = l := (List.map_congr_left fun _ _ => rfl).trans (List.map_id l)
    rwa [e] at z
/-- lines under an arrangement of their values -/
theorem lines_perm {H : Hp} {xs ys : List V} (p : ys.Perm xs) : ∀ {ls : List Line}, LinesAt H ls xs → ∃ ms, ms.Perm ls ∧ LinesAt H ms ys := by
  induction p with
  | nil => intro ls h; exact ⟨ls, .refl _, h⟩
  | cons x _ ih =>
    intro ls h
    cases h with
    | cons r t =>
      obtain ⟨ms, p, h⟩ := ih t
      exact ⟨_ :: ms, p.cons _, .cons r h⟩
  | swap x y l =>
    intro ls h
    cases h with
    | cons r t =>
      cases t with
      | cons r2 t => exact ⟨_, List.Perm.swap _ _ _, .cons r2 (.cons r t)⟩
  | trans _ _ ih1 ih2 =>
    intro ls h
    obtain ⟨ms, p, h⟩ := ih2 h
    obtain ⟨ks, p2, h2⟩ := ih1 h
    exact ⟨ks, p2.trans p, h2⟩
theorem all2_split {α β : Type} {R : α → β → Prop} : ∀ {as : List α} {bs cs : List β}, All2 R as (bs ++ cs) → ∃ as1 as2, as = as1 ++ as2 ∧ All2 R as1 bs ∧ All2 R as2 cs
  | as, [], cs, h => ⟨[], as, rfl, .nil, h⟩
  | a :: as, b :: bs, cs, .cons r t => by
    obtain ⟨as1, as2, e, h1, h2⟩ := all2_split (as := as) (bs := bs) (cs := cs) t
    exact ⟨a :: as1, as2, by rw [e]; rfl, .cons r h1, h2⟩
/-- some of right lines -/
theorem lines_some {H : Hp} {xs ys : List V} {ls : List Line} (s : ∃ zs, (ys ++ zs).Perm xs) (h : LinesAt H ls xs) (g : ∀ l ∈ ls, lineS l = true) (d : ls.Nodup) (n : ls.length ≤ 40) :
    ∃ ms, LinesAt H ms ys ∧ (∀ l ∈ ms, lineS l = true) ∧ ms.Nodup ∧ ms.length ≤ 40 := by
  obtain ⟨zs, pz⟩ := s
  obtain ⟨ms, pm, hm⟩ := lines_perm pz h
  obtain ⟨m1, m2, rfl, h1, h2⟩ := all2_split hm
  refine ⟨m1, h1, fun l m => g l (pm.mem_iff.mp (List.mem_append_left _ m)), (List.nodup_append.mp (pm.nodup_iff.mpr d)).1, ?_⟩
  have := pm.length_eq
  rw [List.length_append] at this
  omega
def spFounds : Sp := fun vs H Q _ => ∃ (p : Addr) (c : Nat), vs = [.ref p] ∧ BoxAt H p c ∧ c + 20000 < 100000 ∧
  ∀ (l : Addr) (fs : List Fnd) (xs : List V) H', But p H H' → BoxAt H' p (c + 6000) → H l = none → l ≠ p → H' l = some (.lst xs) → All2 (FAt [p] H') fs xs → 2 ≤ fs.length → fs.length ≤ 12 → FsOk fs → Q (.ref l) H'
section
variable {P : Program} {w : World} {K : PySem.W.Frag} {mg : Str → Option Value} {base : Heap} {f : Addr} {fd : FuncData}
theorem ok_founds (F : Fd K "_law_founds" sFounds f fd) (g : mg "_law_founds" = some (.ref f)) (B : Bl mg) (o_law_take : Ok P w K mg base CX0 1 "_law_take" sTake ["box", "many"] spDraw1) (o_law_mixed : Ok P w K mg base CX0 2 "_law_mixed" sMixed ["box", "items"] spMixed)
    (o_law_names : Ok P w K mg base CX0 2 "_law_names" sNames ["box", "many"] spNames) (o_law_lines : Ok P w K mg base CX0 2 "_law_lines" sLines ["box", "names", "many"] spLines) (o_law_log : Ok P w K mg base CX0 3 "_law_log" sLog ["box", "lines", "kind"] spLog) :
    Ok P w K mg base CX0 4 "_law_founds" sFounds ["box"] spFounds := by
  refine ⟨f, fd, g, F, F.bindsN fun _ _ _ _ _ _ us hl => match us, hl with | [_], _ => rfl, F.ok scFounds (fun vs H Q E h => ?_) (fun cdv A outer s H vs Q E hr h => ?_)⟩
  · obtain ⟨p, c, rfl, _⟩ := h
    rfl
  · refine ⟨_, (pss_cons (ps_par (i := 1) (j := 2) rfl scFounds.nd rfl rfl (by decide) rfl rfl (pa_cons (pe_ix ix_seq (pe_lst (pa_cons pe_int (pa_cons pe_int (pa_cons pe_int (pa_cons pe_int (pa_cons pe_int (pa_cons pe_int pa_nil))))))) (pe_o o_law_take (hr.mono (by decide)) (by rfl) (pa_cons (pv 0) (pa_cons pe_int pa_nil))) fun _ _ => rfl) (pa_cons (pe_ix ix_seq (pe_lst (pa_cons pe_int (pa_cons pe_int (pa_cons pe_int (pa_cons pe_int (pa_cons pe_int (pa_cons pe_int (pa_cons pe_int (pa_cons pe_int pa_nil))))))))) (pe_o o_law_take (hr.mono (by decide)) (by rfl) (pa_cons (pv 0) (pa_cons pe_int pa_nil))) fun _ _ => rfl) pa_nil)) rfl)
      (pss_cons (ps_if (pt_cmpR op_gt (pv 1) pe_int (nomark _))
        (pss_one (ps_set (i := 2) scFounds.nd rfl (Or.inl rfl) (pe_callB (call_min2 rfl) (by rfl) (B.u "min" (by decide +kernel)) (by decide +kernel) (pa_cons (pv 2) (pa_cons pe_int pa_nil)))))
        pss_nil)
      (pss_cons (ps_par (i := 3) (j := 4) rfl scFounds.nd rfl rfl (by decide) rfl rfl (pa_cons (pe_o o_law_names (hr.mono (by decide)) (by rfl) (pa_cons (pv 0) (pa_cons pe_int pa_nil))) (pa_cons (pe_lst pa_nil) pa_nil)) rfl)
      (pss_cons (ps_set (i := 5) scFounds.nd rfl (Or.inl rfl) (pe_o o_law_lines (hr.mono (by decide)) (by rfl) (pa_cons (pv 0) (pa_cons (pe_slice sl_list (pv 3) po_none (po_some (pe_ix ix_seq (pe_lst (pa_cons pe_int (pa_cons pe_int (pa_cons pe_int (pa_cons pe_int (pa_cons pe_int (pa_cons pe_int pa_nil))))))) (pe_o o_law_take (hr.mono (by decide)) (by rfl) (pa_cons (pv 0) (pa_cons pe_int pa_nil))) fun _ _ => rfl))) (pa_cons (pv 2) pa_nil)))))
      (pss_cons (ps_set (i := 6) scFounds.nd rfl (Or.inl rfl) (pe_op op_cat (pe_o o_law_mixed (hr.mono (by decide)) (by rfl) (pa_cons (pv 0) (pa_cons (pv 3) pa_nil))) (pe_o o_law_mixed (hr.mono (by decide)) (by rfl) (pa_cons (pv 0) (pa_cons (pe_lst (pa_cons pe_str (pa_cons pe_str (pa_cons pe_str (pa_cons pe_str (pa_cons pe_str (pa_cons pe_str pa_nil))))))) pa_nil)))))
      (pss_cons (ps_par (i := 7) (j := 8) rfl scFounds.nd rfl rfl (by decide) rfl rfl (pa_cons (pe_o o_law_mixed (hr.mono (by decide)) (by rfl) (pa_cons (pv 0) (pa_cons (pv 5) pa_nil))) (pa_cons (pe_lst pa_nil) pa_nil)) rfl)
      (pss_cons (ps_for (passes_of rfl) rfl (pi_range1 (by rfl) (B.u "range" (by decide +kernel)) (pa_cons (pv 1) pa_nil)) (pg_name (i := 9) scFounds.nd rfl (Or.inl rfl))
        (pss_cons (ps_set (i := 10) scFounds.nd rfl (Or.inl rfl) (pe_ifExp (pw_and (pt_cmpR op_gt (pe_o o_law_take (hr.mono (by decide)) (by rfl) (pa_cons (pv 0) (pa_cons pe_int pa_nil))) pe_int (nomark _)) (pw_and1 (pt_cmpR op_notIn_seq (pe_ix ix_seq (pv 6) (pv 9) fun _ _ => rfl) (pv 8) (by rfl)))).pt (pe_ix ix_seq (pv 6) (pv 9) fun _ _ => rfl) pe_non))
        (pss_cons (ps_expr (pe_bm PySem.F.plainAttrs_list PySem.F.slot_list_append PySem.F.type_list_append mt_append (pv 8) (pa_cons (pv 10) pa_nil)))
        (pss_one (ps_expr (pe_bm PySem.F.plainAttrs_list PySem.F.slot_list_append PySem.F.type_list_append mt_append (pv 4) (pa_cons (pe_tup (pa_cons (pv 10) (pa_cons (pe_ifExp (pt_cmpR op_gt (pv 9) pe_int (nomark _)) (pe_o o_law_log (hr.mono (by decide)) (by rfl) (pa_cons (pv 0) (pa_cons (pv 7) (pa_cons (pe_ix ix_seq (pe_lst (pa_cons pe_int (pa_cons pe_int (pa_cons pe_int (pa_cons pe_int (pa_cons pe_int pa_nil)))))) (pe_o o_law_take (hr.mono (by decide)) (by rfl) (pa_cons (pv 0) (pa_cons pe_int pa_nil))) fun _ _ => rfl) pa_nil)))) (pe_callTy call_list_of (by rfl) (B.u "list" (by decide +kernel)) (by decide +kernel) (pa_cons (pv 7) pa_nil))) pa_nil))) pa_nil)))))))
      (pss_one (ps_ret (pv 4)))))))))), ?_⟩
    obtain ⟨p, c, rfl, hp, hc, q⟩ := h
    refine ⟨two_ln (by show 6 ≤ _; decide), fun E1 hE1 => ?_⟩
    have k_E1 := upd_grow (o := .lst [.int 2, .int 3, .int 2, .int 4, .int 12, .int 6]) hE1
    have h_E1 := upd_same (H := H) (a := E1) (o := .lst [.int 2, .int 3, .int 2, .int 4, .int 12, .int 6])
    generalize upd H E1 (.lst [.int 2, .int 3, .int 2, .int 4, .int 12, .int 6]) = H1 at k_E1 h_E1 ⊢
    refine ⟨_, rfl, p, 6, _, rfl, hp.same k_E1, by omega, by decide, by decide, fun d H2 d0 d1 k2 b2 e2 => ?_⟩
    have nE1 : E1 ≠ p := not_box hp hE1
    obtain ⟨dn, rfl⟩ : ∃ dn : Nat, d = dn := ⟨d.toNat, by omega⟩
    obtain ⟨rd, hrd, rd2, rd12⟩ : ∃ n : Nat, ([.int 2, .int 3, .int 2, .int 4, .int 12, .int 6] : List V)[dn]? = some (.int n) ∧ 2 ≤ n ∧ n ≤ 12 := by
      have h6 : dn < 6 := by omega
      match dn, h6 with
      | 0, _ => exact ⟨2, rfl, by decide, by decide⟩
      | 1, _ => exact ⟨3, rfl, by decide, by decide⟩
      | 2, _ => exact ⟨2, rfl, by decide, by decide⟩
      | 3, _ => exact ⟨4, rfl, by decide, by decide⟩
      | 4, _ => exact ⟨12, rfl, by decide, by decide⟩
      | 5, _ => exact ⟨6, rfl, by decide, by decide⟩
    refine ixAt (k2 _ _ nE1 h_E1) (atI_nat hrd) ⟨two_ln (by show 8 ≤ _; decide), fun E2 hE2 => ?_⟩
    have k_E2 := upd_grow (o := .lst [.int 4, .int 7, .int 12, .int 40, .int 6, .int 2, .int 9, .int 5]) hE2
    have h_E2 := upd_same (H := H2) (a := E2) (o := .lst [.int 4, .int 7, .int 12, .int 40, .int 6, .int 2, .int 9, .int 5])
    generalize upd H2 E2 (.lst [.int 4, .int 7, .int 12, .int 40, .int 6, .int 2, .int 9, .int 5]) = H3 at k_E2 h_E2 ⊢
    refine ⟨_, rfl, p, 8, _, rfl, b2.same k_E2, by omega, by decide, by decide, fun d H4 d0 d1 k4 b4 e4 => ?_⟩
    have nE2 : E2 ≠ p := not_box b2 hE2
    obtain ⟨dm, rfl⟩ : ∃ dm : Nat, d = dm := ⟨d.toNat, by omega⟩
    obtain ⟨mn, hmn, m40⟩ : ∃ n : Nat, ([.int 4, .int 7, .int 12, .int 40, .int 6, .int 2, .int 9, .int 5] : List V)[dm]? = some (.int n) ∧ n ≤ 40 := by
      have h8 : dm < 8 := by omega
      match dm, h8 with
      | 0, _ => exact ⟨4, rfl, by decide⟩
      | 1, _ => exact ⟨7, rfl, by decide⟩
      | 2, _ => exact ⟨12, rfl, by decide⟩
      | 3, _ => exact ⟨40, rfl, by decide⟩
      | 4, _ => exact ⟨6, rfl, by decide⟩
      | 5, _ => exact ⟨2, rfl, by decide⟩
      | 6, _ => exact ⟨9, rfl, by decide⟩
      | 7, _ => exact ⟨5, rfl, by decide⟩
    refine ixAt (k4 _ _ nE2 h_E2) (atI_nat hmn) ⟨_, _, rfl, ?_⟩
    have k04 : But p H H4 := (But.of k_E1).trans (k2.trans ((But.of k_E2).trans k4))
    dsimp only [gName]
    refine tSeq_by (fun σ H' => ∃ m : Nat, m ≤ 40 ∧ H' = H4 ∧ σ = [some (.ref p), some (.int rd), some (.int m), none, none, none, none, none, none, none, none]) ?_ fun rest => ?_
    · rintro σ HX ⟨m, m40, rfl, rfl⟩
      refine ⟨_, rfl, p, 6, _, rfl, b4, by omega, by omega, fun N ns H5 k5 b5 fN nN hN lN gN dN => ⟨two_ln (by decide), fun Fd hFd => ⟨_, _, rfl, ?_⟩⟩⟩
      have k_Fd := upd_grow (o := .lst []) hFd
      have h_Fd := upd_same (H := H5) (a := Fd) (o := .lst [])
      generalize upd H5 Fd (.lst []) = H6 at k_Fd h_Fd ⊢
      have nFd : Fd ≠ p := not_box b5 hFd
      have b6 := b5.same k_Fd
      have hN6 := k_Fd _ _ hN
      dsimp only [gName]
      refine ⟨_, rfl, _, rfl, two_ln (by show 6 ≤ _; decide), fun E3 hE3 => ?_⟩
      have k_E3 := upd_grow (o := .lst [.int 1, .int 2, .int 3, .int 4, .int 6, .int 3]) hE3
      have h_E3 := upd_same (H := H6) (a := E3) (o := .lst [.int 1, .int 2, .int 3, .int 4, .int 6, .int 3])
      generalize upd H6 E3 (.lst [.int 1, .int 2, .int 3, .int 4, .int 6, .int 3]) = H7 at k_E3 h_E3 ⊢
      refine ⟨_, rfl, p, 6, _, rfl, b6.same k_E3, by omega, by decide, by decide, fun d H8 d0 d1 k8 b8 e8 => ?_⟩
      have nE3 : E3 ≠ p := not_box b6 hE3
      obtain ⟨dk, rfl⟩ : ∃ dk : Nat, d = dk := ⟨d.toNat, by omega⟩
      obtain ⟨nn, hnn, nn1⟩ : ∃ n : Nat, ([.int 1, .int 2, .int 3, .int 4, .int 6, .int 3] : List V)[dk]? = some (.int n) ∧ 1 ≤ n := by
        have h6 : dk < 6 := by omega
        match dk, h6 with
        | 0, _ => exact ⟨1, rfl, by decide⟩
        | 1, _ => exact ⟨2, rfl, by decide⟩
        | 2, _ => exact ⟨3, rfl, by decide⟩
        | 3, _ => exact ⟨4, rfl, by decide⟩
        | 4, _ => exact ⟨6, rfl, by decide⟩
        | 5, _ => exact ⟨3, rfl, by decide⟩
      have hN8 := k8 _ _ nN (k_E3 _ _ hN6)
      refine ixAt (k8 _ _ nE3 h_E3) (atI_nat hnn) ⟨_, rfl, N, _, rfl, SqL.of hN8, fun S hS => ?_⟩
      rw [cut_0b, ← List.map_take]
      have k_S := upd_grow (o := .lst ((ns.take nn).map V.str)) hS
      have h_S := upd_same (H := H8) (a := S) (o := .lst ((ns.take nn).map V.str))
      generalize upd H8 S (.lst ((ns.take nn).map V.str)) = H9 at k_S h_S ⊢
      refine ⟨_, rfl, p, S, m, _, ns.take nn, rfl, b8.same k_S, h_S, not_box b8 hS, by rw [List.length_take]; omega, by rw [List.length_take]; omega, fun z mz => gN z (List.mem_of_mem_take mz), m40, by omega, fun Ln ls xs HA kA bA fL nL hL la gL dL lL => ?_⟩
      have nFd8 : Fd ≠ p := nFd
      have k4A : But p HX HA := k5.trans ((But.of k_Fd).trans ((But.of k_E3).trans (k8.trans ((But.of k_S).trans kA))))
      have hFdA := kA _ _ nFd (k_S _ _ (k8 _ _ nFd (k_E3 _ _ h_Fd)))
      have hNA := kA _ _ nN (k_S _ _ hN8)
      refine ⟨_, rfl, _, rfl, p, N, _, _, rfl, bA, hNA, by rw [List.length_map]; omega, by rw [List.length_map]; omega, fun o1 q1 HB pm1 kB bB f1 n1 h1 => ?_⟩
      obtain ⟨ms1, rfl, pms1⟩ := strV_perm pm1
      have g1 : ∀ z ∈ ms1, nameS z = true := fun z mz => gN z (pms1.mem_iff.mp mz)
      have l1 : ms1.length = 6 := by rw [pms1.length_eq]; exact lN
      have g6 : ∀ z ∈ (["ownone", "owntwo", "ow", "o", "ownfour", "ownfive"] : List Str), nameS z = true := by decide +kernel
      refine ⟨_, rfl, two_ln (by show 6 ≤ _; decide), fun E4 hE4 => ?_⟩
      have k_E4 := upd_grow (o := .lst [V.str "ownone", V.str "owntwo", V.str "ow", V.str "o", V.str "ownfour", V.str "ownfive"]) hE4
      have h_E4 := upd_same (H := HB) (a := E4) (o := .lst [V.str "ownone", V.str "owntwo", V.str "ow", V.str "o", V.str "ownfour", V.str "ownfive"])
      generalize upd HB E4 (.lst [V.str "ownone", V.str "owntwo", V.str "ow", V.str "o", V.str "ownfour", V.str "ownfive"]) = HC at k_E4 h_E4 ⊢
      have h_E4' : HC E4 = some (.lst ((["ownone", "owntwo", "ow", "o", "ownfour", "ownfive"] : List Str).map V.str)) := h_E4
      refine ⟨p, E4, _, (["ownone", "owntwo", "ow", "o", "ownfour", "ownfive"] : List Str).map V.str, rfl, bB.same k_E4, h_E4', by decide, by rw [List.length_map, List.length_map]; show _ + 6 < _; omega, fun o2 q2 HD pm2 kD bD f2 n2 h2 => ?_⟩
      obtain ⟨ms2, rfl, pms2⟩ := strV_perm pm2
      have g2 : ∀ z ∈ ms2, nameS z = true := fun z mz => g6 z (pms2.mem_iff.mp mz)
      have l2 : ms2.length = 6 := pms2.length_eq
      have h1D := kD _ _ n1 (k_E4 _ _ h1)
      refine ⟨q1, q2, _, _, rfl, rfl, h1D, h2, two_ln (by rw [List.length_map, List.length_map]; omega), fun Ow hOw => ?_⟩
      have k_Ow := upd_grow (o := .lst (ms1.map V.str ++ ms2.map V.str)) hOw
      have h_Ow := upd_same (H := HD) (a := Ow) (o := .lst (ms1.map V.str ++ ms2.map V.str))
      generalize upd HD Ow (.lst (ms1.map V.str ++ ms2.map V.str)) = HE at k_Ow h_Ow ⊢
      have nOw : Ow ≠ p := not_box bD hOw
      have hLnE := k_Ow _ _ (kD _ _ nL (k_E4 _ _ (kB _ _ nL hL)))
      have bE := bD.same k_Ow
      have laE : LinesAt HE ls xs := ((((la.keep (KeepT.box bA kB)).keep (KeepT.same k_E4)).keep (KeepT.box (bB.same k_E4) kD)).keep (KeepT.same k_Ow))
      have lx : xs.length ≤ 40 := by rw [la.len]; omega
      dsimp only [gName]
      refine ⟨_, rfl, _, rfl, p, Ln, _, xs, rfl, bE, hLnE, by omega, by rw [List.length_map, List.length_map]; show _ + 6 + _ < _; omega, fun bxs Bs HF pmb kF bF fB nB hB => ⟨two_ln (by decide), fun Od hOd => ⟨_, _, rfl, ?_⟩⟩⟩
      obtain ⟨bls, pbl, laB⟩ := lines_perm pmb (laE.keep (KeepT.box bE kF))
      have gB : ∀ l ∈ bls, lineS l = true := fun l ml => gL l (pbl.mem_iff.mp ml)
      have dB : bls.Nodup := pbl.nodup_iff.mpr dL
      have lB : bls.length ≤ 40 := by rw [pbl.length_eq]; omega
      have k_Od := upd_grow (o := .lst []) hOd
      have h_Od := upd_same (H := HF) (a := Od) (o := .lst [])
      generalize upd HF Od (.lst []) = HG at k_Od h_Od ⊢
      have nOd : Od ≠ p := not_box bF hOd
      have hOwG := k_Od _ _ (kF _ _ nOw h_Ow)
      have hBsG := k_Od _ _ hB
      have laG : LinesAt HG bls bxs := laB.keep (KeepT.same k_Od)
      have bG := bF.same k_Od
      have hFdG := k_Od _ _ (kF _ _ nFd (k_Ow _ _ (kD _ _ nFd (k_E4 _ _ (kB _ _ nFd hFdA)))))
      have hFdD := kD _ _ nFd (k_E4 _ _ (kB _ _ nFd hFdA))
      have nOF : Ow ≠ Fd := fun e => by rw [e, hFdD] at hOw; cases hOw
      have nOO : Ow ≠ Od := fun e => by rw [← e, kF _ _ nOw h_Ow] at hOd; cases hOd
      have nBF : Bs ≠ Fd := fun e => by rw [e, k_Ow _ _ hFdD] at fB; cases fB
      have nBO : Bs ≠ Od := fun e => by rw [← e, hB] at hOd; cases hOd
      have oOd : H Od = none := fresh_but (k04.trans (k4A.trans (kB.trans ((But.of k_E4).trans (kD.trans ((But.of k_Ow).trans kF)))))) nOd hOd
      have outOw : Ow ∉ [p, Fd, Od] := by simp [nOw, nOF, nOO]
      have outBs : Bs ∉ [p, Fd, Od] := by simp [nB, nBF, nBO]
      have nFO : Fd ≠ Od := fun e => by rw [← e, kF _ _ nFd (k_Ow _ _ (kD _ _ nFd (k_E4 _ _ (kB _ _ nFd hFdA))))] at hOd; cases hOd
      have kXG : But p H HG := k04.trans (k4A.trans (kB.trans ((But.of k_E4).trans (kD.trans ((But.of k_Ow).trans (kF.trans (But.of k_Od)))))))
      have oFd : H Fd = none := fresh_but (k04.trans k5) nFd hFd
      rw [← List.map_append] at hOwG
      generalize hos : ms1 ++ ms2 = os at hOwG
      have gos : ∀ z ∈ os, nameS z = true := fun z mz => by
        rw [← hos] at mz
        exact (List.mem_append.mp mz).elim (g1 z) (g2 z)
      have los : os.length = 12 := by rw [← hos, List.length_append]; omega
      have bG' : BoxAt HG p (c + 3000) := bG.up (by rw [List.length_map, List.length_map]; show _ + 6 + _ ≤ _; omega)
      dsimp only [gName]
      refine ⟨_, rfl, _, rfl, by omega, by omega, ?_⟩
      refine for_range (n := rd) (fun i σ H' => ∃ (fs : List Fnd) (ws : List V) (a9 a10 : Option V), Bm [p, Fd, Od] HG H' ∧ BoxAt H' p (c + 3000 + 110 * i) ∧ H' Fd = some (.lst ws) ∧ All2 (FAt [p, Fd, Od] H') fs ws ∧ H' Od = some (.lst ((fs.map (·.1)).map ownV)) ∧ fs.length = i ∧ FsOk fs ∧ KeepT HG H' ∧
        σ = [some (.ref p), some (.int rd), some (.int m), some (.ref N), some (.ref Fd), some (.ref Ln), some (.ref Ow), some (.ref Bs), some (.ref Od), a9, a10]) ?_ ?_ ?_
      · exact ⟨[], [], none, none, .of (Same.refl HG), bG', hFdG, .nil, h_Od, rfl, ⟨(fun _ z => nomatch z), List.nodup_nil, fun _ z => nomatch z⟩, KeepT.same (Same.refl HG), rfl⟩
      · rintro i σ HI hi ⟨fs, ws, a9, a10, kI, bI, hFI, aI, hOI, lI, okI, ktI, rfl⟩
        dsimp only [gName]
        have hOwI := kI _ _ outOw hOwG
        have hBsI := kI _ _ outBs hBsG
        have ei : (0 : Int) + i = ((i : Nat) : Int) := by omega
        rw [show V.int ((0 : Int) + i) = V.int ((i : Nat) : Int) from congrArg V.int ei]
        have lo : i < os.length := by omega
        have eo := List.getElem?_eq_getElem lo
        have go := gos _ (List.getElem_mem lo)
        generalize os[i] = oi at eo go
        refine tSeq_by (fun σ H' => ∃ ow : Option Str, (∀ z, ow = some z → nameS z = true ∧ some z ∉ fs.map (·.1)) ∧ But p HI H' ∧ BoxAt H' p (c + 3000 + 110 * i + 1) ∧
          σ = [some (.ref p), some (.int rd), some (.int m), some (.ref N), some (.ref Fd), some (.ref Ln), some (.ref Ow), some (.ref Bs), some (.ref Od), some (.int (i : Nat)), some (ownV ow)]) ?_ fun rest => ?_
        · rintro σ HJ ⟨ow, gow, kJ, bJ, rfl⟩
          have hOJ := kJ _ _ nOd hOI
          have hFJ := kJ _ _ nFd hFI
          have aJ : All2 (FAt [p, Fd, Od] HJ) fs ws := aI.imp fun f y z => z.bm (Bm.but List.mem_cons_self kJ) (KeepT.box bI kJ)
          refine ⟨_, rfl, .inl ⟨rfl, _, SqL.of hOJ⟩, _, rfl, Od, _, _, rfl, rfl, hOJ, lt_ln (by rw [List.length_map, List.length_map]; omega), ?_⟩
          have kOd : Bm [p, Fd, Od] HJ (L2.upd HJ Od (.lst ((fs.map (·.1)).map ownV ++ [ownV ow]))) := Bm.upd (by simp)
          have ktO : KeepT HJ (L2.upd HJ Od (.lst ((fs.map (·.1)).map ownV ++ [ownV ow]))) := KeepT.lst hOJ
          have h_Od' : (L2.upd HJ Od (.lst ((fs.map (·.1)).map ownV ++ [ownV ow]))) Od = some (.lst ((fs.map (·.1)).map ownV ++ [ownV ow])) := upd_same
          have bK : BoxAt (L2.upd HJ Od (.lst ((fs.map (·.1)).map ownV ++ [ownV ow]))) p (c + 3000 + 110 * i + 1) := bJ.eq (upd_ne nOd.symm)
          have hFK : (L2.upd HJ Od (.lst ((fs.map (·.1)).map ownV ++ [ownV ow]))) Fd = some (.lst ws) := by rw [upd_ne nFO]; exact hFJ
          generalize L2.upd HJ Od (.lst ((fs.map (·.1)).map ownV ++ [ownV ow])) = HK at kOd ktO h_Od' bK hFK ⊢
          have aK : All2 (FAt [p, Fd, Od] HK) fs ws := aJ.imp fun f y z => z.bm kOd ktO
          have kGK : Bm [p, Fd, Od] HG HK := kI.trans ((Bm.but List.mem_cons_self kJ).trans kOd)
          have ktGK : KeepT HG HK := ktI.trans ((KeepT.box bI kJ).trans ktO)
          have hBsK := kGK _ _ outBs hBsG
          have last : ∀ (r : Addr) (ys : List V) (H' : Hp), Gd HK p bxs H' (c + 3000 + 110 * i + 105) r ys → ∀ t, H' t = none → rAppend (.ref Fd) [.ref t] (L2.upd H' t (.tup [ownV ow, .ref r])) fun _ H5 => ∃ (fs : List Fnd) (ws : List V) (a9 a10 : Option V), Bm [p, Fd, Od] HG H5 ∧ BoxAt H5 p (c + 3000 + 110 * (i + 1)) ∧ H5 Fd = some (.lst ws) ∧
              All2 (FAt [p, Fd, Od] H5) fs ws ∧ H5 Od = some (.lst ((fs.map (·.1)).map ownV)) ∧ fs.length = i + 1 ∧ FsOk fs ∧ KeepT HG H5 ∧
              [some (.ref p), some (.int rd), some (.int m), some (.ref N), some (.ref Fd), some (.ref Ln), some (.ref Ow), some (.ref Bs), some (.ref Od), some (.int (i : Nat)), some (ownV ow)] = [some (.ref p), some (.int rd), some (.int m), some (.ref N), some (.ref Fd), some (.ref Ln), some (.ref Ow), some (.ref Bs), some (.ref Od), a9, a10] := by
            intro r ys H' G t ht
            have hF' := G.k _ _ nFd hFK
            have hO' := G.k _ _ nOd h_Od'
            have ktH : KeepT HK H' := KeepT.box bK G.k
            have la' := laG.keep (ktGK.trans ktH)
            obtain ⟨ms, lm, gm, dm, l40⟩ := lines_some G.s la' gB dB lB
            have ntF : t ≠ Fd := fun e => by rw [e, hF'] at ht; cases ht
            have ntO : t ≠ Od := fun e => by rw [e, hO'] at ht; cases ht
            have ntp : t ≠ p := not_box G.b ht
            have nrF : r ≠ Fd := fun e => by have z := G.o; rw [e, hFK] at z; cases z
            have nrO : r ≠ Od := fun e => by have z := G.o; rw [e, h_Od'] at z; cases z
            have lw := aK.len
            have kt : Same H' (L2.upd H' t (.tup [ownV ow, .ref r])) := upd_grow ht
            have hFt : (L2.upd H' t (.tup [ownV ow, .ref r])) Fd = some (.lst ws) := kt _ _ hF'
            refine ⟨Fd, ws, _, rfl, rfl, hFt, lt_ln (by omega), fs ++ [(ow, ms)], ws ++ [.ref t], _, _, ?_, ?_, upd_same, ?_, ?_, by rw [List.length_append, lI]; rfl, ?_, ?_, rfl⟩
            · exact kGK.trans ((Bm.but List.mem_cons_self G.k).trans ((Bm.of kt).trans (Bm.upd (by simp))))
            · exact ((G.b.same kt).up (by omega)).eq (upd_ne nFd.symm)
            · have kb : Bm [p, Fd, Od] HK (L2.upd (L2.upd H' t (.tup [ownV ow, .ref r])) Fd (.lst (ws ++ [.ref t]))) := (Bm.but List.mem_cons_self G.k).trans ((Bm.of kt).trans (Bm.upd (by simp)))
              have kk : KeepT HK (L2.upd (L2.upd H' t (.tup [ownV ow, .ref r])) Fd (.lst (ws ++ [.ref t]))) := ktH.trans ((KeepT.same kt).trans (KeepT.lst hFt))
              refine All2.snoc (R := FAt [p, Fd, Od] (L2.upd (L2.upd H' t (.tup [ownV ow, .ref r])) Fd (.lst (ws ++ [.ref t])))) ⟨t, r, ys, rfl, by simp [ntp, ntF, ntO], ?_, by simp [G.n, nrF, nrO], ?_, ?_⟩ (aK.imp fun f y z => z.bm kb kk)
              · rw [upd_ne ntF, upd_same]
              · rw [upd_ne nrF]
                exact kt _ _ G.h
              · exact lm.keep ((KeepT.same kt).trans (KeepT.lst hFt))
            · rw [upd_ne nFO.symm, kt _ _ hO', List.map_append, List.map_append]
              rfl
            · refine ⟨fun f mf z ez => ?_, ?_, fun f mf => ?_⟩
              · rcases List.mem_append.mp mf with mf | mf
                · exact okI.own f mf z ez
                · rw [List.mem_singleton.mp mf] at ez
                  exact (gow z ez).1
              · rw [List.filterMap_append, List.nodup_append]
                refine ⟨okI.dif, ?_, fun a ma b mb e => ?_⟩
                · cases ow with
                  | none => exact List.nodup_nil
                  | some z => exact List.nodup_cons.mpr ⟨(fun m => nomatch m), List.nodup_nil⟩
                · cases ow with
                  | none => cases mb
                  | some z =>
                    have mb : b = z := List.mem_singleton.mp mb
                    exact (gow z rfl).2 (mem_known.mp (by rw [← mb, ← e]; exact ma))
              · rcases List.mem_append.mp mf with mf | mf
                · exact okI.lin f mf
                · rw [List.mem_singleton.mp mf]
                  exact ⟨gm, dm, l40⟩
            · exact ktGK.trans (ktH.trans ((KeepT.same kt).trans (KeepT.lst hFt)))
          refine ⟨_, rfl, .inl ⟨rfl, _, SqL.of hFK⟩, _, rfl, _, rfl, _, _, rfl, rfl, _, rfl, ite2 (fun e => ?_) fun _ => ?_⟩
          · refine ⟨_, rfl, _, rfl, two_ln (by show 5 ≤ _; decide), fun E5 hE5 => ?_⟩
            refine ⟨_, rfl, p, 5, _, rfl, bK.same (upd_grow hE5), by omega, by decide, by decide, fun d HL d0 d1 kL bL eL => ?_⟩
            have nE5 : E5 ≠ p := not_box bK hE5
            obtain ⟨dk, rfl⟩ : ∃ dk : Nat, d = dk := ⟨d.toNat, by omega⟩
            obtain ⟨kd, hkd⟩ : ∃ n : Int, ([.int 2, .int 0, .int 1, .int 2, .int 2] : List V)[dk]? = some (.int n) := by
              have h5 : dk < 5 := by omega
              match dk, h5 with
              | 0, _ => exact ⟨2, rfl⟩
              | 1, _ => exact ⟨0, rfl⟩
              | 2, _ => exact ⟨1, rfl⟩
              | 3, _ => exact ⟨2, rfl⟩
              | 4, _ => exact ⟨2, rfl⟩
            have kKL : But p HK HL := (But.of (upd_grow hE5)).trans kL
            have lbx : bxs.length ≤ 40 := by rw [laG.len]; omega
            refine ixAt (kL _ _ nE5 upd_same) (atI_nat hkd) ⟨p, Bs, _, kd, bxs, rfl, bL, kKL _ _ nB hBsK, nB, lbx, by omega, fun r ys HM G => ?_⟩
            exact ⟨two_ln (by show 2 ≤ _; decide), fun t ht => last r ys HM ((G.back kKL).up (by omega)) t ht⟩
          · refine ⟨_, rfl, Bs, bxs, rfl, .inl (SqL.of hBsK), fun r hr => ⟨two_ln (by show 2 ≤ _; decide), fun t ht => ?_⟩⟩
            exact last r bxs _ ⟨.of (upd_grow hr), (bK.same (upd_grow hr)).up (by omega), hr, not_box bK hr, upd_same, [], by rw [List.append_nil]⟩ t ht
        · refine ⟨_, rfl, p, 3, _, rfl, bI, by omega, by decide, by decide, fun d HJ d0 d1 kJ bJ eJ => ⟨_, _, rfl, rfl, _, rfl, iteB (fun _ => ?_) fun _ => ?_⟩⟩
          · have hOJ := kJ _ _ nOd hOI
            have hWJ := kJ _ _ nOw hOwI
            have at_ : atI (os.map V.str) ((i : Nat) : Int) = some (V.str oi) := atI_nat (by rw [List.getElem?_map, eo]; rfl)
            refine ⟨_, rfl, _, rfl, ixAt hWJ at_ ⟨_, rfl, Od, _, rfl, .inl (SqL.of hOJ), rfl, owns_flat _, _, rfl, ?_⟩⟩
            have en : (if true = true then !inV (V.str oi) ((fs.map (·.1)).map ownV) else inV (V.str oi) ((fs.map (·.1)).map ownV)) = decide (some oi ∉ fs.map (·.1)) := by
              rw [if_pos rfl, inV_owns]
              simp
            rw [en]
            refine ite2 (fun e => ?_) fun _ => ?_
            · exact ⟨_, rfl, _, rfl, ixAt hWJ at_ (rest _ _ ⟨some oi, fun z ez => (Option.some.inj ez) ▸ ⟨go, of_decide_eq_true e⟩, kJ, bJ.up (by omega), rfl⟩)⟩
            · exact rest _ _ ⟨none, (fun z ez => nomatch ez), kJ, bJ.up (by omega), rfl⟩
          · exact rest _ _ ⟨none, (fun z ez => nomatch ez), kJ, bJ.up (by omega), rfl⟩
      · rintro σ HI ⟨fs, ws, a9, a10, kI, bI, hFI, aI, hOI, lI, okI, ktI, rfl⟩
        refine ⟨_, rfl, q Fd fs ws HI (fun b o nb e => ?_) (bI.up (by omega)) oFd nFd hFI ?_ (by omega) (by omega) okI⟩
        · refine kI b o ?_ (kXG b o nb e)
          have n1 : b ≠ Fd := ne_of_none e oFd
          have n2 : b ≠ Od := ne_of_none e oOd
          simp [nb, n1, n2]
        · have key : ∀ {fs : List Fnd} {ws : List V}, All2 (FAt [p, Fd, Od] HI) fs ws → All2 (FAt [p] HI) fs ws := fun h => h.imp fun f y z => z.less fun x mx => by rw [List.mem_singleton.mp mx]; exact List.mem_cons_self
          exact key aI
    · refine ⟨_, rfl, _, _, rfl, rfl, _, rfl, iteB (fun _ => ?_) fun _ => rest _ _ ⟨mn, m40, rfl, rfl⟩⟩
      refine ⟨_, rfl, _, _, rfl, ?_⟩
      by_cases c7 : (7 : Int) < (mn : Int)
      · rw [if_pos c7]
        exact rest _ _ ⟨7, by omega, rfl, rfl⟩
      · rw [if_neg c7]
        exact rest _ _ ⟨mn, m40, rfl, rfl⟩
end
end K10

namespace K10
open PySem PySem.Spec PyProof.Rows L2
abbrev sTLines : Stmt := top 22
theorem scTLines : FnScope ["first", "second", "place", "k", "line", "shared", "a", "b"] ["first", "second"] (defScope sTLines) := ⟨rfl, rfl, rfl, by decide +kernel, rfl, by decide +kernel, by decide +kernel⟩
section
variable {P : Program} {w : World} {K : PySem.W.Frag} {mg : Str → Option Value} {base : Heap} {f : Addr} {fd : FuncData}
theorem ok_turned_lines (F : Fd K "turned_lines" sTLines f fd) (g : mg "turned_lines" = some (.ref f)) (B : Bl mg) : Ok P w K mg base CX0 1 "turned_lines" sTLines ["first", "second"] spTLines := by
  refine ⟨f, fd, g, F, F.bindsN fun _ _ _ _ _ _ us hl => match us, hl with | [_, _], _ => rfl, F.ok scTLines (fun vs H Q E h => ?_) (fun cdv A outer s H vs Q E hr h => ?_)⟩
  · obtain ⟨p, q, xs, ys, la, lb, rfl, _⟩ := h
    rfl
  · have hu64 : (cxOf CX0 P w K mg base ["first", "second", "place", "k", "line", "shared", "a", "b"] "turned_lines" (defScope sTLines) f cdv A outer s H E).A.units + 64 < cLine := by
      have z := hr.un
      show (A.deeper _).units + 64 < cLine
      omega
    have hu : (cxOf CX0 P w K mg base ["first", "second", "place", "k", "line", "shared", "a", "b"] "turned_lines" (defScope sTLines) f cdv A outer s H E).A.units + 1 < cLine := by omega
    refine ⟨_, (pss_cons (ps_set (i := 2) scTLines.nd rfl (Or.inr rfl) (pe_dcT (own := [("k", 3), ("line", 4)]) (g := gTup K 2 (gCons (gName 3) (gCons (gName 4) gNil))) rfl hu scTLines.nd (pi_enumT (by rfl) (B.u "enumerate" (by decide +kernel)) (pa_cons (pv 1) pa_nil)) (blkOk_by (N := ["first", "second", "place", "k", "line", "shared", "a", "b"]) (sc := defScope sTLines) (by decide +kernel)) (fun _ _ _ _ _ => (pg_tup rfl (pgs_cons (pg_name (i := 3) scTLines.nd rfl (Or.inl rfl)) (pgs_cons (pg_name (i := 4) scTLines.nd rfl (Or.inl rfl)) pgs_nil)))) (fun _ _ _ _ _ => pts_nil) (fun _ _ _ _ _ => (pv 4)) (fun _ _ _ _ _ => (pv 3))))
      (pss_cons (ps_set (i := 5) scTLines.nd rfl (Or.inr rfl) (pe_lc (own := [("line", 4)]) (g := gName 4) rfl scTLines.nd (pi_seq (pv 0)) (blkOk_by (N := ["first", "second", "place", "k", "line", "shared", "a", "b"]) (sc := defScope sTLines) (by decide +kernel)) (fun _ _ _ _ _ => (pg_name (i := 4) scTLines.nd rfl (Or.inl rfl))) (fun _ _ _ _ _ => (pts_one (pt_cmp (pc_din hu (pv 4) (pv 2))))) (fun _ _ _ _ _ => (pv 4))))
      (pss_one (ps_ret (pe_callB (call_sortedE dPair pair_alike pair_tup pair_deep hu64) (by rfl) (B.u "sorted" (by decide +kernel)) (by decide +kernel) (pa_cons ((pe_lc2 (wi1 := iList K _) (own := [("k", 3), ("a", 6), ("b", 7)]) (vs1 := [7]) (g := gTup K 2 (gCons (gName 3) (gCons (gName 6) gNil))) (g1 := gName 7) rfl scTLines.nd (pi_enumT (by rfl) (B.u "enumerate" (by decide +kernel)) (pa_cons (pv 5) pa_nil)) (blkOk_by (N := ["first", "second", "place", "k", "line", "shared", "a", "b"]) (sc := defScope sTLines) (by decide +kernel)) (by decide) (fun _ _ _ _ _ => (pg_tup rfl (pgs_cons (pg_name (i := 3) scTLines.nd rfl (Or.inl rfl)) (pgs_cons (pg_name (i := 6) scTLines.nd rfl (Or.inl rfl)) pgs_nil)))) (fun _ _ _ _ _ => pts_nil) (fun _ _ _ _ _ => (pi_list (pe_slice (r := rSlL K) (by exact sl_list) (pv 5) (po_some (pe_op op_add (pv 3) pe_int)) po_none))) (fun _ _ _ _ _ => (pg_name (i := 7) scTLines.nd rfl (Or.inl rfl))) (fun _ _ _ _ _ => (pts_one (pt_cmpR op_lt (pe_dget hu (pv 2) (pv 7) (fun _ _ => rfl)) (pe_dget hu (pv 2) (pv 6) (fun _ _ => rfl)) (nomark _)))) (fun _ _ _ _ _ => (pe_tup (pa_cons (pv 6) (pa_cons (pv 7) pa_nil)))))) pa_nil)))))), ?_⟩
    obtain ⟨p, q, xs, ys, la, lb, rfl, hp, ra, hq, rb, nd, fa, fb, fin⟩ := h
    have ly := rdds_len rb
    have lx := rdds_len ra
    rw [List.length_map] at ly lx
    refine ⟨_, rfl, q, ys, rfl, hq.sq, fun J w D hD => ?_⟩
    refine dc_it w (fun i H' => Same H (del H' D) ∧ H' D = some (.dT (plc (lb.take i)))) ⟨fun b o e => ?_, upd_same⟩ (fun i H' _ h => ?_) ?_ ?_
    · rw [del_ne (ne_of_none e hD), upd_ne (ne_of_none e hD)]
      exact e
    · rcases hq with z | z
      · rw [z, del_sub h.1 _ _ z]
      · rw [z, del_sub h.1 _ _ z]
    · rintro i x H1 H2 hi ⟨k1, h1⟩ ⟨T, v, rfl, hT, rfl, hv⟩
      have hil : i < lb.length := by omega
      have el := List.getElem?_eq_getElem hil
      have et := List.take_succ_eq_append_getElem hil
      generalize lb[i] = l at el et
      have nT : T ≠ D := fun z => by rw [z, h1] at hT; cases hT
      obtain ⟨v', hv', rv⟩ := rdds_get (rb.mono k1) (show (lb.map dLine)[i]? = some (dLine l) by rw [List.getElem?_map, el]; rfl)
      rw [hv] at hv'
      obtain rfl : v = v' := Option.some.inj hv'
      obtain ⟨a, rfl, ha⟩ := line_tup rv
      have ha1 := del_le _ _ ha
      refine ⟨_, _, rfl, SqT.of upd_same, rfl, _, _, rfl, _, _, rfl, rfl, rfl, ?_⟩
      have na : a ≠ T := fun z => by rw [z, hT] at ha1; cases ha1
      refine ⟨_, rfl, _, rfl, plc (lb.take i), kLine l, a, rfl, ?_, ?_, ?_, fun b o e => ?_, ?_⟩
      · rw [upd_ne na]
        exact ha1
      · rw [upd_ne nT.symm]
        exact h1
      · rw [plc_len, List.length_take]
        exact lt_ln (by omega)
      · have nb := ne_of_none e hD
        have z := del_le _ _ (k1 b o e)
        rw [del_ne nb, upd_ne nb, upd_ne (fun y => by rw [y, hT] at z; cases z)]
        exact z
      · have out : l ∉ lb.take i := by
          have z := nd.sublist (List.take_sublist (i + 1) lb)
          rw [et, List.nodup_append] at z
          exact fun m => z.2.2 l m l (List.mem_singleton.mpr rfl) rfl
        have z := plc_put out
        rw [List.length_take, Nat.min_eq_left (by omega), ← et] at z
        rw [z, upd_same]
    · rintro H1 ⟨k1, h1⟩
      rw [ly, List.take_length] at h1
      have k1 := del_sub k1
      dsimp only [gName]
      refine ⟨_, rfl, p, xs, rfl, (hp.mono k1).sq, fun J2 w2 E hE => ?_⟩
      refine lc_as w2 (as := la) lx.symm (fun l => decide (l ∈ lb)) (fun l y H' => Rdd H' y (dLine l)) (fun d y H1 H2 k r => r.mono k) hE (by omega) (fun H' k => ?_) ?_ ?_
      · rcases hp with z | z
        · rw [k1 _ _ z, del_sub k _ _ (k1 _ _ z)]
        · rw [k1 _ _ z, del_sub k _ _ (k1 _ _ z)]
      · rintro i l x H2 H3 K1 N1 el k2 - ⟨rfl, hx⟩ hK hN
        obtain ⟨x', hx', rx⟩ := rdds_get (ra.mono (k1.trans k2)) (show (la.map dLine)[i]? = some (dLine l) by rw [List.getElem?_map, el]; rfl)
        rw [hx] at hx'
        obtain rfl : x = x' := Option.some.inj hx'
        obtain ⟨a, rfl, ha⟩ := line_tup rx
        refine ⟨rfl, _, rfl, _, rfl, D, _, rfl, DGet.t (del_sub k2 _ _ h1) (del_le _ _ ha), ?_⟩
        have ev : (valV (plc lb) (kLine l)).isSome = decide (l ∈ lb) := by
          rw [plc_val]
          by_cases m : l ∈ lb
          · rw [if_pos m, decide_eq_true m] <;> rfl
          · rw [if_neg m, decide_eq_false m] <;> rfl
        refine ⟨_, rfl, ?_⟩
        rw [ev]
        exact iteB (fun e => ⟨_, rfl, hK e _ _ (Same.refl _) rx⟩) fun e => hN e _ (Same.refl _)
      · intro zs H2 k2 h2 r2
        have k2 := del_sub k2
        have rz : RddAll H2 zs ((shared la lb).map dLine) := (All2.rdd r2).mono del_le
        have lz := rdds_len rz
        rw [List.length_map] at lz
        have fs : (shared la lb).length < 64 := Nat.lt_of_le_of_lt (List.length_filter_le _ _) fa
        have h1' := k2 _ _ h1
        generalize hsh : shared la lb = sh at rz lz fs
        dsimp only [gName]
        refine ⟨_, rfl, E, zs, rfl, .inl (SqL.of h2), fun J3 w3 D2 hD2 => ?_⟩
        refine in_it w3 (fun i H' => Same H2 (del H' D2) ∧ ∃ acc, H' D2 = some (.lst acc) ∧ All2 (fun pr y => Rdd (del H' D2) y (dPair pr)) (pairsTo sh lb i) acc) ⟨fun b o e => ?_, [], upd_same, .nil⟩ (fun i H' _ h => by rw [h2, del_sub h.1 _ _ h2]) ?_ ?_
        · rw [del_ne (ne_of_none e hD2), upd_ne (ne_of_none e hD2)]
          exact e
        · rintro i x H3 H4 hi ⟨k3, acc, h3, r3⟩ ⟨T, v, rfl, hT, rfl, hv⟩
          have hil : i < sh.length := by omega
          have el := List.getElem?_eq_getElem hil
          generalize hl : sh[i] = l at el
          have nT : T ≠ D2 := fun z => by rw [z, h3] at hT; cases hT
          obtain ⟨v', hv', rv⟩ := rdds_get rz (show (sh.map dLine)[i]? = some (dLine l) by rw [List.getElem?_map, el]; rfl)
          rw [hv] at hv'
          obtain rfl : v = v' := Option.some.inj hv'
          obtain ⟨a, rfl, ha⟩ := line_tup rv
          refine ⟨_, _, rfl, SqT.of upd_same, rfl, _, _, rfl, _, _, rfl, rfl, rfl, ?_⟩
          have h24 : ∀ b o, H2 b = some o → (upd H3 T (.tup [.int (i : Nat), .ref a])) b = some o := fun b o e => by
            have z := del_le _ _ (k3 b o e)
            rw [upd_ne (fun y => by rw [y, hT] at z; cases z)]
            exact z
          refine ⟨_, rfl, _, rfl, _, _, rfl, rfl, _, rfl, E, zs, rfl, SqL.of (h24 _ _ h2), fun L hL => ⟨L, rfl, ⟨_, SqL.of upd_same⟩, ?_⟩⟩
          have cz : cutV zs (some ((i : Int) + 1)) none = zs.drop (i + 1) := by
            unfold cutV
            rw [HT.sIx_none, show (i : Int) + 1 = ((i + 1 : Nat) : Int) by omega, HT.sIx_nat, Nat.min_eq_left (by omega)]
            exact List.take_of_length_le (by rw [List.length_drop]; omega)
          have hLD : L ≠ D2 := fun z => by
            rw [z, upd_ne (fun y => nT y.symm), h3] at hL
            cases hL
          have hL2 : H2 L = none := by
            cases e : H2 L with
            | none => rfl
            | some o => rw [h24 _ _ e] at hL; cases hL
          have hL3 : H3 L = none := by
            by_cases z : L = T
            · rw [z, upd_same] at hL
              cases hL
            · rwa [upd_ne z] at hL
          refine in_it (walk_list (xs := zs.drop (i + 1))) (fun j H' => Same H2 (del H' D2) ∧ H' L = some (.lst (zs.drop (i + 1))) ∧ ∃ acc, H' D2 = some (.lst acc) ∧
            All2 (fun pr y => Rdd (del H' D2) y (dPair pr)) (pairsTo sh lb i ++ ((((sh.drop (i + 1)).take j).filter fun b => decide (lb.idxOf b < lb.idxOf l)).map fun b => (l, b))) acc) ?_ (fun j H' _ h => SqL.of h.2.1) ?_ ?_
          · refine ⟨fun b o e => ?_, by rw [cz, upd_same], acc, ?_, ?_⟩
            · rw [del_ne (ne_of_none e hD2), upd_ne (ne_of_none e hL2)]
              exact h24 _ _ e
            · rw [upd_ne hLD.symm, upd_ne nT.symm]
              exact h3
            · rw [List.take_zero, List.filter_nil, List.map_nil, List.append_nil]
              refine r3.imp fun pr y r => r.mono fun b o e => ?_
              have nb : b ≠ D2 := fun z => by rw [z, del_same] at e; cases e
              rw [del_ne nb] at e ⊢
              have nbT : b ≠ T := fun z => by rw [z, hT] at e; cases e
              rw [upd_ne (fun z => by rw [z, hL3] at e; cases e), upd_ne nbT]
              exact e
          · rintro j x H5 H6 hj ⟨k5, h5, acc, h6, r6⟩ ⟨rfl, hx⟩
            rw [List.length_drop] at hj
            have hij : i + 1 + j < sh.length := by omega
            have eb := List.getElem?_eq_getElem hij
            generalize hb : sh[i + 1 + j] = b at eb
            rw [List.getElem?_drop] at hx
            obtain ⟨x', hx', rx⟩ := rdds_get (rz.mono k5) (show (sh.map dLine)[i + 1 + j]? = some (dLine b) by rw [List.getElem?_map, eb]; rfl)
            rw [hx] at hx'
            obtain rfl : x = x' := Option.some.inj hx'
            obtain ⟨c, rfl, hc⟩ := line_tup rx
            have hc1 := del_le _ _ hc
            have inl : ∀ {i : Nat} {b : Line}, sh[i]? = some b → b ∈ lb := fun {i b} e => by
              have m := List.mem_of_getElem? e
              rw [← hsh] at m
              exact of_decide_eq_true (List.mem_filter.mp m).2
            have hD5 := del_le _ _ (k5 _ _ h1')
            have hal := del_le _ _ (k5 _ _ ha)
            have g1 := DGet.t hD5 hc1
            rw [plc_val, if_pos (inl eb)] at g1
            have g2 := DGet.t hD5 hal
            rw [plc_val, if_pos (inl el)] at g2
            refine ⟨rfl, _, rfl, _, rfl, D, _, rfl, g1, _, rfl, _, rfl, D, _, rfl, g2, _, _, rfl, rfl, _, rfl, ?_⟩
            have edd : decide ((lb.idxOf b : Int) < (lb.idxOf l : Int)) = decide (lb.idxOf b < lb.idxOf l) := decide_eq_decide.mpr (by omega)
            rw [edd]
            have et : (sh.drop (i + 1)).take (j + 1) = (sh.drop (i + 1)).take j ++ [b] := by
              rw [List.take_succ, List.getElem?_drop, eb]
              rfl
            have la6 := r6.len
            have lim : acc.length < 5000 := by
              rw [la6, List.length_append, List.length_map]
              have z1 := pairsTo_len sh lb i
              have z2 := List.length_filter_le (fun b => decide (lb.idxOf b < lb.idxOf l)) ((sh.drop (i + 1)).take j)
              rw [List.length_take, List.length_drop] at z2
              have z3 : i * sh.length ≤ 63 * 63 := Nat.mul_le_mul (by omega) (by omega)
              omega
            refine iteB (fun e => ?_) fun e => ⟨k5, h5, acc, h6, ?_⟩
            · refine ⟨_, rfl, _, rfl, two_ln (by show 2 ≤ _; decide), fun t ht => ?_⟩
              have nt : t ≠ D2 := fun z => by rw [z, h6] at ht; cases ht
              refine ⟨acc, by rw [upd_ne nt.symm]; exact h6, lt_ln (by omega), fun x o e => ?_, ?_, _, upd_same, ?_⟩
              · have z := k5 _ _ e
                rw [del_upd_eq]
                have nx : x ≠ D2 := ne_of_none e hD2
                rw [del_ne nx] at z ⊢
                rw [upd_ne (fun y => by rw [y, ht] at z; cases z)]
                exact z
              · rw [upd_ne hLD, upd_ne (fun y => by rw [← y, h5] at ht; cases ht)]
                exact h5
              · have z := pairs_push (l := l) (b := b) h6 ht hal hc1 r6
                rw [et, List.filter_append, List.filter_cons_of_pos (p := fun b => decide (lb.idxOf b < lb.idxOf l)) e, List.filter_nil, List.map_append, ← List.append_assoc]
                exact z
            · rw [et, List.filter_append, List.filter_cons_of_neg (p := fun b => decide (lb.idxOf b < lb.idxOf l)) (by rw [e]; exact Bool.false_ne_true), List.filter_nil, List.append_nil]
              exact r6
          · rintro H5 ⟨k5, h5, acc, h6, r6⟩
            refine ⟨k5, acc, h6, ?_⟩
            rw [pairsTo_succ]
            have ep : pairsAt sh lb i = (((sh.drop (i + 1)).take (zs.drop (i + 1)).length).filter fun b => decide (lb.idxOf b < lb.idxOf l)).map fun b => (l, b) := by
              unfold pairsAt
              rw [el, List.length_drop, lz, ← List.length_drop, List.take_length]
            rw [ep]
            exact r6
        · rintro H3 ⟨k3, acc, h3, r3⟩
          rw [lz] at r3
          refine ⟨D2, acc, pairsTo sh lb sh.length, rfl, SqL.of h3, (All2.rdd r3).mono del_le, fun ys p rys hp => ?_⟩
          refine fin p ys _ (k1.trans (k2.trans ((del_sub k3).trans (upd_grow hp)))) ?_ upd_same ?_
          · cases e : H p with
            | none => rfl
            | some o =>
              have z := del_le _ _ (k3 _ _ (k2 _ _ (k1 _ _ e)))
              rw [hp] at z
              cases z
          · rw [turnedL, hsh]
            exact rys.mono (upd_grow hp)
end
end K10

namespace K10
open PySem PySem.Spec PyProof.Rows L2
abbrev sTurned : Stmt := top 24
theorem scTurned : FnScope ["founds", "i", "j"] ["founds", "i", "j"] (defScope sTurned) := ⟨rfl, rfl, rfl, by decide +kernel, rfl, by decide +kernel, by decide +kernel⟩
/-- the lines of an item -/
def snd : PyData → PyData
  | .tuple [_, ls] => ls
  | _ => .none
def linesI (d di : PyData) : List Line := match di with
  | .int i => (linesOf (snd (((rowD d).getD []).getD i.toNat .none))).getD []
  | _ => []
def turnedF (d di dj : PyData) : List (Line × Line) := turnedL (linesI d di) (linesI d dj)
def spTurned (K : PySem.W.Frag) : Sp := fun vs H Q E => ∃ v vi vj d di dj, vs = [v, vi, vj] ∧ Asked K v vi vj d di dj H E (∀ l zs H', Same H H' → H l = none → H' l = some (.lst zs) → RddAll H' zs ((turnedF d di dj).map dPair) → Q (.ref l) H')
/-- an item of right founds -/
theorem item_at {H : Hp} {d di : PyData} {xs : List V} {ds : List PyData} (fo : foundsB d = true) (few : fewD d) (hd : d = .list ds ∨ d = .tuple ds) (ra : RddAll H xs ds) (bi : belowD (readers d) di = true) :
    ∃ (i : Nat) (t q : Addr) (o : V) (ys : List V), di = .int i ∧ xs[i]? = some (.ref t) ∧ H t = some (.tup [o, .ref q]) ∧ RowAt H q ys ∧ RddAll H ys ((linesI d di).map dLine) ∧ (linesI d di).Nodup ∧ (linesI d di).length < 64 := by
  have er := rowD_of.mpr hd
  obtain ⟨i, rfl, hi⟩ : ∃ i : Nat, di = .int i ∧ i < readers d := by
    cases di with
    | int i =>
      simp only [belowD, Bool.and_eq_true, decide_eq_true_eq] at bi
      exact ⟨i.toNat, by rw [Int.toNat_of_nonneg bi.1], by omega⟩
    | _ => cases bi
  have hil : i < ds.length := by
    unfold readers at hi
    rw [er] at hi
    exact hi
  have ed := List.getElem?_eq_getElem hil
  have md := List.getElem_mem hil
  have fa : ds.all foundB = true := by
    unfold foundsB at fo
    rw [er] at fo
    simp only [Bool.and_eq_true] at fo
    exact fo.2.2.1
  have gy := List.all_eq_true.mp fa _ md
  have fy := few ds er _ md
  generalize ds[i] = y at ed gy fy
  obtain ⟨ow, ln, rfl⟩ : ∃ a b, y = .tuple [a, b] := by
    cases y with
    | tuple es =>
      match es with
      | [] => cases gy
      | [_] => cases gy
      | [a, b] => exact ⟨a, b, rfl⟩
      | _ :: _ :: _ :: _ => cases gy
    | _ => cases gy
  obtain ⟨x, hx, rx⟩ := rdds_get ra ed
  cases rx with
  | @tup t zs es ht rt =>
    obtain ⟨o, v2, rfl, r1, r2⟩ := rdds_two rt
    have gy : (linesOf ln).isSome = true := gy
    obtain ⟨es, he⟩ : ∃ es, rowD ln = some es := by
      cases e : rowD ln with
      | none =>
        unfold linesOf at gy
        rw [e] at gy
        cases gy
      | some es => exact ⟨es, rfl⟩
    obtain ⟨q, ys, es', rfl, hq, rq, hd'⟩ := row_of r2 (by rw [listD_row, he]; rfl)
    rw [rowD_of.mpr hd'] at he
    obtain rfl := Option.some.inj he
    have gl : linesOf ln = if (es'.all (fun x => (lineOf x).isSome) && decide (es'.filterMap lineOf).Nodup) = true then some (es'.filterMap lineOf) else none := by
      unfold linesOf
      rw [rowD_of.mpr hd']
    by_cases c : (es'.all (fun x => (lineOf x).isSome) && decide (es'.filterMap lineOf).Nodup) = true
    · rw [if_pos c] at gl
      rw [Bool.and_eq_true] at c
      obtain ⟨ps, e1, e2, e3, e4⟩ := lines_at rq (List.all_eq_true.mp c.1)
      have el : linesI d (.int i) = ps.map (·.2) := by
        unfold linesI
        rw [er]
        show (linesOf (snd ((ds.getD i .none)))).getD [] = _
        rw [List.getD_eq_getElem?_getD, ed]
        show (linesOf ln).getD [] = _
        rw [gl, e4]
        rfl
      refine ⟨i, t, q, o, ys, rfl, hx, ht, hq, ?_, ?_, ?_⟩
      · rw [el, List.map_map]
        rw [e2] at rq
        exact rq
      · rw [el, ← e4]
        exact of_decide_eq_true c.2
      · rw [el, List.length_map]
        have z := fy es' (rowD_of.mpr hd')
        rw [e2, List.length_map] at z
        exact z
    · rw [if_neg c] at gl
      rw [gl] at gy
      cases gy
section
variable {P : Program} {w : World} {K : PySem.W.Frag} {mg : Str → Option Value} {base : Heap} {f : Addr} {fd : FuncData}
theorem ok_turned (F : Fd K "turned" sTurned f fd) (g : mg "turned" = some (.ref f)) (o_check_readers : Ok P w K mg base (L2N.CX P w) 6 "check_readers" sChkR ["founds", "i", "j"] (spChkR K)) (o_turned_lines : Ok P w K mg base CX0 1 "turned_lines" sTLines ["first", "second"] spTLines) :
    Ok P w K mg base (L2N.CX P w) 7 "turned" sTurned ["founds", "i", "j"] (spTurned K) := by
  refine ⟨f, fd, g, F, F.bindsN fun _ _ _ _ _ _ us hl => match us, hl with | [_, _, _], _ => rfl, F.ok scTurned (fun vs H Q E h => ?_) (fun cdv A outer s H vs Q E hr h => ?_)⟩
  · obtain ⟨v, vi, vj, d, di, dj, rfl, _⟩ := h
    rfl
  · have tk : L2N.Takes (cxOf (L2N.CX P w) P w K mg base ["founds", "i", "j"] "turned" (defScope sTurned) f cdv A outer s H E) (fun cls d _ H => E cls d H) := L2N.takes_of rfl rfl rfl rfl
    refine ⟨_, (pss_cons (ps_expr (pe_oS o_check_readers (hr.mono (by decide)) (by rfl) (fun σ => L2N.passAt tk σ) (pa_cons (pv 0) (pa_cons (pv 1) (pa_cons (pv 2) pa_nil)))))
      (pss_one (ps_ret (pe_o o_turned_lines (hr.mono (by decide)) (by rfl) (pa_cons (pe_ix ix_seq (pe_ix ix_seq (pv 0) (pv 1) fun _ _ => rfl) pe_int fun _ _ => rfl) (pa_cons (pe_ix ix_seq (pe_ix ix_seq (pv 0) (pv 2) fun _ _ => rfl) pe_int fun _ _ => rfl) pa_nil)))))), ?_⟩
    obtain ⟨v, vi, vj, d, di, dj, rfl, a⟩ := h
    refine ⟨_, rfl, _, rfl, _, rfl, v, vi, vj, d, di, dj, rfl, { a with ok := fun fo bi bj H1 k1 => ?_ }⟩
    have bj2 : belowD (readers d) dj = true := by
      unfold badI at bj
      cases e : belowD (readers d) dj with
      | true => rfl
      | false => rw [e] at bj; cases bj
    have fo2 := fo
    obtain ⟨p, xs, ds, rfl, hp, ra, hd⟩ := row_of a.r (by
      rw [listD_row]
      unfold foundsB at fo2
      cases e : rowD d with
      | none => rw [e] at fo2; cases fo2
      | some ds => rfl)
    obtain ⟨i, t1, q1, o1, ys1, ei, x1, h1, g1, r1, n1, l1⟩ := item_at fo a.few hd ra bi
    obtain ⟨j, t2, q2, o2, ys2, ej, x2, h2, g2, r2, n2, l2⟩ := item_at fo a.few hd ra bj2
    have fin := a.ok fo bi bj
    have ri := a.ri
    have rj := a.rj
    unfold turnedF at fin
    generalize linesI d di = la at r1 n1 l1 fin
    generalize linesI d dj = lb at r2 n2 l2 fin
    subst ei
    subst ej
    cases ri
    cases rj
    have hp1 := hp.mono k1
    refine ⟨_, rfl, _, rfl, hp1.ix (atI_nat x1) (ixTup (SqT.of (k1 _ _ h1)) rfl ⟨_, rfl, _, rfl, hp1.ix (atI_nat x2) (ixTup (SqT.of (k1 _ _ h2)) rfl ?_)⟩)⟩
    refine ⟨q1, q2, ys1, ys2, la, lb, rfl, g1.mono k1, r1.mono k1, g2.mono k1, r2.mono k1, n2, l1, l2, fun l zs H2 k2 hl h2 rz => fin l zs H2 (k1.trans k2) ?_ h2 rz⟩
    cases e : H l with
    | none => rfl
    | some o => rw [k1 _ _ e] at hl; cases hl
end
end K10

namespace K10
open PySem PySem.Spec PyProof.Rows L2
abbrev sShown : Stmt := top 26
theorem scShown : FnScope ["founds", "i", "j", "shown", "a", "b"] ["founds", "i", "j"] (defScope sShown) := ⟨rfl, rfl, rfl, by decide +kernel, rfl, by decide +kernel, by decide +kernel⟩
abbrev sArrows : Stmt := top 25
theorem scArrows : FnScope ["founds", "i", "j"] ["founds", "i", "j"] (defScope sArrows) := ⟨rfl, rfl, rfl, by decide +kernel, rfl, by decide +kernel, by decide +kernel⟩
abbrev Arr := Str × Str
def kArr (a : Arr) : List Key := [.inr a.1, .inr a.2]
def dArr (a : Arr) : PyData := .tuple ((kArr a).map kD)
theorem kArr_inj {a b : Arr} (h : kArr a = kArr b) : a = b := by
  obtain ⟨a1, a2⟩ := a
  obtain ⟨b1, b2⟩ := b
  simp [kArr] at h
  rw [h.1, h.2]
def owns (p : Line × Line) : Arr := (p.1.1, p.2.1)
def addA (acc : List Arr) (p : Line × Line) : List Arr := if owns p ∈ acc then acc else acc ++ [owns p]
/-- each once, as they come -/
def arrowsOf (ps : List (Line × Line)) : List Arr := ps.foldl addA []
theorem arrowsOf_snoc (ps : List (Line × Line)) (p : Line × Line) : arrowsOf (ps ++ [p]) = addA (arrowsOf ps) p := by
  unfold arrowsOf
  rw [List.foldl_append]
  rfl
theorem arrowsOf_len : ∀ ps : List (Line × Line), (arrowsOf ps).length ≤ ps.length := by
  intro ps
  unfold arrowsOf
  have key : ∀ (ps : List (Line × Line)) (acc : List Arr), (ps.foldl addA acc).length ≤ acc.length + ps.length := by
    intro ps
    induction ps with
    | nil => intro acc; exact Nat.le_refl _
    | cons p ps ih =>
      intro acc
      have z := ih (addA acc p)
      have y : (addA acc p).length ≤ acc.length + 1 := by
        unfold addA
        by_cases m : owns p ∈ acc
        · rw [if_pos m]; omega
        · rw [if_neg m, List.length_append]; exact Nat.le_refl _
      rw [List.foldl_cons, List.length_cons]
      omega
  have z := key ps []
  rw [List.length_nil, Nat.zero_add] at z
  exact z
def sortA (as : List Arr) : List Arr := as.mergeSort (PySem.W.dataLe false dArr)
theorem arr_alike (a b : Arr) : PySem.W.alike (dArr a) (dArr b) = true := rfl
theorem arr_tup (b : Arr) : ∃ x r, dArr b = .tuple (x :: r) := ⟨_, _, rfl⟩
theorem arr_deep (b : Arr) : (dArr b).depth ≤ 8 := by
  obtain ⟨a, b⟩ := b
  simp [dArr, kArr, kD, PyData.depth, PyData.depthAll]
theorem turnedL_len {la lb : List Line} (h : la.length < 64) : (turnedL la lb).length ≤ 4096 := by
  unfold turnedL
  rw [List.length_mergeSort]
  have z := pairsTo_len (shared la lb) lb (shared la lb).length
  have y : (shared la lb).length ≤ la.length := List.length_filter_le _ _
  have x : (shared la lb).length * (shared la lb).length ≤ 64 * 64 := Nat.mul_le_mul (by omega) (by omega)
  omega
theorem pair_at {H : Hp} {v : V} {p : Line × Line} (r : Rdd H v (dPair p)) : ∃ t a b, v = .ref t ∧ H t = some (.tup [.ref a, .ref b]) ∧ H a = some (.tup ((kLine p.1).map kV)) ∧ H b = some (.tup ((kLine p.2).map kV)) := by
  unfold dPair at r
  cases r with
  | tup h ra =>
    obtain ⟨x, y, rfl, r1, r2⟩ := rdds_two ra
    obtain ⟨a, rfl, ha⟩ := line_tup r1
    obtain ⟨b, rfl, hb⟩ := line_tup r2
    exact ⟨_, a, b, rfl, h, ha, hb⟩
theorem val_none {κ : Type} [DecidableEq κ] {kvs : List (κ × V)} {k : κ} : valV kvs k = none ↔ k ∉ kvs.map (·.1) := by
  unfold valV
  rw [Option.map_eq_none_iff, List.find?_eq_none]
  constructor
  · intro h m
    obtain ⟨kv, mk, e⟩ := List.mem_map.mp m
    exact h kv mk (decide_eq_true e)
  · intro h kv mk e
    exact h (List.mem_map.mpr ⟨kv, mk, of_decide_eq_true e⟩)
theorem put_new {κ : Type} [DecidableEq κ] {kvs : List (κ × V)} {k : κ} {v : V} (h : k ∉ kvs.map (·.1)) : putK kvs k v = kvs ++ [(k, v)] := by
  unfold putK
  rw [if_neg]
  intro z
  obtain ⟨kv, mk, e⟩ := List.any_eq_true.mp z
  exact h (List.mem_map.mpr ⟨kv, mk, of_decide_eq_true e⟩)
theorem mem_kArr {a : Arr} {as : List Arr} : kArr a ∈ as.map kArr ↔ a ∈ as := by
  constructor
  · intro m
    obtain ⟨b, mb, e⟩ := List.mem_map.mp m
    exact kArr_inj e ▸ mb
  · exact fun m => List.mem_map.mpr ⟨a, m, rfl⟩
def spShown (K : PySem.W.Frag) : Sp := fun vs H Q E => ∃ v vi vj d di dj, vs = [v, vi, vj] ∧ (linesI d di).length < 64 ∧ Asked K v vi vj d di dj H E (∀ l kvs H', Same H H' → H l = none → H' l = some (.dT kvs) → kvs.map (·.1) = (arrowsOf (turnedF d di dj)).map kArr → Q (.ref l) H')
def spArrows (K : PySem.W.Frag) : Sp := fun vs H Q E => ∃ v vi vj d di dj, vs = [v, vi, vj] ∧ (linesI d di).length < 64 ∧ Asked K v vi vj d di dj H E (∀ l zs H', Same H H' → H l = none → H' l = some (.lst zs) → RddAll H' zs ((sortA (arrowsOf (turnedF d di dj))).map dArr) → Q (.ref l) H')
theorem Asked.mono {K : PySem.W.Frag} {v vi vj : V} {d di dj : PyData} {H H1 : Hp} {E : XK} {W W1 : Prop} (k : Same H H1) (a : Asked K v vi vj d di dj H E W) (h : W → W1) : Asked K v vi vj d di dj H1 E W1 :=
  ⟨a.r.mono k, a.li, a.few, a.ri.mono k, a.rj.mono k, fun e => (a.nf e).mono k, fun e1 e2 => (a.ni e1 e2).mono k, fun e1 e2 e3 => (a.nj e1 e2 e3).mono k, fun e1 e2 e3 => h (a.ok e1 e2 e3)⟩
theorem old_none {H H' : Hp} {l : Addr} (k : Same H H') (h : H' l = none) : H l = none := by
  cases e : H l with
  | none => rfl
  | some o => rw [k _ _ e] at h; cases h
section
variable {P : Program} {w : World} {K : PySem.W.Frag} {mg : Str → Option Value} {base : Heap} {f : Addr} {fd : FuncData}
theorem ok_shown (F : Fd K "shown_arrows" sShown f fd) (g : mg "shown_arrows" = some (.ref f)) (o_turned : Ok P w K mg base (L2N.CX P w) 7 "turned" sTurned ["founds", "i", "j"] (spTurned K)) :
    Ok P w K mg base (L2N.CX P w) 8 "shown_arrows" sShown ["founds", "i", "j"] (spShown K) := by
  refine ⟨f, fd, g, F, F.bindsN fun _ _ _ _ _ _ us hl => match us, hl with | [_, _, _], _ => rfl, F.ok scShown (fun vs H Q E h => ?_) (fun cdv A outer s H vs Q E hr h => ?_)⟩
  · obtain ⟨v, vi, vj, d, di, dj, rfl, _⟩ := h
    rfl
  · have tk : L2N.Takes (cxOf (L2N.CX P w) P w K mg base ["founds", "i", "j", "shown", "a", "b"] "shown_arrows" (defScope sShown) f cdv A outer s H E) (fun cls d _ H => E cls d H) := L2N.takes_of rfl rfl rfl rfl
    have hu : (cxOf (L2N.CX P w) P w K mg base ["founds", "i", "j", "shown", "a", "b"] "shown_arrows" (defScope sShown) f cdv A outer s H E).A.units + 1 < cLine := by
      have z := hr.un
      show (A.deeper _).units + 1 < cLine
      omega
    refine ⟨_, (pss_cons (ps_set (i := 3) scShown.nd rfl (Or.inl rfl) pe_dnewT)
      (pss_cons (ps_for (passes_of rfl) rfl (pi_list (pe_oS o_turned (hr.mono (by decide)) (by rfl) (fun σ => L2N.passAt tk σ) (pa_cons (pv 0) (pa_cons (pv 1) (pa_cons (pv 2) pa_nil))))) (pg_tup rfl (pgs_cons (pg_name (i := 4) scShown.nd rfl (Or.inl rfl)) (pgs_cons (pg_name (i := 5) scShown.nd rfl (Or.inl rfl)) pgs_nil)))
        (pss_one (ps_expr (pe_setdT hu (pv 3) (pe_tup (pa_cons (pe_ix ix_seq (pv 4) pe_int fun _ _ => rfl) (pa_cons (pe_ix ix_seq (pv 5) pe_int fun _ _ => rfl) pa_nil))) (pe_tup (pa_cons (pv 4) (pa_cons (pv 5) pa_nil))) ⟨rfl, rfl, rfl, rfl⟩))))
      (pss_one (ps_ret (pv 3))))), ?_⟩
    obtain ⟨v, vi, vj, d, di, dj, rfl, l64, a⟩ := h
    refine fun D hD => ?_
    have k1 : Same H (upd H D (.dT [])) := upd_grow hD
    dsimp only [gName]
    refine ⟨_, rfl, _, rfl, _, rfl, v, vi, vj, d, di, dj, rfl, a.mono k1 fun fin l zs H2 k2 hl h2 rz => ?_⟩
    have ln : (turnedF d di dj).length ≤ 4096 := turnedL_len l64
    have lz := rdds_len rz
    rw [List.length_map] at lz
    have hD2 := k2 _ _ (upd_same (H := H) (a := D) (o := .dT []))
    have hlD : l ≠ D := fun e => by rw [e, hD2] at h2; cases h2
    generalize turnedF d di dj = ps at rz ln lz fin
    refine ⟨l, rfl, ⟨zs, SqL.of h2⟩, ?_⟩
    refine for_it walk_list (fun i σ H' => But D H2 H' ∧ ∃ kvs x y, H' D = some (.dT kvs) ∧ kvs.map (·.1) = (arrowsOf (ps.take i)).map kArr ∧ σ = [some v, some vi, some vj, some (.ref D), x, y]) ⟨fun b o _ e => e, [], none, none, hD2, rfl, rfl⟩ (fun i σ H' _ h => SqL.of (h.1 _ _ hlD h2)) ?_ ?_
    · rintro i x σ H3 H4 hi ⟨k3, kvs, x1, y1, h3, ek, rfl⟩ ⟨rfl, hx⟩
      have hil : i < ps.length := by omega
      have el := List.getElem?_eq_getElem hil
      have et := List.take_succ_eq_append_getElem hil
      generalize ps[i] = pr at el et
      obtain ⟨x', hx', rx⟩ := rdds_get rz (show (ps.map dPair)[i]? = some (dPair pr) by rw [List.getElem?_map, el]; rfl)
      rw [hx] at hx'
      obtain rfl : x = x' := Option.some.inj hx'
      obtain ⟨t, pa, pb, rfl, ht, ha, hb⟩ := pair_at rx
      have ne : ∀ {b : Addr} {ys : List V}, H2 b = some (.tup ys) → b ≠ D := fun {b ys} h z => by rw [z, hD2] at h; cases h
      have ht3 := k3 _ _ (ne ht) ht
      have ha3 := k3 _ _ (ne ha) ha
      have hb3 := k3 _ _ (ne hb) hb
      refine ⟨_, _, rfl, SqT.of ht3, rfl, _, _, rfl, _, _, rfl, rfl, ?_⟩
      refine ⟨_, rfl, D, rfl, .inr ⟨kvs, .inl h3⟩, ?_⟩
      have n3 : ∀ {b o}, H4 b = some o → ∀ {c}, H4 c = none → b ≠ c := fun {b o} e {c} z y => by rw [y, z] at e; cases e
      refine ⟨_, rfl, ixTup (SqT.of ha3) rfl ⟨_, rfl, ixTup (SqT.of hb3) rfl ⟨two_ln (by show 2 ≤ _; decide), fun t1 ht1 => ⟨_, rfl, _, rfl, two_ln (by show 2 ≤ _; decide), fun t2 ht2 => ?_⟩⟩⟩⟩
      have ht2' : H4 t2 = none := old_none (upd_grow ht1) ht2
      have h12 : t1 ≠ t2 := fun z => by rw [← z, upd_same] at ht2; cases ht2
      have kb : But D H2 (upd (upd H4 t1 (.tup [.str pr.1.1, .str pr.2.1])) t2 (.tup [.ref pa, .ref pb])) := fun b o nb e => by
        have z := k3 b o nb e
        rw [upd_ne (n3 z ht2'), upd_ne (n3 z ht1)]
        exact z
      have hDn : (upd (upd H4 t1 (.tup [.str pr.1.1, .str pr.2.1])) t2 (.tup [.ref pa, .ref pb])) D = some (.dT kvs) := by
        rw [upd_ne (n3 h3 ht2'), upd_ne (n3 h3 ht1)]
        exact h3
      have lk : kvs.length < 5000 := by
        have z := congrArg List.length ek
        rw [List.length_map, List.length_map] at z
        have y := arrowsOf_len (ps.take i)
        rw [List.length_take] at y
        omega
      have ea := arrowsOf_snoc (ps.take i) pr
      rw [← et] at ea
      refine ⟨kvs, kArr (owns pr), t1, hDn, rfl, by rw [upd_ne h12, upd_same]; rfl, lt_ln (by omega), fun v0 ev => ?_, fun ev => ?_⟩
      · refine ⟨kb, kvs, _, _, hDn, ?_, rfl⟩
        have m : owns pr ∈ arrowsOf (ps.take i) := by
          rw [← mem_kArr, ← ek]
          by_cases c : kArr (owns pr) ∈ kvs.map (·.1)
          · exact c
          · rw [val_none.mpr c] at ev
            cases ev
        rw [ea, addA, if_pos m]
        exact ek
      · have out := val_none.mp ev
        have m : owns pr ∉ arrowsOf (ps.take i) := fun z => out (by rw [ek]; exact mem_kArr.mpr z)
        refine ⟨fun b o nb e => by rw [upd_ne nb]; exact kb b o nb e, _, _, _, upd_same, ?_, rfl⟩
        rw [put_new out, List.map_append, ek, ea, addA, if_neg m, List.map_append]
        rfl
    · rintro σ H3 ⟨k3, kvs, x1, y1, h3, ek, rfl⟩
      rw [lz, List.take_length] at ek
      refine ⟨_, rfl, fin D kvs H3 (fun b o e => ?_) hD h3 ek⟩
      exact k3 _ _ (ne_of_none e hD) (k2 _ _ (k1 _ _ e))
theorem ok_arrows (F : Fd K "arrows" sArrows f fd) (g : mg "arrows" = some (.ref f)) (B : Bl mg) (o_shown_arrows : Ok P w K mg base (L2N.CX P w) 8 "shown_arrows" sShown ["founds", "i", "j"] (spShown K)) :
    Ok P w K mg base (L2N.CX P w) 9 "arrows" sArrows ["founds", "i", "j"] (spArrows K) := by
  refine ⟨f, fd, g, F, F.bindsN fun _ _ _ _ _ _ us hl => match us, hl with | [_, _, _], _ => rfl, F.ok scArrows (fun vs H Q E h => ?_) (fun cdv A outer s H vs Q E hr h => ?_)⟩
  · obtain ⟨v, vi, vj, d, di, dj, rfl, _⟩ := h
    rfl
  · have tk : L2N.Takes (cxOf (L2N.CX P w) P w K mg base ["founds", "i", "j"] "arrows" (defScope sArrows) f cdv A outer s H E) (fun cls d _ H => E cls d H) := L2N.takes_of rfl rfl rfl rfl
    have hu64 : (cxOf (L2N.CX P w) P w K mg base ["founds", "i", "j"] "arrows" (defScope sArrows) f cdv A outer s H E).A.units + 64 < cLine := by
      have z := hr.un
      show (A.deeper _).units + 64 < cLine
      omega
    refine ⟨_, (pss_one (ps_ret (pe_callB (call_sortedDE dArr kArr (fun _ => rfl) arr_alike arr_tup arr_deep hu64 rfl) (by rfl) (B.u "sorted" (by decide +kernel)) (by decide +kernel) (pa_cons (pe_oS o_shown_arrows (hr.mono (by decide)) (by rfl) (fun σ => L2N.passAt tk σ) (pa_cons (pv 0) (pa_cons (pv 1) (pa_cons (pv 2) pa_nil)))) pa_nil)))), ?_⟩
    obtain ⟨v, vi, vj, d, di, dj, rfl, l64, a⟩ := h
    refine ⟨_, rfl, _, rfl, _, rfl, v, vi, vj, d, di, dj, rfl, l64, a.mono (Same.refl H) fun fin l kvs H1 k1 hl h1 ek => ?_⟩
    have lk : kvs.length < 5000 := by
      have z := congrArg List.length ek
      rw [List.length_map, List.length_map] at z
      have y := arrowsOf_len (turnedF d di dj)
      have x : (turnedF d di dj).length ≤ 4096 := turnedL_len l64
      omega
    exact ⟨l, kvs, arrowsOf (turnedF d di dj), rfl, .inl h1, lk, ek, fun p ys rys hp => fin p ys _ (k1.trans (upd_grow hp)) (old_none k1 hp) upd_same (rys.mono (upd_grow hp))⟩
end
end K10

namespace K10
open PySem PySem.Spec PyProof.Rows L2 Tn TL
abbrev sLTurned : Stmt := top 36
theorem scLTurned : FnScope ["founds", "i", "j", "here", "there", "spot", "found", "k", "both", "line"] ["founds", "i", "j"] (defScope sLTurned) := ⟨rfl, rfl, rfl, by decide +kernel, rfl, by decide +kernel, by decide +kernel⟩
/-- an item of founds, its lines a list or a tuple -/
def FRow (H : Hp) (f : Fnd) (y : V) : Prop := ∃ (t q : Addr) (ys : List V), y = .ref t ∧ H t = some (.tup [ownV f.1, .ref q]) ∧ RowAt H q ys ∧ LinesAt H f.2 ys
theorem FRow.same {H H' : Hp} (k : Same H H') {f : Fnd} {y : V} (h : FRow H f y) : FRow H' f y := by
  obtain ⟨t, q, ys, e, h1, h2, la⟩ := h
  exact ⟨t, q, ys, e, k _ _ h1, h2.mono k, la.keep (KeepT.same k)⟩
theorem FAt.row {M : List Addr} {H : Hp} {f : Fnd} {y : V} (h : FAt M H f y) : FRow H f y := by
  obtain ⟨t, q, ys, e, _, h1, _, h2, la⟩ := h
  exact ⟨t, q, ys, e, h1, .inl h2, la⟩
abbrev lin (fs : List Fnd) (i : Nat) : List Line := (fs.getD i (none, [])).2
/-- a pair of lines as tuples -/
def PairAt (H : Hp) (p : Line × Line) (y : V) : Prop := ∃ t a b, y = V.ref t ∧ H t = some (.tup [.ref a, .ref b]) ∧ H a = some (.tup ((kLine p.1).map kV)) ∧ H b = some (.tup ((kLine p.2).map kV))
theorem PairAt.keep {H H' : Hp} {p : Line × Line} {y : V} (k : KeepT H H') (h : PairAt H p y) : PairAt H' p y := by
  obtain ⟨t, a, b, e, h1, h2, h3⟩ := h
  exact ⟨t, a, b, e, k _ _ h1, k _ _ h2, k _ _ h3⟩
theorem PairAt.rdd {H : Hp} {p : Line × Line} {y : V} (h : PairAt H p y) : Rdd H y (dPair p) := by
  obtain ⟨t, a, b, rfl, h1, h2, h3⟩ := h
  exact .tup h1 (.cons (tup_line h2) (.cons (tup_line h3) .nil))
theorem all2_drop {α β : Type} {R : α → β → Prop} : ∀ {as : List α} {bs : List β} (n : Nat), All2 R as bs → All2 R (as.drop n) (bs.drop n)
  | _, _, 0, h => h
  | _, _, _ + 1, .nil => .nil
  | _, _, n + 1, .cons _ t => all2_drop n t
theorem all2_map {α β γ : Type} {R : β → γ → Prop} {f : α → β} : ∀ {as : List α} {bs : List γ}, All2 (fun a y => R (f a) y) as bs → All2 R (as.map f) bs
  | _, _, .nil => .nil
  | _, _, .cons r t => .cons r (all2_map t)
def spLTurned : Sp := fun vs H Q _ => ∃ (l : Addr) (xs : List V) (fs : List Fnd) (i j : Nat), vs = [.ref l, .int i, .int j] ∧ RowAt H l xs ∧ All2 (FRow H) fs xs ∧ i < fs.length ∧ j < fs.length ∧ FsOk fs ∧
  ∀ r zs H', Same H H' → H r = none → H' r = some (.lst zs) → RddAll H' zs ((turnedL (lin fs i) (lin fs j)).map dPair) → Q (.ref r) H'
section
variable {P : Program} {w : World} {K : PySem.W.Frag} {mg : Str → Option Value} {base : Heap} {f : Addr} {fd : FuncData}
theorem ok_lturned (F : Fd K "_law_turned" sLTurned f fd) (g : mg "_law_turned" = some (.ref f)) (B : Bl mg) : Ok P w K mg base CX0 1 "_law_turned" sLTurned ["founds", "i", "j"] spLTurned := by
  refine ⟨f, fd, g, F, F.bindsN fun _ _ _ _ _ _ us hl => match us, hl with | [_, _, _], _ => rfl, F.ok scLTurned (fun vs H Q E h => ?_) (fun cdv A outer s H vs Q E hr h => ?_)⟩
  · obtain ⟨l, xs, fs, i, j, rfl, _⟩ := h
    rfl
  · have hu64 : (cxOf CX0 P w K mg base ["founds", "i", "j", "here", "there", "spot", "found", "k", "both", "line"] "_law_turned" (defScope sLTurned) f cdv A outer s H E).A.units + 64 < cLine := by
      have z := hr.un
      show (A.deeper _).units + 64 < cLine
      omega
    have hu : (cxOf CX0 P w K mg base ["founds", "i", "j", "here", "there", "spot", "found", "k", "both", "line"] "_law_turned" (defScope sLTurned) f cdv A outer s H E).A.units + 1 < cLine := by omega
    refine ⟨_, (pss_cons (ps_asg (pe_tup (pa_cons (pe_ix ix_seq (pe_ix ix_seq (pv 0) (pv 1) fun _ _ => rfl) pe_int fun _ _ => rfl) (pa_cons (pe_ix ix_seq (pe_ix ix_seq (pv 0) (pv 2) fun _ _ => rfl) pe_int fun _ _ => rfl) (pa_cons pe_dnewT (pa_cons (pe_lst pa_nil) pa_nil))))) (pg_tup rfl (pgs_cons (pg_name (i := 3) scLTurned.nd rfl (Or.inl rfl)) (pgs_cons (pg_name (i := 4) scLTurned.nd rfl (Or.inl rfl)) (pgs_cons (pg_name (i := 5) scLTurned.nd rfl (Or.inr rfl)) (pgs_cons (pg_name (i := 6) scLTurned.nd rfl (Or.inl rfl)) pgs_nil))))))
      (pss_cons (ps_for (passes_of rfl) rfl (pi_range1 (by rfl) (B.u "range" (by decide +kernel)) (pa_cons (pe_callB call_len (by rfl) (B.u "len" (by decide +kernel)) boot_len (pa_cons (pv 4) pa_nil)) pa_nil)) (pg_name (i := 7) scLTurned.nd rfl (Or.inr rfl))
        (pss_one (ps_dput hu (pv 5) (pe_ix ix_seq (pv 4) (pv 7) fun _ _ => rfl) (pv 7) rfl)))
      (pss_cons (ps_set (i := 8) scLTurned.nd rfl (Or.inr rfl) (pe_lc (own := [("line", 9)]) (g := gName 9) rfl scLTurned.nd (pi_seq (pv 3)) (blkOk_by (N := ["founds", "i", "j", "here", "there", "spot", "found", "k", "both", "line"]) (sc := defScope sLTurned) (by decide +kernel)) (fun _ _ _ _ _ => (pg_name (i := 9) scLTurned.nd rfl (Or.inl rfl))) (fun _ _ _ _ _ => (pts_one (pt_cmp (pc_din hu (pv 9) (pv 5))))) (fun _ _ _ _ _ => (pv 9))))
      (pss_cons (ps_for (passes_of rfl) rfl (pi_range1 (by rfl) (B.u "range" (by decide +kernel)) (pa_cons (pe_callB call_len (by rfl) (B.u "len" (by decide +kernel)) boot_len (pa_cons (pv 8) pa_nil)) pa_nil)) (pg_name (i := 7) scLTurned.nd rfl (Or.inr rfl))
        (pss_one (ps_expr (pe_bm PySem.F.plainAttrs_list PySem.F.slot_list_extend PySem.F.type_list_extend mt_extend (pv 6) (pa_cons (pe_lc (own := [("line", 9)]) (g := gName 9) rfl scLTurned.nd (pi_list (pe_slice sl_list (pv 8) (po_some (pe_op op_add (pv 7) pe_int)) po_none)) (blkOk_by (N := ["founds", "i", "j", "here", "there", "spot", "found", "k", "both", "line"]) (sc := defScope sLTurned) (by decide +kernel)) (fun _ _ _ _ _ => (pg_name (i := 9) scLTurned.nd rfl (Or.inl rfl))) (fun _ _ _ _ _ => (pts_one (pt_cmpR op_lt (pe_dget hu (pv 5) (pv 9) (fun _ _ => rfl)) (pe_dget hu (pv 5) (pe_ix (r := rIx K) ix_seq (pv 8) (pv 7) fun _ _ => rfl) (fun _ _ => rfl)) (nomark _)))) (fun _ _ _ _ _ => (pe_tup (pa_cons (pe_ix (r := rIx K) ix_seq (pv 8) (pv 7) fun _ _ => rfl) (pa_cons (pv 9) pa_nil))))) pa_nil)))))
      (pss_one (ps_ret (pe_callB (call_sortedE dPair pair_alike pair_tup pair_deep hu64) (by rfl) (B.u "sorted" (by decide +kernel)) (by decide +kernel) (pa_cons (pv 6) pa_nil)))))))), ?_⟩
    obtain ⟨l, xs, fs, i, j, rfl, hl, fx, li, lj, ok, fin⟩ := h
    have ei := List.getElem?_eq_getElem li
    have ej := List.getElem?_eq_getElem lj
    have oki := ok.lin _ (List.getElem_mem li)
    have okj := ok.lin _ (List.getElem_mem lj)
    have eli : lin fs i = (fs[i]).2 := by unfold lin; rw [List.getD_eq_getElem?_getD, ei]; rfl
    have elj : lin fs j = (fs[j]).2 := by unfold lin; rw [List.getD_eq_getElem?_getD, ej]; rfl
    rw [eli, elj] at fin
    obtain ⟨yi, hyi, ti, qi, ysi, rfl, hti, rqi, lai⟩ := All2.get fx ei
    obtain ⟨yj, hyj, tj, qj, ysj, rfl, htj, rqj, laj⟩ := All2.get fx ej
    generalize (fs[i]).2 = la at oki lai fin
    generalize (fs[j]).2 = lb at okj laj fin
    obtain ⟨-, -, la40⟩ := oki
    obtain ⟨-, nd, lb40⟩ := okj
    have lya := lai.len
    have lyb := laj.len
    refine ⟨_, rfl, _, rfl, hl.ix (atI_nat hyi) (ixTup (SqT.of hti) rfl ⟨_, rfl, _, rfl, hl.ix (atI_nat hyj) (ixTup (SqT.of htj) rfl fun D hD => ?_)⟩)⟩
    have k_D := upd_grow (o := .dT []) hD
    have h_D := upd_same (H := H) (a := D) (o := .dT [])
    generalize upd H D (.dT []) = HA at k_D h_D ⊢
    refine ⟨two_ln (by decide), fun Fo hFo => ?_⟩
    have k_Fo := upd_grow (o := .lst []) hFo
    have h_Fo := upd_same (H := HA) (a := Fo) (o := .lst [])
    generalize upd HA Fo (.lst []) = HB at k_Fo h_Fo ⊢
    refine ⟨two_ln (by show 4 ≤ _; decide), fun T hT => ?_⟩
    have k_T := upd_grow (o := .tup [.ref qi, .ref qj, .ref D, .ref Fo]) hT
    have h_T := upd_same (H := HB) (a := T) (o := .tup [.ref qi, .ref qj, .ref D, .ref Fo])
    generalize upd HB T (.tup [.ref qi, .ref qj, .ref D, .ref Fo]) = HC at k_T h_T ⊢
    refine ⟨T, _, rfl, SqT.of h_T, rfl, _, _, rfl, _, _, rfl, _, _, rfl, _, _, rfl, rfl, ?_⟩
    have kC : Same H HC := k_D.trans (k_Fo.trans k_T)
    have hDC := k_T _ _ (k_Fo _ _ h_D)
    have hFC := k_T _ _ h_Fo
    have nDF : D ≠ Fo := fun e => by rw [← e, h_D] at hFo; cases hFo
    have oFo : H Fo = none := old_none k_D hFo
    have laC := lai.keep (KeepT.same kC)
    have lbC := laj.keep (KeepT.same kC)
    have rqiC := rqi.mono kC
    have rqjC := rqj.mono kC
    dsimp only [gName]
    refine ⟨_, rfl, _, _, rfl, rqjC.len, _, rfl, by omega, by omega, ?_⟩
    refine for_range (n := ysj.length) (fun m σ H' => But D HC H' ∧ H' D = some (.dT (plc (lb.take m))) ∧ ∃ a7 : Option V, σ = [some (.ref l), some (.int i), some (.int j), some (.ref qi), some (.ref qj), some (.ref D), some (.ref Fo), a7, none, none]) ⟨fun b o _ e => e, hDC, none, rfl⟩ ?_ ?_
    · rintro m σ H1 hm ⟨k1, h1, a7, rfl⟩
      have em := List.getElem?_eq_getElem (show m < lb.length by omega)
      have et := List.take_succ_eq_append_getElem (show m < lb.length by omega)
      generalize lb[m] = lm at em et
      obtain ⟨y, hy, a, rfl, ha⟩ := All2.get lbC em
      have nq : qj ≠ D := fun e => by rcases rqjC with z | z <;> (rw [e, hDC] at z; cases z)
      have na : a ≠ D := fun e => by rw [e, hDC] at ha; cases ha
      have rq1 : RowAt H1 qj ysj := rqjC.imp (k1 _ _ nq) (k1 _ _ nq)
      have z0 : (0 : Int) + m = ((m : Nat) : Int) := by omega
      dsimp only [gName]
      rw [show V.int ((0 : Int) + m) = V.int ((m : Nat) : Int) from congrArg V.int z0]
      refine ⟨_, rfl, _, rfl, _, rfl, _, rfl, rq1.ix (atI_nat hy) ⟨D, _, rfl, DPut.t (k := kLine lm) h1 (k1 _ _ na ha) (lt_ln (by rw [plc_len, List.length_take]; omega)), ?_⟩⟩
      refine ⟨fun b o nb e => by rw [upd_ne nb]; exact k1 b o nb e, ?_, _, rfl⟩
      have out : lm ∉ lb.take m := by
        have z := nd.sublist (List.take_sublist (m + 1) lb)
        rw [et, List.nodup_append] at z
        exact fun mm => z.2.2 lm mm lm (List.mem_singleton.mpr rfl) rfl
      have z := plc_put out
      rw [List.length_take, Nat.min_eq_left (by omega), ← et] at z
      rw [z, upd_same]
    · rintro σ H1 ⟨k1, h1, a7, rfl⟩
      rw [lyb, List.take_length] at h1
      have nq : qi ≠ D := fun e => by rcases rqiC with z | z <;> (rw [e, hDC] at z; cases z)
      have ntD : ∀ {a : Addr} {ys : List V}, HC a = some (.tup ys) → a ≠ D := fun {a ys} h e => by rw [e, hDC] at h; cases h
      have kt1 : KeepT HC H1 := fun a ys h => k1 _ _ (ntD h) h
      have la1 := laC.keep kt1
      have rq1 : RowAt H1 qi ysi := rqiC.imp (k1 _ _ nq) (k1 _ _ nq)
      have hF1 := k1 _ _ nDF.symm hFC
      refine ⟨_, rfl, qi, ysi, rfl, rq1.sq, fun J w D2 hD2 => ?_⟩
      refine lc_as w (as := la) lya.symm (fun x => decide (x ∈ lb)) (fun x y H' => ∃ a, y = V.ref a ∧ H' a = some (HO.tup ((kLine x).map kV))) (fun d y H1 H2 k r => r.imp fun a z => ⟨z.1, k _ _ z.2⟩) hD2 (by omega) (fun H' k => ?_) ?_ ?_
      · rcases rq1 with z | z
        · rw [z, del_sub k _ _ z]
        · rw [z, del_sub k _ _ z]
      · rintro m x v H2 H3 K1 N1 ex k2 ⟨zs, hzs⟩ ⟨rfl, hv⟩ hK hN
        obtain ⟨y, hy, a, rfl, ha⟩ := All2.get la1 ex
        rw [hy] at hv
        obtain rfl := Option.some.inj hv
        have kk := del_sub k2
        refine ⟨rfl, _, rfl, _, rfl, D, _, rfl, DGet.t (kk _ _ h1) (kk _ _ ha), ?_⟩
        have ev : (valV (plc lb) (kLine x)).isSome = decide (x ∈ lb) := by
          rw [plc_val]
          by_cases m : x ∈ lb
          · rw [if_pos m, decide_eq_true m] <;> rfl
          · rw [if_neg m, decide_eq_false m] <;> rfl
        refine ⟨_, rfl, ?_⟩
        rw [ev]
        exact iteB (fun e => ⟨_, rfl, hK e _ _ (Same.refl _) ⟨a, rfl, k2 _ _ ha⟩⟩) fun e => hN e _ (Same.refl _)
      · intro zs H2 k2 h2 r2
        have kk := del_sub k2
        have ls2 : LinesAt H2 (shared la lb) zs := r2.imp fun x y ⟨a, e, z⟩ => ⟨a, e, del_le _ _ z⟩
        have lz := ls2.len
        have fs' : (shared la lb).length ≤ 40 := Nat.le_trans (List.length_filter_le _ _) la40
        have hD2' := kk _ _ h1
        have hF2 := kk _ _ hF1
        have inl : ∀ {m : Nat} {b : Line}, (shared la lb)[m]? = some b → b ∈ lb := fun {m b} e => of_decide_eq_true (List.mem_filter.mp (List.mem_of_getElem? e)).2
        have k02 : Same H H2 := fun b o e => kk _ _ (k1 _ _ (ne_of_none e hD) (kC _ _ e))
        have etl : turnedL la lb = (pairsTo (shared la lb) lb (shared la lb).length).mergeSort (PySem.W.dataLe false dPair) := rfl
        rw [etl] at fin
        generalize shared la lb = sh at ls2 lz fs' fin inl
        dsimp only [gName]
        refine ⟨_, rfl, _, _, rfl, .inl ⟨_, SqL.of h2, rfl⟩, _, rfl, by omega, by omega, ?_⟩
        refine for_range (n := zs.length) (fun m σ H' => But Fo H2 H' ∧ ∃ (acc : List V) (a7 : Option V), H' Fo = some (.lst acc) ∧ All2 (PairAt H') (pairsTo sh lb m) acc ∧
          σ = [some (.ref l), some (.int i), some (.int j), some (.ref qi), some (.ref qj), some (.ref D), some (.ref Fo), a7, some (.ref D2), none]) ⟨fun b o _ e => e, [], a7, hF2, .nil, rfl⟩ ?_ ?_
        · rintro m σ H3 hm ⟨k3, acc, b7, h3, pa, rfl⟩
          have nDF2 : D2 ≠ Fo := fun e => by rw [e, hF1] at hD2; cases hD2
          have h23 := k3 _ _ nDF2 h2
          have hD3 := k3 _ _ nDF hD2'
          have ntF : KeepT H2 H3 := fun a ys h => k3 _ _ (fun e => by rw [e, hF2] at h; cases h) h
          have ls3 := ls2.keep ntF
          have hml : m < sh.length := by omega
          have el := List.getElem?_eq_getElem hml
          generalize sh[m] = lm at el
          obtain ⟨ym, hym, am, rfl, ham⟩ := All2.get ls3 el
          have z0 : (0 : Int) + m = ((m : Nat) : Int) := by omega
          have z1 : ((m : Nat) : Int) + 1 = ((m + 1 : Nat) : Int) := by omega
          dsimp only [gName]
          rw [show V.int ((0 : Int) + m) = V.int ((m : Nat) : Int) from congrArg V.int z0]
          refine ⟨_, rfl, .inl ⟨rfl, _, SqL.of h3⟩, _, rfl, _, rfl, _, _, rfl, rfl, _, rfl, D2, zs, rfl, SqL.of h23, fun L hL => ?_⟩
          rw [z1, cut_a0]
          have k_L := upd_grow (o := .lst (zs.drop (m + 1))) hL
          have h_L := upd_same (H := H3) (a := L) (o := .lst (zs.drop (m + 1)))
          generalize upd H3 L (.lst (zs.drop (m + 1))) = H4 at k_L h_L ⊢
          have ls4 := ls3.keep (KeepT.same k_L)
          refine ⟨L, rfl, ⟨_, SqL.of h_L⟩, fun E3 hE3 => ?_⟩
          refine lc_as (walk_list (xs := zs.drop (m + 1))) (as := sh.drop (m + 1)) (by rw [List.length_drop, List.length_drop, lz]) (fun b => decide (lb.idxOf b < lb.idxOf lm)) (fun b y H' => PairAt H' (lm, b) y) (fun b y H1 H2 k r => r.keep (KeepT.same k)) hE3 (by rw [List.length_drop]; omega) (fun H' k => SqL.of (del_sub k _ _ h_L)) ?_ ?_
          · rintro n b v H5 H6 K1 N1 eb k5 ⟨us, hus⟩ ⟨rfl, hv⟩ hK hN
            have kk := del_sub k5
            obtain ⟨yb, hyb, ab, rfl, hab⟩ := All2.get (all2_drop (m + 1) ls4) eb
            rw [hyb] at hv
            obtain rfl := Option.some.inj hv
            rw [List.getElem?_drop] at eb
            have hD5 := kk _ _ (k_L _ _ hD3)
            have ham5 := kk _ _ (k_L _ _ ham)
            have hab5 := kk _ _ hab
            have h25 := kk _ _ (k_L _ _ h23)
            have g1 := DGet.t hD5 hab5
            rw [plc_val, if_pos (inl eb)] at g1
            have g2 := DGet.t hD5 ham5
            rw [plc_val, if_pos (inl el)] at g2
            have at_ : atI zs ((m : Nat) : Int) = some (V.ref am) := atI_nat hym
            refine ⟨rfl, _, rfl, _, rfl, D, _, rfl, g1, _, rfl, _, rfl, _, rfl, ixAt h25 at_ ⟨D, _, rfl, g2, _, _, rfl, rfl, _, rfl, ?_⟩⟩
            have edd : decide ((lb.idxOf b : Int) < (lb.idxOf lm : Int)) = decide (lb.idxOf b < lb.idxOf lm) := decide_eq_decide.mpr (by omega)
            rw [edd]
            refine iteB (fun e => ?_) fun e => hN e _ (Same.refl _)
            refine ⟨_, rfl, _, rfl, ixAt h25 at_ ⟨_, rfl, two_ln (by show 2 ≤ _; decide), fun t ht => hK e _ _ (upd_grow ht) ?_⟩⟩
            have kt : KeepT (upd H6 t (.tup [.ref am, .ref ab])) (del (upd H6 t (.tup [.ref am, .ref ab])) E3) := KeepT.del (upd_grow ht _ _ hus)
            exact ⟨t, am, ab, rfl, kt _ _ upd_same, kt _ _ (upd_grow ht _ _ ham5), kt _ _ (upd_grow ht _ _ hab5)⟩
          · intro ys H5 k5 h5 r5
            have kk := del_sub k5
            have h35 := kk _ _ (k_L _ _ h3)
            have new : All2 (PairAt H5) (pairsAt sh lb m) ys := by
              unfold pairsAt
              rw [el]
              exact all2_map (R := PairAt H5) (f := fun b => (lm, b)) (r5.imp fun b y r => r.keep fun a us h => del_le _ _ h)
            have pa5 : All2 (PairAt H5) (pairsTo sh lb m) acc := pa.imp fun b y r => r.keep (KeepT.same (k_L.trans kk))
            have ln1 := new.len
            have ln2 := pa5.len
            have b1 := pairsAt_len sh lb m
            have b2 := pairsTo_len sh lb m
            have b3 : m * sh.length ≤ 40 * 40 := Nat.mul_le_mul (by omega) (by omega)
            refine ⟨Fo, E3, acc, ys, rfl, rfl, h35, h5, two_ln (by omega), fun b o nb e => ?_, acc ++ ys, _, upd_same, ?_, rfl⟩
            · rw [upd_ne nb]
              exact kk _ _ (k_L _ _ (k3 _ _ nb e))
            · rw [pairsTo_succ]
              exact (new.app pa5).imp fun p y r => r.keep (KeepT.lst h35)
        · rintro σ H3 ⟨k3, acc, b7, h3, pa, rfl⟩
          rw [lz] at pa
          refine ⟨_, rfl, Fo, acc, pairsTo sh lb sh.length, rfl, SqL.of h3, All2.rdd (pa.imp fun p y r => r.rdd), fun ys r rys hr => ?_⟩
          have k03 : Same H H3 := fun b o e => k3 _ _ (ne_of_none e oFo) (k02 _ _ e)
          exact fin r ys _ (k03.trans (upd_grow hr)) (old_none k03 hr) upd_same (rys.mono (upd_grow hr))
end
end K10

namespace K10
open PySem PySem.Spec PyProof.Rows L2 Tn TL
abbrev sLArrows : Stmt := top 37
theorem scLArrows : FnScope ["pairs", "found", "a", "b"] ["pairs"] (defScope sLArrows) := ⟨rfl, rfl, rfl, by decide +kernel, rfl, by decide +kernel, by decide +kernel⟩
theorem turnedL_mem {la lb : List Line} {p : Line × Line} (m : p ∈ turnedL la lb) : p.1 ∈ la ∧ p.2 ∈ la := by
  unfold turnedL at m
  have m := (List.mergeSort_perm _ _).mem_iff.mp m
  unfold pairsTo at m
  obtain ⟨k, mk, m⟩ := List.mem_flatMap.mp m
  unfold pairsAt at m
  have sub : ∀ x ∈ shared la lb, x ∈ la := fun x h => (List.mem_filter.mp h).1
  cases e : (shared la lb)[k]? with
  | none => rw [e] at m; cases m
  | some a =>
    rw [e] at m
    obtain ⟨b, mb, rfl⟩ := List.mem_map.mp m
    exact ⟨sub _ (List.mem_of_getElem? e), sub _ (List.mem_of_mem_drop (List.mem_filter.mp mb).1)⟩
theorem pairs_of {H : Hp} {ps : List (Line × Line)} {xs : List V} (h : RddAll H xs (ps.map dPair)) : All2 (PairAt H) ps xs := (rdd_all2 h).imp fun p y r => pair_at r
def spLArrows : Sp := fun vs H Q _ => ∃ (l : Addr) (xs : List V) (ps : List (Line × Line)), vs = [.ref l] ∧ H l = some (.lst xs) ∧ RddAll H xs (ps.map dPair) ∧ (∀ p ∈ ps, lineS p.1 = true ∧ lineS p.2 = true) ∧ ps.length ≤ 4096 ∧
  ∀ r zs H', Same H H' → H r = none → H' r = some (.lst zs) → RddAll H' zs ((sortA (arrowsOf ps)).map dArr) → Q (.ref r) H'
section
variable {P : Program} {w : World} {K : PySem.W.Frag} {mg : Str → Option Value} {base : Heap} {f : Addr} {fd : FuncData}
theorem ok_larrows (F : Fd K "_law_arrows" sLArrows f fd) (g : mg "_law_arrows" = some (.ref f)) (B : Bl mg) : Ok P w K mg base CX0 1 "_law_arrows" sLArrows ["pairs"] spLArrows := by
  refine ⟨f, fd, g, F, F.bindsN fun _ _ _ _ _ _ us hl => match us, hl with | [_], _ => rfl, F.ok scLArrows (fun vs H Q E h => ?_) (fun cdv A outer s H vs Q E hr h => ?_)⟩
  · obtain ⟨l, xs, ps, rfl, _⟩ := h
    rfl
  · have hu64 : (cxOf CX0 P w K mg base ["pairs", "found", "a", "b"] "_law_arrows" (defScope sLArrows) f cdv A outer s H E).A.units + 64 < cLine := by
      have z := hr.un
      show (A.deeper _).units + 64 < cLine
      omega
    have hu5 : (cxOf CX0 P w K mg base ["pairs", "found", "a", "b"] "_law_arrows" (defScope sLArrows) f cdv A outer s H E).A.units + 65 < cLine := by
      have z := hr.un
      show (A.deeper _).units + 65 < cLine
      omega
    refine ⟨_, (pss_cons (ps_set (i := 1) scLArrows.nd rfl (Or.inl rfl) (pe_lst pa_nil))
      (pss_cons (ps_for (passes_of rfl) rfl (pi_list (pv 0)) (pg_tup rfl (pgs_cons (pg_name (i := 2) scLArrows.nd rfl (Or.inl rfl)) (pgs_cons (pg_name (i := 3) scLArrows.nd rfl (Or.inl rfl)) pgs_nil)))
        (pss_one (ps_if (pt_cmpR (op_notInD hu5) (pe_tup (pa_cons (pe_ix ix_seq (pv 2) pe_int fun _ _ => rfl) (pa_cons (pe_ix ix_seq (pv 3) pe_int fun _ _ => rfl) pa_nil))) (pv 1) (by rfl))
          (pss_one (ps_expr (pe_bm PySem.F.plainAttrs_list PySem.F.slot_list_append PySem.F.type_list_append mt_append (pv 1) (pa_cons (pe_tup (pa_cons (pe_ix ix_seq (pv 2) pe_int fun _ _ => rfl) (pa_cons (pe_ix ix_seq (pv 3) pe_int fun _ _ => rfl) pa_nil))) pa_nil))))
          pss_nil)))
      (pss_one (ps_ret (pe_callB (call_sortedE dArr arr_alike arr_tup arr_deep hu64) (by rfl) (B.u "sorted" (by decide +kernel)) (by decide +kernel) (pa_cons (pv 1) pa_nil)))))), ?_⟩
    obtain ⟨l, xs, ps, rfl, hl, rx, gp, l4, fin⟩ := h
    have pa := pairs_of rx
    have lx := pa.len
    refine ⟨two_ln (by decide), fun Fo hFo => ?_⟩
    have k_Fo := upd_grow (o := .lst []) hFo
    have h_Fo := upd_same (H := H) (a := Fo) (o := .lst [])
    generalize upd H Fo (.lst []) = H1 at k_Fo h_Fo ⊢
    dsimp only [gName]
    have hl1 := k_Fo _ _ hl
    have nlF : l ≠ Fo := ne_of_none hl hFo
    refine ⟨_, rfl, l, rfl, ⟨_, SqL.of hl1⟩, ?_⟩
    refine for_it walk_list (fun i σ H' => But Fo H1 H' ∧ ∃ (ws : List V) (a b : Option V), H' Fo = some (.lst ws) ∧ LinesAt H' (arrowsOf (ps.take i)) ws ∧ (∀ x ∈ arrowsOf (ps.take i), lineOk x) ∧ σ = [some (.ref l), some (.ref Fo), a, b]) ⟨fun b o _ e => e, [], none, none, h_Fo, .nil, (fun _ z => nomatch z), rfl⟩ (fun i σ H' _ h => SqL.of (h.1 _ _ nlF hl1)) ?_ ?_
    · rintro i x σ H2 H3 hi ⟨k2, ws, a, b, h2, la2, ok2, rfl⟩ ⟨rfl, hx⟩
      have hil : i < ps.length := by omega
      have el := List.getElem?_eq_getElem hil
      have et := List.take_succ_eq_append_getElem hil
      have gi := gp _ (List.getElem_mem hil)
      generalize ps[i] = pr at el et gi
      obtain ⟨y, hy, pt⟩ := All2.get pa el
      rw [hx] at hy
      obtain rfl := Option.some.inj hy
      have ktF : ∀ {a : Addr} {ys : List V}, H a = some (.tup ys) → H3 a = some (.tup ys) := fun {a ys} h => k2 _ _ (fun e => by rw [e, hFo] at h; cases h) (k_Fo _ _ h)
      obtain ⟨t, pa', pb, rfl, ht, ha, hb⟩ := pt
      have ha3 := ktF ha
      have hb3 := ktF hb
      refine ⟨_, _, rfl, SqT.of (ktF ht), rfl, _, _, rfl, _, _, rfl, rfl, ?_⟩
      have okA : lineOk (owns pr) := by
        have z1 := gi.1
        have z2 := gi.2
        unfold lineS at z1 z2
        rw [Bool.and_eq_true] at z1 z2
        exact ⟨name_ok z1.1, name_ok z2.1⟩
      have ea := arrowsOf_snoc (ps.take i) pr
      rw [← et] at ea
      have sl := lines_shaped ok2
      have lw : ws.length ≤ 4096 := by
        have z := la2.len
        have y := arrowsOf_len (ps.take i)
        rw [List.length_take] at y
        omega
      refine ⟨_, rfl, ixTup (SqT.of ha3) rfl ⟨_, rfl, ixTup (SqT.of hb3) rfl ⟨two_ln (by show 2 ≤ _; decide), fun t1 ht1 => ?_⟩⟩⟩
      have k4 : Same H3 (upd H3 t1 (.tup [.str pr.1.1, .str pr.2.1])) := upd_grow ht1
      have h4 := k4 _ _ h2
      have la4 := la2.keep (KeepT.same k4)
      have r4 : Rdd (upd H3 t1 (.tup [.str pr.1.1, .str pr.2.1])) (.ref t1) (dLine (owns pr)) := tup_line upd_same
      refine ⟨_, rfl, dLine (owns pr), (arrowsOf (ps.take i)).map dLine, r4.dp (shaped_lay (line_shaped okA)), (Rdd.lst h4 la4.rdd).dp (shaped_lay sl), line_shaped okA, sl, _, rfl, ?_⟩
      rw [lines_any]
      have kb4 : But Fo H1 (upd H3 t1 (.tup [.str pr.1.1, .str pr.2.1])) := k2.trans (.of k4)
      refine iteB (fun e => ?_) fun e => ?_
      · have e := of_decide_eq_false (not_t e)
        refine ⟨_, rfl, .inl ⟨rfl, _, SqL.of h4⟩, _, rfl, ixTup (SqT.of (k4 _ _ ha3)) rfl ⟨_, rfl, ixTup (SqT.of (k4 _ _ hb3)) rfl ⟨two_ln (by show 2 ≤ _; decide), fun t2 ht2 => ?_⟩⟩⟩
        have k5 : Same (upd H3 t1 (.tup [.str pr.1.1, .str pr.2.1])) (upd (upd H3 t1 (.tup [.str pr.1.1, .str pr.2.1])) t2 (.tup [.str pr.1.1, .str pr.2.1])) := upd_grow ht2
        have h5 := k5 _ _ h4
        refine ⟨Fo, ws, _, rfl, rfl, h5, lt_ln (by omega), fun b o nb e => by rw [upd_ne nb]; exact k5 _ _ (kb4 b o nb e), ws ++ [.ref t2], _, _, upd_same, ?_, ?_, rfl⟩
        · rw [ea, addA, if_neg e]
          have la6 : LinesAt (upd (upd H3 t1 (.tup [.str pr.1.1, .str pr.2.1])) t2 (.tup [.str pr.1.1, .str pr.2.1])) (arrowsOf (ps.take i) ++ [owns pr]) (ws ++ [.ref t2]) := All2.snoc ⟨t2, rfl, upd_same⟩ (la4.keep (KeepT.same k5))
          exact la6.keep (KeepT.lst h5)
        · rw [ea, addA, if_neg e]
          intro x m
          rcases List.mem_append.mp m with m | m
          · exact ok2 x m
          · rw [List.mem_singleton.mp m]
            exact okA
      · have e := of_decide_eq_true (not_f e)
        refine ⟨kb4, ws, _, _, h4, ?_, ?_, rfl⟩
        · rw [ea, addA, if_pos e]
          exact la4
        · rw [ea, addA, if_pos e]
          exact ok2
    · rintro σ H2 ⟨k2, ws, a, b, h2, la2, ok2, rfl⟩
      rw [lx, List.take_length] at la2
      have k02 : Same H H2 := fun b o e => k2 _ _ (ne_of_none e hFo) (k_Fo _ _ e)
      refine ⟨_, rfl, Fo, ws, arrowsOf ps, rfl, SqL.of h2, la2.rdd, fun ys r rys hr => ?_⟩
      exact fin r ys _ (k02.trans (upd_grow hr)) (old_none k02 hr) upd_same (rys.mono (upd_grow hr))
end
end K10

namespace K10
open PySem PySem.Spec PyProof.Rows L2 Tn TL
abbrev sSame : Stmt := top 38
theorem scSame : FnScope ["told", "due"] ["told", "due"] (defScope sSame) := ⟨rfl, rfl, rfl, by decide +kernel, rfl, by decide +kernel, by decide +kernel⟩
/-- fit to be compared and to be shown -/
structure Fit (d : PyData) : Prop where
  s : SeqAt.shaped d = true
  t : Tame d
theorem Fit.eqv {d : PyData} (f : Fit d) : PyData.eqv d d = true := SeqAt.eqv_refl d (shaped_lay f.s)
abbrev two (w : Str) (d : PyData) : PyData := .list [.str w, d]
theorem repr_of {H : Hp} {v : V} {d : PyData} (r : Rdd H v d) (f : Fit d) {Q : VK} (q : Q (.str d.shown) H) : rRepr [v] H Q := ⟨_, _, rfl, r, f.t.s, f.t.h, f.t.len, q⟩
theorem rdds_snoc {H : Hp} {y : V} {e : PyData} (r : Rdd H y e) : ∀ {xs : List V} {ds : List PyData}, RddAll H xs ds → RddAll H (xs ++ [y]) (ds ++ [e])
  | _, _, .nil => .cons r .nil
  | _, _, .cons q t => .cons q (rdds_snoc r t)
/-- isinstance of data -/
structure KitK (K : PySem.W.Frag) : Prop where
  tt : ∀ T ∈ tys, PySem.W.kitOne K (.type T) (.type "list") = some (decide (T = "list"))
def spSame : Sp := fun vs H Q _ => ∃ (t u : Addr) (w : Str) (v1 v2 : V) (d : PyData), vs = [.ref t, .ref u] ∧ H t = some (.lst [.str w, v1]) ∧ H u = some (.lst [.str w, v2]) ∧ Rdd H v1 d ∧ Rdd H v2 d ∧ Fit (two w d) ∧
  ((w = "told" ∨ tyd d ≠ "list") → ∀ H', Same H H' → Q (.bl true) H') ∧
  (w ≠ "told" → ∀ (a : Addr) (xs : List V) (ds : List PyData), d = .list ds → v2 = .ref a → H a = some (.lst xs) → v1 = .ref a ∧ a ≠ t ∧ a ≠ u ∧ RddAll (L2.del H a) xs ds ∧ Fit (two w (.list (ds ++ [.str "more"]))) ∧
    ∀ H', But a H H' → H' a = some (.lst (xs ++ [.str "more"])) → Q (.bl true) H')
section
variable {P : Program} {w : World} {K : PySem.W.Frag} {mg : Str → Option Value} {base : Heap} {f : Addr} {fd : FuncData}
theorem ok_same (F : Fd K "_law_same" sSame f fd) (g : mg "_law_same" = some (.ref f)) (B : Bl mg) (T : KitK K) (hsy : ∃ o, K.lookup sysModules = some o) : OkG P w K mg base 1 "_law_same" sSame ["told", "due"] spSame := by
  refine ⟨f, fd, g, F, F.bindsN fun _ _ _ _ _ _ us hl => match us, hl with | [_, _], _ => rfl, F.okG scSame (fun vs H Q E h => ?_) (fun cdv A outer s H vs Q hgd hr h => ?_)⟩
  · obtain ⟨t, u, w, v1, v2, d, rfl, _⟩ := h
    rfl
  · have hu : (cxOf CX0 P w K mg base ["told", "due"] "_law_same" (defScope sSame) f cdv A outer s H noE).A.units + 64 < cLine := by
      have z := hr.un
      show (A.deeper _).units + 64 < cLine
      omega
    refine ⟨_, (pss_cons (ps_if (pw_or (pt_cmpR (op_neD hu) (pv 0) (pv 1) (nomark _)) (pw_or1 (pt_cmpR op_ne (pe_callB (call_repr hgd hu hsy) (by rfl) (B.u "repr" (by decide +kernel)) (by decide +kernel) (pa_cons (pv 0) pa_nil)) (pe_callB (call_repr hgd hu hsy) (by rfl) (B.u "repr" (by decide +kernel)) (by decide +kernel) (pa_cons (pv 1) pa_nil)) (nomark _)))).pt
        (pss_one (ps_ret pe_bl))
        pss_nil)
      (pss_cons (ps_if (pw_and (pt_cmpR op_ne (pe_ix ix_seq (pv 1) pe_int fun _ _ => rfl) pe_str (nomark _)) (pw_and1 (pt_val (pe_callB call_isi (by rfl) (B.u "isinstance" (by decide +kernel)) boot_isinstance (pa_cons (pe_ix ix_seq (pv 1) pe_int fun _ _ => rfl) (pa_cons (pe_bltn (by rfl) (B.u "list" (by decide +kernel)) (by decide +kernel) (v := .ty "list") rfl) pa_nil)))))).pt
        (pss_one (ps_expr (pe_bm PySem.F.plainAttrs_list PySem.F.slot_list_append PySem.F.type_list_append mt_append (pe_ix ix_seq (pv 1) pe_int fun _ _ => rfl) (pa_cons pe_str pa_nil))))
        pss_nil)
      (pss_one (ps_ret (pe_cmpR op_eq (pe_callB (call_repr hgd hu hsy) (by rfl) (B.u "repr" (by decide +kernel)) (by decide +kernel) (pa_cons (pv 0) pa_nil)) (pe_callB (call_repr hgd hu hsy) (by rfl) (B.u "repr" (by decide +kernel)) (by decide +kernel) (pa_cons (pv 1) pa_nil)) (nomark _)))))), ?_⟩
    obtain ⟨t, u, w, v1, v2, d, rfl, ht, hu', r1, r2, fit, q1, q2⟩ := h
    have rt : Rdd H (.ref t) (two w d) := .lst ht (.cons (.str w) (.cons r1 .nil))
    have ru : Rdd H (.ref u) (two w d) := .lst hu' (.cons (.str w) (.cons r2 .nil))
    refine ⟨_, rfl, _, rfl, two w d, two w d, rt.dp (shaped_lay fit.s), ru.dp (shaped_lay fit.s), fit.s, fit.s, _, rfl, ?_⟩
    rw [fit.eqv]
    refine iteF ?_
    refine ⟨_, rfl, _, two w d, rfl, rt, fit.t.s, fit.t.h, fit.t.len, _, rfl, _, two w d, rfl, ru, fit.t.s, fit.t.h, fit.t.len, rfl, _, rfl, ?_⟩
    rw [show (!decide (V.str (two w d).shown = V.str (two w d).shown)) = false by simp]
    refine iteF ?_
    refine ⟨_, rfl, ixAt hu' rfl ⟨rfl, _, rfl, ?_⟩⟩
    have fin : ∀ {H' : Hp} {d' : PyData}, Rdd H' (.ref t) (two w d') → Rdd H' (.ref u) (two w d') → Fit (two w d') → Q (.bl true) H' → tRet (tOp rEq (tCB rRepr (tCons (tVar 0) tNil)) (tCB rRepr (tCons (tVar 1) tNil))) { nx := fun _ H' => Q V.non H', rt := Q } (L2.start ["told", "due"] [V.ref t, V.ref u]) H' := by
      intro H' d' r r' f' q
      refine ⟨_, rfl, _, two w d', rfl, r, f'.t.s, f'.t.h, f'.t.len, _, rfl, _, two w d', rfl, r', f'.t.s, f'.t.h, f'.t.len, rfl, ?_⟩
      rw [decide_eq_true rfl]
      exact q
    refine iteB (fun e => ?_) fun e => ?_
    · have nw : w ≠ "told" := fun z => by
        rw [z] at e
        simp at e
      refine ⟨_, rfl, ixAt hu' rfl ⟨_, _, _, _, _, rfl, .ty _, r2.tx, T.tt _ (tyd_mem d), _, rfl, iteB (fun e2 => ?_) fun e2 => ?_⟩⟩
      · have e2 := of_decide_eq_true e2
        cases r2 with
        | @lst a xs ds ha ra =>
          obtain ⟨rfl, nt, nu, rd, f2, q3⟩ := q2 nw a xs ds rfl rfl ha
          have ku : Same (L2.del H a) (upd H a (.lst (xs ++ [.str "more"]))) := del_upd
          have rr : Rdd (upd H a (.lst (xs ++ [.str "more"]))) (.ref a) (.list (ds ++ [.str "more"])) := by
            exact .lst upd_same (rdds_snoc (.str _) (rd.mono ku))
          have lx : xs.length < sizeLine := by
            have z := f2.t.w
            have y := rdds_len ra
            have x := wtAll_len (ds ++ [PyData.str "more"])
            unfold two at z
            simp only [wt, wtAll] at z
            rw [List.length_append] at x
            rw [sizeLine_eq]
            omega
          refine ⟨_, rfl, ixAt hu' rfl ⟨.inl ⟨rfl, _, SqL.of ha⟩, a, xs, _, rfl, rfl, ha, lx, ?_⟩⟩
          refine fin (d' := .list (ds ++ [.str "more"])) (.lst (by rw [upd_ne nt.symm]; exact ht) (.cons (.str w) (.cons rr .nil))) (.lst (by rw [upd_ne nu.symm]; exact hu') (.cons (.str w) (.cons rr .nil))) f2 (q3 _ But.upd upd_same)
        | _ => exact absurd e2 (by simp [tyd])
      · exact fin rt ru fit (q1 (.inr (of_decide_eq_false e2)) H (Same.refl H))
    · have ew : w = "told" := by
        by_cases z : w = "told"
        · exact z
        · simp [z] at e
      exact fin rt ru fit (q1 (.inl ew) H (Same.refl H))
end
end K10

namespace K10
open PySem PySem.Spec PyProof.Rows L2 Tn TL
abbrev sTold : Stmt := top 39
theorem scTold : FnScope ["founds", "i", "j", "door", "kind", "e"] ["founds", "i", "j", "door", "kind"] (defScope sTold) := ⟨rfl, rfl, rfl, by decide +kernel, rfl, by decide +kernel, by decide +kernel⟩
def pick (is : List Nat) {α : Type} (us ws : List α) : List α := is.filterMap fun i => (us ++ ws)[i]?
theorem vals_get : ∀ {xs : List V} {us : List Value} (i : Nat), Vals xs us → (xs[i]? = none ∧ us[i]? = none) ∨ ∃ x u, xs[i]? = some x ∧ us[i]? = some u ∧ RelV x u
  | _, _, _, .nil => .inl ⟨rfl, rfl⟩
  | _, _, 0, .cons r _ => .inr ⟨_, _, rfl, rfl, r⟩
  | _, _, i + 1, .cons _ t => by
    rw [List.getElem?_cons_succ, List.getElem?_cons_succ]
    exact vals_get i t
theorem pick_rel (is : List Nat) {vs zs : List V} {us ws : List Value} (r : Vals vs us) (q : Vals zs ws) : Vals (pick is vs zs) (pick is us ws) := by
  have a := rel_app r q
  unfold pick
  induction is with
  | nil => exact .nil
  | cons i is ih =>
    rw [List.filterMap_cons, List.filterMap_cons]
    rcases vals_get i a with ⟨h1, h2⟩ | ⟨x, u, h1, h2, h3⟩
    · rw [h1, h2]
      exact ih
    · rw [h1, h2]
      exact .cons h3 ih
/-- a class of errors as the clauses want it -/
structure ErrK (K : PySem.W.Frag) (mg : Str → Option Value) (x : Str) : Prop where
  g : mg x = some (.ref (He.ga K x))
  X : XfC K (He.ga K x)
/-- the clause for a class of one field -/
def Ts1 (K : PySem.W.Frag) (i : Nat) (C f t : Str) (a : Addr) (cls : Value) (d : Option Addr) : TS := fun D σ H => ∃ (v : V) (dd : Addr), σ[i]? = some (some (.ref a)) ∧ cls = .ref (He.ga K C) ∧ d = some dd ∧ H dd = some (.xd [(f, v)]) ∧
  ∀ p, H p = none → D.rt (.ref p) (upd H p (.lst [.str t, v]))
abbrev hdsT (K : PySem.W.Frag) : List (Value × Nat × (Addr → Value → Option Addr → TS)) := [(.ref (He.ga K "InvalidFounds"), 5, Ts1 K 5 "InvalidFounds" "given" "founds"), (.ref (He.ga K "InvalidIndex"), 5, Ts1 K 5 "InvalidIndex" "given" "index")]
abbrev twoC : List Str := ["InvalidFounds", "InvalidIndex"]
structure TwoE (K : PySem.W.Frag) (mg : Str → Option Value) : Prop where
  e : ∀ x ∈ twoC, ErrK K mg x
  m : ∀ x ∈ twoC, ∀ y ∈ twoC, PySem.W.exmOne K (.ref (He.ga K x)) (.ref (He.ga K y)) = some (decide (x = y))
  f : ∀ x ∈ twoC, PySem.W.findIn K (.ref (He.ga K x)) "given" = some none
theorem wNo {K : PySem.W.Frag} {x y : Str} {i : Nat} {ts : Addr → Value → Option Addr → TS} {W : WX} {D : Ends} {d : Option Addr} {σ : L2.St} {H : Hp} (h : PySem.W.exmOne K (.ref (He.ga K x)) (.ref (He.ga K y)) = some false) (k : W (.ref (He.ga K x)) d σ H) :
    wAs K (.ref (He.ga K y)) i ts W D (.ref (He.ga K x)) d σ H := ⟨false, h, fun z => (nomatch z), fun _ => k⟩
def tl2 (H : Hp) (Q : VK) (vs : List V) : Prop := ∀ l H', Same H H' → H l = none → H' l = some (.lst vs) → Q (.ref l) H'
/-- what is answered -/
def due (door : Int) (d di dj : PyData) : List PyData := if door = 0 then (turnedF d di dj).map dPair else (sortA (arrowsOf (turnedF d di dj))).map dArr
/-- a question and what is told of it -/
structure Ans (v vi vj : V) (d di dj : PyData) (door : Int) (H : Hp) (Q : VK) : Prop where
  r : Rdd H v d
  li : Light d
  few : fewD d
  ri : Rdd H vi di
  rj : Rdd H vj dj
  nf : foundsB d = false → tl2 H Q [.str "founds", v]
  ni : foundsB d = true → belowD (readers d) di = false → tl2 H Q [.str "index", vi]
  nj : foundsB d = true → belowD (readers d) di = true → badI (readers d) di dj = true → tl2 H Q [.str "index", vj]
  ok : foundsB d = true → belowD (readers d) di = true → badI (readers d) di dj = false → ∀ l r zs H1 H', Same H H1 → H r = none → H1 r = some (.lst zs) → RddAll H1 zs (due door d di dj) → H1 l = none → Same H1 H' → H' l = some (.lst [.str "told", .ref r]) → Q (.ref l) H'
def spTold : Sp := fun vs H Q _ => ∃ (v vi vj : V) (d di dj : PyData) (door kind : Int), vs = [v, vi, vj, .int door, .int kind] ∧ (linesI d di).length < 64 ∧ Ans v vi vj d di dj door H Q
section
variable {P : Program} {w : World} {K : PySem.W.Frag} {mg : Str → Option Value} {base : Heap} {f : Addr} {fd : FuncData}
theorem ok_told (F : Fd K "_law_told" sTold f fd) (g : mg "_law_told" = some (.ref f)) (B : Bl mg) (X : TwoE K mg) (o_turned : Ok P w K mg base (L2N.CX P w) 7 "turned" sTurned ["founds", "i", "j"] (spTurned K)) (o_arrows : Ok P w K mg base (L2N.CX P w) 9 "arrows" sArrows ["founds", "i", "j"] (spArrows K)) :
    Ok P w K mg base CX0 10 "_law_told" sTold ["founds", "i", "j", "door", "kind"] spTold := by
  refine ⟨f, fd, g, F, F.bindsN fun _ _ _ _ _ _ us hl => match us, hl with | [_, _, _, _, _], _ => rfl, F.ok scTold (fun vs H Q E h => ?_) (fun cdv A outer s H vs Q E hr h => ?_)⟩
  · obtain ⟨v, vi, vj, d, di, dj, door, kind, rfl, _⟩ := h
    rfl
  · have E1 := X.e "InvalidFounds" (by decide +kernel)
    have E2 := X.e "InvalidIndex" (by decide +kernel)
    refine ⟨_, pss_one (L2N.ps_try_manyAs (Wout := fun _ _ _ _ => False) (l := hdsT K) rfl rfl scTold.nd takes_none
        (fun W pn xe tk _ => (pss_cons (ps_if (pt_cmpR op_eq (pv 3) pe_int (nomark _))
          (pss_one (ps_ret (pe_lst (pa_cons pe_str (pa_cons (pe_ifExp (pt_cmpR op_eq (pv 4) pe_int (nomark _)) (pe_oS o_turned (hr.mono (by decide)) (by rfl) (fun σ => L2N.passAt tk σ) (pa_cons (pv 0) (pa_cons (pv 1) (pa_cons (pv 2) pa_nil)))) (pe_oK0 o_turned (hr.mono (by decide)) (by rfl) (fun _ _ F => F.kbn0 0 ["j", "founds", "i"] (pick [1, 2, 0]) (pick_rel [1, 2, 0]) fun _ _ _ _ _ _ us ws l1 l2 => match us, ws, l1, l2 with | [], [_, _, _], _, _ => rfl) (fun σ => L2N.passAt tk σ) (pk_cons (pv 2) (pk_cons (pv 0) (pk_cons (pv 1) pk_nil))))) pa_nil)))))
          pss_nil)
        (pss_one (ps_ret (pe_lst (pa_cons pe_str (pa_cons (pe_ifExp (pt_cmpR op_eq (pv 4) pe_int (nomark _)) (pe_oS o_arrows (hr.mono (by decide)) (by rfl) (fun σ => L2N.passAt tk σ) (pa_cons (pv 0) (pa_cons (pv 1) (pa_cons (pv 2) pa_nil)))) (pe_oK0 o_arrows (hr.mono (by decide)) (by rfl) (fun _ _ F => F.kbn0 0 ["i", "j", "founds"] (pick [2, 0, 1]) (pick_rel [2, 0, 1]) fun _ _ _ _ _ _ us ws l1 l2 => match us, ws, l1, l2 with | [], [_, _, _], _, _ => rfl) (fun σ => L2N.passAt tk σ) (pk_cons (pv 1) (pk_cons (pv 2) (pk_cons (pv 0) pk_nil))))) pa_nil)))))))
        (.cons ⟨by rfl, by decide, .inl E1.g⟩ rfl rfl (fun a oe cls d pn hz hv => ?_) (.cons ⟨by rfl, by decide, .inl E2.g⟩ rfl rfl (fun a oe cls d pn hz hv => ?_) .nil))), ?_⟩
    · have hps : ∀ q ∈ [(a, oe)], q ∈ ((cxOf CX0 P w K mg base ["founds", "i", "j", "door", "kind", "e"] "_law_told" (defScope sTold) f cdv A outer s H E).suite a ((a, oe) :: pn)).pn := fun q hq => by
        rw [List.mem_singleton.mp hq]
        exact List.mem_cons_self
      refine pss_mono (pss_one (ps_ret (pe_lst (pa_cons pe_str (pa_cons (pe_evF hps (pv 5)) pa_nil))))) fun D σ H1 h => ?_
      obtain ⟨v, dd, h7, rfl, rfl, hdd, fin⟩ := h
      exact ⟨_, h7, a, _, dd, _, v, rfl, ⟨.inr ⟨oe, List.mem_cons_self, hz.1, hz.2.1, hv⟩, .inr hdd⟩, E1.X, X.f "InvalidFounds" (by decide +kernel), rfl, two_ln (by show 2 ≤ _; decide), fun p hp => fin p hp⟩
    · have hps : ∀ q ∈ [(a, oe)], q ∈ ((cxOf CX0 P w K mg base ["founds", "i", "j", "door", "kind", "e"] "_law_told" (defScope sTold) f cdv A outer s H E).suite a ((a, oe) :: pn)).pn := fun q hq => by
        rw [List.mem_singleton.mp hq]
        exact List.mem_cons_self
      refine pss_mono (pss_one (ps_ret (pe_lst (pa_cons pe_str (pa_cons (pe_evF hps (pv 5)) pa_nil))))) fun D σ H1 h => ?_
      obtain ⟨v, dd, h7, rfl, rfl, hdd, fin⟩ := h
      exact ⟨_, h7, a, _, dd, _, v, rfl, ⟨.inr ⟨oe, List.mem_cons_self, hz.1, hz.2.1, hv⟩, .inr hdd⟩, E2.X, X.f "InvalidIndex" (by decide +kernel), rfl, two_ln (by show 2 ≤ _; decide), fun p hp => fin p hp⟩
    · obtain ⟨v, vi, vj, d, di, dj, door, kind, rfl, l64, a⟩ := h
      have m : ∀ {x y : Str}, x ∈ twoC → y ∈ twoC → (x == y) = false → PySem.W.exmOne K (.ref (He.ga K x)) (.ref (He.ga K y)) = some false := fun {x y} h1 h2 e => by
        rw [X.m x h1 y h2, decide_eq_false (by simpa using e)]
      have tt : ∀ {x : Str}, x ∈ twoC → PySem.W.exmOne K (.ref (He.ga K x)) (.ref (He.ga K x)) = some true := fun {x} h1 => by
        rw [X.m x h1 x h1, decide_eq_true rfl]
      have key : ∀ {D : Ends} {W : Prop}, D.rt = Q → (foundsB d = true → belowD (readers d) di = true → badI (readers d) di dj = false → W) →
          Asked K v vi vj d di dj H (fun cls d H' => L2N.wManyAs K (fun _ _ _ _ => False) D (hdsT K) cls d [some v, some vi, some vj, some (.int door), some (.int kind), none] H') W := by
        intro D W eD k
        refine ⟨a.r, a.li, a.few, a.ri, a.rj, fun n dd H2 k2 h2 => ?_, fun fo n dd H2 k2 h2 => ?_, fun fo bi n dd H2 k2 h2 => ?_, k⟩
        · refine ⟨true, tt (by decide +kernel), fun _ a' ha => ⟨v, dd, rfl, rfl, rfl, h2, fun p hp => ?_⟩, fun z => nomatch z⟩
          rw [eD]
          exact a.nf n p _ (k2.trans (upd_grow hp)) (old_none k2 hp) upd_same
        · refine wNo (m (by decide +kernel) (by decide +kernel) (by decide +kernel)) ⟨true, tt (by decide +kernel), fun _ a' ha => ⟨vi, dd, rfl, rfl, rfl, h2, fun p hp => ?_⟩, fun z => nomatch z⟩
          rw [eD]
          exact a.ni fo n p _ (k2.trans (upd_grow hp)) (old_none k2 hp) upd_same
        · refine wNo (m (by decide +kernel) (by decide +kernel) (by decide +kernel)) ⟨true, tt (by decide +kernel), fun _ a' ha => ⟨vj, dd, rfl, rfl, rfl, h2, fun p hp => ?_⟩, fun z => nomatch z⟩
          rw [eD]
          exact a.nj fo bi n p _ (k2.trans (upd_grow hp)) (old_none k2 hp) upd_same
      refine ⟨_, rfl, rfl, _, rfl, iteB (fun e => ?_) fun e => ?_⟩
      · have e0 : door = 0 := V.int.inj (of_decide_eq_true e)
        have got : foundsB d = true → belowD (readers d) di = true → badI (readers d) di dj = false → ∀ r zs H1, Same H H1 → H r = none → H1 r = some (.lst zs) → RddAll H1 zs ((turnedF d di dj).map dPair) →
            ([V.str "told", V.ref r].length ≤ sizeLine ∧ ∀ l, H1 l = none → Q (.ref l) (upd H1 l (.lst [V.str "told", V.ref r]))) := fun fo bi bj r zs H1 k1 hr h1 rz =>
          ⟨two_ln (by show 2 ≤ _; decide), fun l hl => a.ok fo bi bj l r zs H1 _ k1 hr h1 (by unfold due; rw [if_pos e0]; exact rz) hl (upd_grow hl) upd_same⟩
        refine ⟨_, rfl, rfl, _, rfl, ite2 (fun _ => ?_) fun _ => ?_⟩
        · exact ⟨_, rfl, _, rfl, _, rfl, v, vi, vj, d, di, dj, rfl, key rfl got⟩
        · refine ⟨_, rfl, _, rfl, _, rfl, ?_⟩
          refine ⟨rfl, rfl, v, vi, vj, d, di, dj, rfl, key ?_ got⟩
          rfl
      · have e0 : ¬ door = 0 := fun z => of_decide_eq_false e (congrArg V.int z)
        have got : foundsB d = true → belowD (readers d) di = true → badI (readers d) di dj = false → ∀ r zs H1, Same H H1 → H r = none → H1 r = some (.lst zs) → RddAll H1 zs ((sortA (arrowsOf (turnedF d di dj))).map dArr) →
            ([V.str "told", V.ref r].length ≤ sizeLine ∧ ∀ l, H1 l = none → Q (.ref l) (upd H1 l (.lst [V.str "told", V.ref r]))) := fun fo bi bj r zs H1 k1 hr h1 rz =>
          ⟨two_ln (by show 2 ≤ _; decide), fun l hl => a.ok fo bi bj l r zs H1 _ k1 hr h1 (by unfold due; rw [if_neg e0]; exact rz) hl (upd_grow hl) upd_same⟩
        refine ⟨_, rfl, rfl, _, rfl, ite2 (fun _ => ?_) fun _ => ?_⟩
        · exact ⟨_, rfl, _, rfl, _, rfl, v, vi, vj, d, di, dj, rfl, l64, key rfl got⟩
        · refine ⟨_, rfl, _, rfl, _, rfl, ?_⟩
          refine ⟨rfl, rfl, v, vi, vj, d, di, dj, rfl, l64, key ?_ got⟩
          rfl
end
end K10

namespace K10
open PySem PySem.Spec PyProof.Rows L2 Tn TL
mutual
/-- plain signs, small numbers, no dict -/
def gp : PyData → Bool
  | .str x => x.cps.toList.all fun c => decide (c ≤ 126)
  | .int i => decide (i.natAbs.log2 < 1000)
  | .list xs => gpAll xs
  | .tuple xs => gpAll xs
  | .dict _ => false
  | _ => true
def gpAll : List PyData → Bool
  | [] => true
  | x :: xs => gp x && gpAll xs
end
mutual
theorem gp_asc : ∀ d : PyData, gp d = true → asc d = true ∧ d.showable = true ∧ d.canLay0 = true
  | .none, _ => ⟨rfl, rfl, rfl⟩
  | .bool _, _ => ⟨rfl, rfl, rfl⟩
  | .int i, h => by
    simp only [gp, decide_eq_true_eq] at h
    refine ⟨rfl, ?_, rfl⟩
    simp only [PyData.showable, decide_eq_true_eq]
    omega
  | .str x, h => by
    simp only [gp] at h
    refine ⟨?_, rfl, ?_⟩
    · simp only [asc]
      refine List.all_eq_true.mpr fun c m => ?_
      have := List.all_eq_true.mp h c m
      simp only [decide_eq_true_eq] at this ⊢
      omega
    · simp only [PyData.canLay0]
      exact strOk_of fun c m => by
        have := List.all_eq_true.mp h c m
        simpa using this
  | .list xs, h => by
    simp only [gp] at h
    obtain ⟨a, b, c⟩ := gpAll_asc xs h
    exact ⟨by simpa only [asc] using a, by simpa only [PyData.showable] using b, by simpa only [PyData.canLay0] using c⟩
  | .tuple xs, h => by
    simp only [gp] at h
    obtain ⟨a, b, c⟩ := gpAll_asc xs h
    exact ⟨by simpa only [asc] using a, by simpa only [PyData.showable] using b, by simpa only [PyData.canLay0] using c⟩
  | .dict _, h => by simp [gp] at h
theorem gpAll_asc : ∀ xs : List PyData, gpAll xs = true → ascAll xs = true ∧ PyData.showableAll xs = true ∧ PyData.canLayAll0 xs = true
  | [], _ => ⟨rfl, rfl, rfl⟩
  | x :: xs, h => by
    simp only [gpAll, Bool.and_eq_true] at h
    obtain ⟨a, b, c⟩ := gp_asc x h.1
    obtain ⟨a2, b2, c2⟩ := gpAll_asc xs h.2
    exact ⟨by simp only [ascAll, a, a2, Bool.and_true], by simp only [PyData.showableAll, b, b2, Bool.and_true], by simp only [PyData.canLayAll0, c, c2, Bool.and_true]⟩
end
/-- plain data of bounded depth and weight -/
structure Sm (d : PyData) (h n : Nat) : Prop where
  g : gp d = true
  dp : d.depth ≤ h
  w : wt d ≤ n
theorem Sm.fit {d : PyData} {h n : Nat} (s : Sm d h n) (a : h ≤ 30) (b : n ≤ 999000) : Fit d := by
  obtain ⟨x, y, z⟩ := gp_asc d s.g
  refine ⟨?_, ⟨x, y, by have := s.dp; omega, by have := s.w; omega⟩⟩
  unfold SeqAt.shaped
  rw [z, Bool.true_and]
  exact decide_eq_true (by have := s.dp; omega)
theorem Sm.light {d : PyData} {h n : Nat} (s : Sm d h n) (b : n ≤ 999000) : Light d := by
  have := s.w
  unfold Light
  omega
theorem all_sm {h n : Nat} : ∀ {ds : List PyData}, (∀ d ∈ ds, Sm d h n) → gpAll ds = true ∧ PyData.depthAll ds ≤ h ∧ wtAll ds ≤ ds.length * (n + 2)
  | [], _ => ⟨rfl, Nat.zero_le _, Nat.zero_le _⟩
  | d :: ds, s => by
    obtain ⟨a, b, c⟩ := all_sm (ds := ds) fun x m => s x (List.mem_cons_of_mem _ m)
    have z := s d List.mem_cons_self
    refine ⟨by simp only [gpAll, z.g, a, Bool.and_true], ?_, ?_⟩
    · have := z.dp
      simp only [PyData.depthAll]
      omega
    · have := z.w
      simp only [wtAll, List.length_cons, Nat.succ_mul]
      omega
theorem sm_list {h n m : Nat} {ds : List PyData} (s : ∀ d ∈ ds, Sm d h n) (l : ds.length ≤ m) : Sm (.list ds) (h + 1) (m * (n + 2) + 3) := by
  obtain ⟨a, b, c⟩ := all_sm s
  have z : ds.length * (n + 2) ≤ m * (n + 2) := Nat.mul_le_mul_right _ l
  refine ⟨by simp only [gp]; exact a, by simp only [PyData.depth]; omega, by simp only [wt]; omega⟩
theorem sm_tuple {h n m : Nat} {ds : List PyData} (s : ∀ d ∈ ds, Sm d h n) (l : ds.length ≤ m) : Sm (.tuple ds) (h + 1) (m * (n + 2) + 3) := by
  obtain ⟨a, b, c⟩ := all_sm s
  have z : ds.length * (n + 2) ≤ m * (n + 2) := Nat.mul_le_mul_right _ l
  refine ⟨by simp only [gp]; exact a, by simp only [PyData.depth]; omega, by simp only [wt]; omega⟩
theorem Sm.up {d : PyData} {h n h' n' : Nat} (s : Sm d h n) (a : h ≤ h') (b : n ≤ n') : Sm d h' n' := ⟨s.g, Nat.le_trans s.dp a, Nat.le_trans s.w b⟩
theorem sm_str {z : Str} {n : Nat} (l : z.length ≤ n) (a : ∀ c ∈ z.cps.toList, c ≤ 126) : Sm (.str z) 0 (10 * n + 2) := by
  refine ⟨?_, Nat.le_refl _, by simp only [wt]; omega⟩
  simp only [gp]
  exact List.all_eq_true.mpr fun c m => decide_eq_true (a c m)
theorem sm_name {z : Str} (h : nameS z = true) : Sm (.str z) 0 82 := by
  obtain ⟨_, l, a⟩ := nameS_le h
  exact sm_str (n := 8) (by rw [len_tl]; exact l) fun c m => by have := a c m; omega
theorem sm_text {z : Str} (h : textS z = true) : Sm (.str z) 0 402 := by
  have h2 := h
  unfold textS at h2
  simp only [Bool.and_eq_true, decide_eq_true_eq] at h2
  exact sm_str (n := 40) h2.1 (signs_of h2.2)
theorem sm_two {a b : PyData} {h n m : Nat} (x : Sm a h n) (y : Sm b h m) : Sm (.tuple [a, b]) (h + 1) (n + m + 7) := by
  have := x.dp
  have := y.dp
  have := x.w
  have := y.w
  refine ⟨by simp only [gp, gpAll, x.g, y.g, Bool.and_true], ?_, ?_⟩
  · simp only [PyData.depth, PyData.depthAll]
    omega
  · simp only [wt, wtAll]
    omega
theorem sm_line {l : Line} (h : lineS l = true) : Sm (dLine l) 1 491 := by
  unfold lineS at h
  rw [Bool.and_eq_true] at h
  exact (sm_two (sm_name h.1) (sm_text h.2)).up (Nat.le_refl _) (by decide)
theorem sm_lines {ls : List Line} {m : Nat} (h : ∀ l ∈ ls, lineS l = true) (n : ls.length ≤ m) : Sm (.list (ls.map dLine)) 2 (m * 493 + 3) :=
  sm_list (fun d md => by obtain ⟨l, ml, rfl⟩ := List.mem_map.mp md; exact sm_line (h l ml)) (by rw [List.length_map]; exact n)
theorem sm_linesT {ls : List Line} {m : Nat} (h : ∀ l ∈ ls, lineS l = true) (n : ls.length ≤ m) : Sm (.tuple (ls.map dLine)) 2 (m * 493 + 3) :=
  sm_tuple (fun d md => by obtain ⟨l, ml, rfl⟩ := List.mem_map.mp md; exact sm_line (h l ml)) (by rw [List.length_map]; exact n)
theorem sm_pair {p : Line × Line} (h : lineS p.1 = true ∧ lineS p.2 = true) : Sm (dPair p) 2 989 := (sm_two (sm_line h.1) (sm_line h.2)).up (Nat.le_refl _) (by decide)
theorem sm_arr {p : Line × Line} (h : lineS p.1 = true ∧ lineS p.2 = true) : Sm (dArr (owns p)) 1 171 := by
  obtain ⟨h1, h2⟩ := h
  unfold lineS at h1 h2
  rw [Bool.and_eq_true] at h1 h2
  exact (sm_two (sm_name h1.1) (sm_name h2.1)).up (Nat.le_refl _) (by decide)
theorem sm_said {w : Str} {d : PyData} {h n : Nat} (x : Sm (.str w) 0 100) (y : Sm d h n) : Sm (two w d) (h + 1) (n + 120) := by
  have := y.dp
  have := x.dp
  have xw := x.w
  simp only [wt] at xw
  have := y.w
  have xg := x.g
  simp only [gp] at xg
  refine ⟨by simp only [two, gp, gpAll, xg, y.g, Bool.and_true], ?_, ?_⟩
  · simp only [two, PyData.depth, PyData.depthAll]
    omega
  · simp only [two, wt, wtAll]
    omega
theorem sm_word : Sm (.str "told") 0 100 ∧ Sm (.str "founds") 0 100 ∧ Sm (.str "index") 0 100 :=
  ⟨⟨by decide +kernel, by decide, by decide +kernel⟩, ⟨by decide +kernel, by decide, by decide +kernel⟩, ⟨by decide +kernel, by decide, by decide +kernel⟩⟩
theorem pairs_few {sh lb : List Line} : ∀ m, m ≤ sh.length → 2 * (pairsTo sh lb m).length + m * m + m ≤ 2 * (m * sh.length)
  | 0, _ => by simp [pairsTo]
  | m + 1, h => by
    have i := pairs_few (sh := sh) (lb := lb) m (by omega)
    have a : (pairsAt sh lb m).length ≤ sh.length - (m + 1) := by
      unfold pairsAt
      cases sh[m]? with
      | none => exact Nat.zero_le _
      | some a =>
        rw [List.length_map]
        refine Nat.le_trans (List.length_filter_le _ _) ?_
        rw [List.length_drop]
        exact Nat.le_refl _
    have e1 : (m + 1) * (m + 1) = m * m + 2 * m + 1 := by rw [Nat.succ_mul, Nat.mul_succ]; omega
    have e2 : (m + 1) * sh.length = m * sh.length + sh.length := Nat.succ_mul _ _
    rw [pairsTo_succ, List.length_append, e1, e2]
    omega
theorem turned_few {la lb : List Line} (h : la.length ≤ 40) : (turnedL la lb).length ≤ 780 := by
  unfold turnedL
  rw [List.length_mergeSort]
  have z := pairs_few (sh := shared la lb) (lb := lb) (shared la lb).length (Nat.le_refl _)
  have y : (shared la lb).length ≤ la.length := List.length_filter_le _ _
  generalize (pairsTo (shared la lb) lb (shared la lb).length).length = L at z ⊢
  generalize (shared la lb).length = n at z y
  have n40 : n ≤ 40 := by omega
  cases n with
  | zero => omega
  | succ k =>
    have x : (k + 1) * k ≤ 40 * 39 := Nat.mul_le_mul n40 (by omega)
    rw [Nat.mul_succ (k + 1) k] at z
    omega
theorem arrows_mem : ∀ {ps : List (Line × Line)} {a : Arr}, a ∈ arrowsOf ps → ∃ p ∈ ps, a = owns p := by
  intro ps a
  unfold arrowsOf
  have key : ∀ (ps : List (Line × Line)) (acc : List Arr), a ∈ ps.foldl addA acc → a ∈ acc ∨ ∃ p ∈ ps, a = owns p := by
    intro ps
    induction ps with
    | nil => intro acc h; exact .inl h
    | cons p ps ih =>
      intro acc h
      rcases ih (addA acc p) h with h | ⟨q, mq, e⟩
      · unfold addA at h
        by_cases m : owns p ∈ acc
        · rw [if_pos m] at h
          exact .inl h
        · rw [if_neg m] at h
          rcases List.mem_append.mp h with h | h
          · exact .inl h
          · exact .inr ⟨p, List.mem_cons_self, List.mem_singleton.mp h⟩
      · exact .inr ⟨q, List.mem_cons_of_mem _ mq, e⟩
  intro h
  rcases key ps [] h with h | h
  · cases h
  · exact h
/-- what is told, shown -/
theorem due_sm {la lb : List Line} (g : ∀ l ∈ la, lineS l = true) (n : la.length ≤ 40) (door : Int) :
    Sm (.list (if door = 0 then (turnedL la lb).map dPair else (sortA (arrowsOf (turnedL la lb))).map dArr)) 3 (780 * 991 + 3) := by
  have gp : ∀ p ∈ turnedL la lb, lineS p.1 = true ∧ lineS p.2 = true := fun p m => let z := turnedL_mem m; ⟨g _ z.1, g _ z.2⟩
  have l := turned_few (lb := lb) n
  by_cases e : door = 0
  · rw [if_pos e]
    exact sm_list (fun d md => by obtain ⟨p, mp, rfl⟩ := List.mem_map.mp md; exact sm_pair (gp p mp)) (by rw [List.length_map]; exact l)
  · rw [if_neg e]
    refine (sm_list (h := 1) (n := 171) (m := 780) (fun d md => ?_) ?_).up (by decide) (by decide)
    · obtain ⟨a, ma, rfl⟩ := List.mem_map.mp md
      have ma := (List.mergeSort_perm _ _).mem_iff.mp ma
      obtain ⟨p, mp, rfl⟩ := arrows_mem ma
      exact sm_arr (gp p mp)
    · rw [List.length_map]
      unfold sortA
      rw [List.length_mergeSort]
      exact Nat.le_trans (arrowsOf_len _) l
end K10

namespace K10
open PySem PySem.Spec PyProof.Rows L2 Tn TL
/-- a list or a tuple -/
def mkR (b : Bool) (ds : List PyData) : PyData := if b = true then .list ds else .tuple ds
theorem rowD_mk (b : Bool) (ds : List PyData) : rowD (mkR b ds) = some ds := by
  cases b <;> rfl
theorem sm_mk {h n m : Nat} {b : Bool} {ds : List PyData} (s : ∀ d ∈ ds, Sm d h n) (l : ds.length ≤ m) : Sm (mkR b ds) (h + 1) (m * (n + 2) + 3) := by
  cases b
  · exact sm_tuple s l
  · exact sm_list s l
def dFnd (b : Bool) (f : Fnd) : PyData := .tuple [ownD f.1, mkR b (f.2.map dLine)]
def dF (b : Bool) (fs : List Fnd) : PyData := mkR b (fs.map (dFnd b))
theorem linesOf_good {b : Bool} {ls : List Line} (g : ∀ l ∈ ls, lineS l = true) (d : ls.Nodup) : linesOf (mkR b (ls.map dLine)) = some ls := by
  unfold linesOf
  rw [rowD_mk]
  dsimp only
  have fm : (ls.map dLine).filterMap lineOf = ls := by
    clear d
    induction ls with
    | nil => rfl
    | cons l ls ih =>
      rw [List.map_cons, List.filterMap_cons_some (lineOf_good (g l List.mem_cons_self)), ih fun x m => g x (List.mem_cons_of_mem _ m)]
  have al : ((ls.map dLine).all fun x => (lineOf x).isSome) = true := by
    rw [List.all_map, List.all_eq_true]
    intro l m
    show (lineOf (dLine l)).isSome = true
    rw [lineOf_good (g l m)]
    rfl
  rw [fm, al, Bool.true_and, if_pos (decide_eq_true d)]
theorem known_own (fs : List (Option Str)) : known (fs.map ownD) = (fs.filterMap id).map PyData.str := by
  induction fs with
  | nil => rfl
  | cons o fs ih =>
    cases o with
    | none => exact ih
    | some z =>
      show PyData.str z :: known (fs.map ownD) = _
      rw [ih]
      rfl
theorem owns_good {os : List (Option Str)} (g : ∀ z, some z ∈ os → nameS z = true) (d : (os.filterMap id).Nodup) : ownsB (os.map ownD) = true := by
  unfold ownsB
  rw [known_own]
  have e : ((os.filterMap id).map PyData.str).filterMap strOf = os.filterMap id := by
    generalize os.filterMap id = l
    induction l with
    | nil => rfl
    | cons a l ih => rw [List.map_cons, List.filterMap_cons_some (show strOf (.str a) = some a from rfl), ih]
  rw [e, decide_eq_true d, Bool.and_true, List.all_map, List.all_eq_true]
  intro z m
  obtain ⟨a, ma, ea⟩ := List.mem_filterMap.mp m
  have ea : a = some z := ea
  exact g z (ea ▸ ma)
theorem filt_own (fs : List Fnd) : (fs.map (·.1)).filterMap id = fs.filterMap (·.1) := by
  rw [List.filterMap_map]
  rfl
theorem fst_dFnd (b : Bool) (fs : List Fnd) : (fs.map (dFnd b)).map fstD = (fs.map (·.1)).map ownD := by
  rw [List.map_map, List.map_map]
  rfl
theorem founds_good {b : Bool} {fs : List Fnd} (ok : FsOk fs) (l1 : 1 ≤ fs.length) (l2 : fs.length ≤ 12) : foundsB (dF b fs) = true := by
  unfold foundsB dF
  rw [rowD_mk]
  dsimp only
  rw [List.length_map, decide_eq_true l1, decide_eq_true l2, fst_dFnd, owns_good (fun z m => by
    obtain ⟨f, mf, e⟩ := List.mem_map.mp m
    exact ok.own f mf z e) (by rw [filt_own]; exact ok.dif), Bool.and_true, Bool.true_and, Bool.true_and, List.all_map, List.all_eq_true]
  intro f mf
  obtain ⟨g, d, _⟩ := ok.lin f mf
  show (linesOf (mkR b (f.2.map dLine))).isSome = true
  rw [linesOf_good g d]
  rfl
theorem few_good {b : Bool} {fs : List Fnd} (ok : FsOk fs) : fewD (dF b fs) := by
  intro ds e x m
  unfold dF at e
  rw [rowD_mk] at e
  obtain rfl := Option.some.inj e
  obtain ⟨f, mf, rfl⟩ := List.mem_map.mp m
  intro es h
  rw [rowD_mk] at h
  obtain rfl := Option.some.inj h
  rw [List.length_map]
  have := (ok.lin f mf).2.2
  omega
theorem lines_good {b : Bool} {fs : List Fnd} (ok : FsOk fs) {i : Nat} (hi : i < fs.length) : linesI (dF b fs) (.int i) = lin fs i := by
  unfold linesI dF
  rw [rowD_mk]
  show (linesOf (snd ((fs.map (dFnd b)).getD i .none))).getD [] = _
  have e := List.getElem?_eq_getElem hi
  obtain ⟨g, d, _⟩ := ok.lin _ (List.getElem_mem hi)
  unfold lin
  rw [List.getD_eq_getElem?_getD, List.getElem?_map, e, List.getD_eq_getElem?_getD, e]
  show (linesOf (mkR b ((fs[i]).2.map dLine))).getD [] = _
  rw [linesOf_good g d]
  rfl
theorem sm_own {o : Option Str} (g : ∀ z, o = some z → nameS z = true) : Sm (ownD o) 0 82 := by
  cases o with
  | none => exact ⟨rfl, Nat.le_refl _, by decide⟩
  | some z => exact sm_name (g z rfl)
theorem sm_fnd {b : Bool} {f : Fnd} (go : ∀ z, f.1 = some z → nameS z = true) (gl : ∀ l ∈ f.2, lineS l = true) (n : f.2.length ≤ 40) : Sm (dFnd b f) 3 19820 := by
  have s : Sm (mkR b (f.2.map dLine)) 2 (40 * 493 + 3) := sm_mk (fun d md => by obtain ⟨l, ml, rfl⟩ := List.mem_map.mp md; exact sm_line (gl l ml)) (by rw [List.length_map]; exact n)
  exact (sm_two ((sm_own go).up (Nat.zero_le 2) (Nat.le_refl _)) s).up (Nat.le_refl _) (by decide)
theorem sm_founds {b : Bool} {fs : List Fnd} (ok : FsOk fs) (l2 : fs.length ≤ 12) : Sm (dF b fs) 4 240000 :=
  (sm_mk (m := 12) (fun d md => by obtain ⟨f, mf, rfl⟩ := List.mem_map.mp md; exact sm_fnd (ok.own f mf) (ok.lin f mf).1 (ok.lin f mf).2.2) (by rw [List.length_map]; exact l2)).up (Nat.le_refl _) (by decide)
/-- right founds that stand at l -/
structure Fs (H : Hp) (l : Addr) (fs : List Fnd) (d : PyData) : Prop where
  row : ∃ xs, RowAt H l xs ∧ All2 (FRow H) fs xs
  rdd : Rdd H (.ref l) d
  sm : Sm d 4 240000
  few : fewD d
  fo : foundsB d = true
  rd : readers d = fs.length
  ln : ∀ i : Nat, i < fs.length → linesI d (.int i) = lin fs i
  ok : FsOk fs
  n2 : 2 ≤ fs.length
  n12 : fs.length ≤ 12
theorem Fs.same {H H' : Hp} {l : Addr} {fs : List Fnd} {d : PyData} (k : Same H H') (f : Fs H l fs d) : Fs H' l fs d :=
  let ⟨xs, h, a⟩ := f.row
  { f with row := ⟨xs, h.mono k, a.imp fun _ _ r => r.same k⟩, rdd := f.rdd.mono k }
theorem own_rdd {H : Hp} (o : Option Str) : Rdd H (ownV o) (ownD o) := by
  cases o with
  | none => exact .non
  | some z => exact .str z
theorem fs_of {H : Hp} {l : Addr} {fs : List Fnd} {b : Bool} (row : ∃ xs, RowAt H l xs ∧ All2 (FRow H) fs xs) (r : Rdd H (.ref l) (dF b fs)) (ok : FsOk fs) (n2 : 2 ≤ fs.length) (n12 : fs.length ≤ 12) : Fs H l fs (dF b fs) :=
  ⟨row, r, sm_founds ok n12, few_good ok, founds_good ok (by omega) n12, by unfold readers dF; rw [rowD_mk]; exact List.length_map _, fun i hi => lines_good ok hi, ok, n2, n12⟩
/-- the list as it was drawn -/
theorem fs_list {M : List Addr} {H : Hp} {l : Addr} {fs : List Fnd} {xs : List V} (h : H l = some (.lst xs)) (a : All2 (FAt M H) fs xs) (ok : FsOk fs) (n2 : 2 ≤ fs.length) (n12 : fs.length ≤ 12) : Fs H l fs (dF true fs) := by
  refine fs_of ⟨xs, .inl h, a.imp fun _ _ r => r.row⟩ ?_ ok n2 n12
  have key : ∀ {fs : List Fnd} {xs : List V}, All2 (FAt M H) fs xs → RddAll H xs (fs.map (dFnd true)) := by
    intro fs xs a
    induction a with
    | nil => exact .nil
    | cons r _ ih =>
      obtain ⟨t, q, ys, rfl, _, h1, _, h2, la⟩ := r
      exact .cons (.tup h1 (.cons (own_rdd _) (.cons (.lst h2 la.rdd) .nil))) ih
  exact .lst h (key a)
/-- the same as tuples -/
theorem fs_tuple {H : Hp} {l : Addr} {fs : List Fnd} {xs : List V} (h : H l = some (.tup xs)) (a : All2 (fun (f : Fnd) y => ∃ (t q : Addr) (ys : List V), y = V.ref t ∧ H t = some (.tup [ownV f.1, .ref q]) ∧ H q = some (.tup ys) ∧ LinesAt H f.2 ys) fs xs) (ok : FsOk fs) (n2 : 2 ≤ fs.length) (n12 : fs.length ≤ 12) :
    Fs H l fs (dF false fs) := by
  refine fs_of ⟨xs, .inr h, a.imp fun f y ⟨t, q, ys, e, h1, h2, la⟩ => ⟨t, q, ys, e, h1, .inr h2, la⟩⟩ ?_ ok n2 n12
  have key : ∀ {fs : List Fnd} {xs : List V}, All2 (fun (f : Fnd) y => ∃ (t q : Addr) (ys : List V), y = V.ref t ∧ H t = some (.tup [ownV f.1, .ref q]) ∧ H q = some (.tup ys) ∧ LinesAt H f.2 ys) fs xs → RddAll H xs (fs.map (dFnd false)) := by
    intro fs xs a
    induction a with
    | nil => exact .nil
    | cons r _ ih =>
      obtain ⟨t, q, ys, rfl, h1, h2, la⟩ := r
      exact .cons (.tup h1 (.cons (own_rdd _) (.cons (.tup h2 la.rdd) .nil))) ih
  exact .tup h (key a)
end K10

namespace K10
open PySem PySem.Spec PyProof.Rows L2 Tn TL
abbrev sPair : Stmt := top 40
theorem scPair : FnScope ["founds", "i", "j", "kind", "due", "door", "wanted", "told", "given"] ["founds", "i", "j", "kind"] (defScope sPair) := ⟨rfl, rfl, rfl, by decide +kernel, rfl, by decide +kernel, by decide +kernel⟩
/-- a question that is answered -/
theorem Fs.ans {H : Hp} {l : Addr} {fs : List Fnd} {d : PyData} (f : Fs H l fs d) {i j : Nat} (hi : i < fs.length) (hj : j < fs.length) (ne : i ≠ j) {door : Int} {Q : VK}
    (q : ∀ t r zs H1 H', Same H H1 → H r = none → H1 r = some (.lst zs) → RddAll H1 zs (if door = 0 then (turnedL (lin fs i) (lin fs j)).map dPair else (sortA (arrowsOf (turnedL (lin fs i) (lin fs j)))).map dArr) → H1 t = none → Same H1 H' → H' t = some (.lst [.str "told", .ref r]) → Q (.ref t) H') :
    Ans (.ref l) (.int i) (.int j) d (.int i) (.int j) door H Q := by
  have b : ∀ k : Nat, k < fs.length → belowD (readers d) (.int k) = true := fun k hk => by
    rw [f.rd]
    simp only [belowD, Bool.and_eq_true, decide_eq_true_eq]
    omega
  have bad : badI (readers d) (.int i) (.int j) = false := by
    unfold badI
    rw [b j hj]
    show decide ((i : Int) = (j : Int)) = false
    exact decide_eq_false (by omega)
  refine ⟨f.rdd, f.sm.light (by decide), f.few, .int _, .int _, fun e => ?_, fun _ e => ?_, fun _ _ e => ?_, fun _ _ _ t r zs H1 H' k1 hr h1 rz ht k2 h2 => ?_⟩
  · rw [f.fo] at e; cases e
  · rw [b i hi] at e; cases e
  · rw [bad] at e; cases e
  · unfold due turnedF at rz
    rw [f.ln i hi, f.ln j hj] at rz
    exact q t r zs H1 H' k1 hr h1 rz ht k2 h2
theorem Fs.l64 {H : Hp} {l : Addr} {fs : List Fnd} {d : PyData} (f : Fs H l fs d) {i : Nat} (hi : i < fs.length) : (linesI d (.int i)).length < 64 := by
  rw [f.ln i hi]
  unfold lin
  rw [List.getD_eq_getElem?_getD, List.getElem?_eq_getElem hi]
  have := (f.ok.lin _ (List.getElem_mem hi)).2.2
  show (fs[i]).2.length < 64
  omega
theorem Fs.lines {H : Hp} {l : Addr} {fs : List Fnd} {d : PyData} (f : Fs H l fs d) {i : Nat} (hi : i < fs.length) : (∀ x ∈ lin fs i, lineS x = true) ∧ (lin fs i).length ≤ 40 := by
  unfold lin
  rw [List.getD_eq_getElem?_getD, List.getElem?_eq_getElem hi]
  have z := f.ok.lin _ (List.getElem_mem hi)
  exact ⟨z.1, z.2.2⟩
def spPair : Sp := fun vs H Q _ => ∃ (l : Addr) (fs : List Fnd) (d : PyData) (i j : Nat) (kind : Int), vs = [.ref l, .int i, .int j, .int kind] ∧ Fs H l fs d ∧ i < fs.length ∧ j < fs.length ∧ i ≠ j ∧ ∀ H', Same H H' → Q (.bl true) H'
section
variable {P : Program} {w : World} {K : PySem.W.Frag} {mg : Str → Option Value} {base : Heap} {f : Addr} {fd : FuncData}
theorem ok_pair (F : Fd K "_law_pair_right" sPair f fd) (g : mg "_law_pair_right" = some (.ref f)) (B : Bl mg) (o_law_turned : Ok P w K mg base CX0 1 "_law_turned" sLTurned ["founds", "i", "j"] spLTurned) (o_law_arrows : Ok P w K mg base CX0 1 "_law_arrows" sLArrows ["pairs"] spLArrows)
    (o_law_told : Ok P w K mg base CX0 10 "_law_told" sTold ["founds", "i", "j", "door", "kind"] spTold) (o_law_same : OkG P w K mg base 1 "_law_same" sSame ["told", "due"] spSame) :
    OkG P w K mg base 11 "_law_pair_right" sPair ["founds", "i", "j", "kind"] spPair := by
  refine ⟨f, fd, g, F, F.bindsN fun _ _ _ _ _ _ us hl => match us, hl with | [_, _, _, _], _ => rfl, F.okG scPair (fun vs H Q E h => ?_) (fun cdv A outer s H vs Q hgd hr h => ?_)⟩
  · obtain ⟨l, fs, d, i, j, kind, rfl, _⟩ := h
    rfl
  · refine ⟨_, (pss_cons (ps_set (i := 4) scPair.nd rfl (Or.inl rfl) (pe_o o_law_turned (hr.mono (by decide)) (by rfl) (pa_cons (pv 0) (pa_cons (pv 1) (pa_cons (pv 2) pa_nil)))))
      (pss_cons (ps_for (passes_of rfl) rfl (pi_range1 (by rfl) (B.u "range" (by decide +kernel)) (pa_cons pe_int pa_nil)) (pg_name (i := 5) scPair.nd rfl (Or.inl rfl))
        (pss_cons (ps_set (i := 6) scPair.nd rfl (Or.inl rfl) (pe_lst (pa_cons pe_str (pa_cons (pe_ifExp (pt_cmpR op_eq (pv 5) pe_int (nomark _)) (pv 4) (pe_o o_law_arrows (hr.mono (by decide)) (by rfl) (pa_cons (pv 4) pa_nil))) pa_nil))))
        (pss_cons (ps_set (i := 7) scPair.nd rfl (Or.inl rfl) (pe_o o_law_told (hr.mono (by decide)) (by rfl) (pa_cons (pv 0) (pa_cons (pv 1) (pa_cons (pv 2) (pa_cons (pv 5) (pa_cons (pv 3) pa_nil)))))))
        (pss_cons (ps_if (pt_not (pt_val (pe_oG o_law_same hgd (hr.mono (by decide)) (by rfl) (pa_cons (pv 7) (pa_cons (pv 6) pa_nil)))))
          (pss_one (ps_ret pe_bl))
          pss_nil)
        (pss_cons (ps_set (i := 8) scPair.nd rfl (Or.inl rfl) (pe_ix ix_seq (pv 7) pe_int fun _ _ => rfl))
        (pss_cons (ps_expr (pe_bm PySem.F.plainAttrs_list PySem.F.slot_list_append PySem.F.type_list_append mt_append (pv 8) (pa_cons pe_str pa_nil)))
        (pss_one (ps_if (pt_not (pt_val (pe_oG o_law_same hgd (hr.mono (by decide)) (by rfl) (pa_cons (pe_o o_law_told (hr.mono (by decide)) (by rfl) (pa_cons (pv 0) (pa_cons (pv 1) (pa_cons (pv 2) (pa_cons (pv 5) (pa_cons (pe_op op_sub pe_int (pv 3)) pa_nil)))))) (pa_cons (pv 6) pa_nil)))))
          (pss_one (ps_ret pe_bl))
          pss_nil))))))))
      (pss_one (ps_ret pe_bl)))), ?_⟩
    obtain ⟨l, fs, d, i, j, kind, rfl, fo, hi, hj, ne, q⟩ := h
    obtain ⟨xs, hl, fx⟩ := fo.row
    obtain ⟨gl, l40⟩ := fo.lines hi
    refine ⟨_, rfl, _, rfl, _, rfl, l, xs, fs, i, j, rfl, hl, fx, hi, hj, fo.ok, fun du zs H1 k1 fdu h1 rz => ?_⟩
    dsimp only [gName]
    generalize hD : (fun door : Int => if door = 0 then (turnedL (lin fs i) (lin fs j)).map dPair else (sortA (arrowsOf (turnedL (lin fs i) (lin fs j)))).map dArr) = D
    have eD : ∀ door : Int, (if door = 0 then (turnedL (lin fs i) (lin fs j)).map dPair else (sortA (arrowsOf (turnedL (lin fs i) (lin fs j)))).map dArr) = D door := fun door => by rw [← hD]
    have fitD : ∀ door : Int, Fit (two "told" (.list (D door))) := fun door => by
      rw [← eD door]
      exact (sm_said sm_word.1 (due_sm (lb := lin fs j) gl l40 door)).fit (by decide) (by decide)
    have lenD : ∀ door : Int, (D door).length ≤ 780 := fun door => by
      rw [← eD door]
      have z := turned_few (lb := lin fs j) l40
      by_cases e : door = 0
      · rw [if_pos e, List.length_map]; exact z
      · rw [if_neg e, List.length_map]
        unfold sortA
        rw [List.length_mergeSort]
        exact Nat.le_trans (arrowsOf_len _) z
    have D0 : D 0 = (turnedL (lin fs i) (lin fs j)).map dPair := by rw [← eD 0, if_pos rfl]
    have D1 : ∀ door : Int, door ≠ 0 → D door = (sortA (arrowsOf (turnedL (lin fs i) (lin fs j)))).map dArr := fun door e => by rw [← eD door, if_neg e]
    refine ⟨_, rfl, by decide, by decide, ?_⟩
    refine for_range (n := 2) (fun m σ H' => Same H1 H' ∧ ∃ a5 a6 a7 a8 : Option V, σ = [some (.ref l), some (.int i), some (.int j), some (.int kind), some (.ref du), a5, a6, a7, a8]) ⟨Same.refl H1, none, none, none, none, rfl⟩ ?_ ?_
    · rintro m σ H2 hm ⟨k2, a5, a6, a7, a8, rfl⟩
      have k02 := k1.trans k2
      have z0 : (0 : Int) + m = ((m : Nat) : Int) := by omega
      dsimp only [gName]
      rw [show V.int ((0 : Int) + m) = V.int ((m : Nat) : Int) from congrArg V.int z0]
      refine tSeq_by (fun σ H' => ∃ (wn wr : Addr) (wz : List V), Same H2 H' ∧ H' wn = some (.lst [.str "told", .ref wr]) ∧ H' wr = some (.lst wz) ∧ RddAll H' wz (D m) ∧ σ = [some (.ref l), some (.int i), some (.int j), some (.int kind), some (.ref du), some (.int (m : Nat)), some (.ref wn), a7, a8]) ?_ fun rest => ?_
      · rintro σ H3 ⟨wn, wr, wz, k3, hwn, hwr, rw3, rfl⟩
        have k03 := k02.trans k3
        refine ⟨_, rfl, _, rfl, _, rfl, _, rfl, _, rfl, .ref l, .int i, .int j, d, .int i, .int j, (m : Nat), kind, rfl, fo.l64 hi, (fo.same k03).ans hi hj ne fun t r zs4 H4 H5 k4 hr4 h4 rz4 ht4 k5 h5 => ?_⟩
        rw [eD] at rz4
        have k35 := k4.trans k5
        dsimp only [gName]
        refine ⟨_, rfl, _, rfl, t, wn, "told", .ref r, .ref wr, .list (D m), rfl, h5, k35 _ _ hwn, .lst (k5 _ _ h4) (rz4.mono k5), .lst (k35 _ _ hwr) (rw3.mono k35), fitD m, fun _ H6 k6 => ⟨_, rfl, iteF ?_⟩, fun nw => absurd rfl nw⟩
        refine ⟨_, rfl, ixAt (k6 _ _ h5) rfl ?_⟩
        have h6 := k6 _ _ (k5 _ _ h4)
        have lz4 := rdds_len rz4
        have lD := lenD m
        refine ⟨_, rfl, .inl ⟨rfl, _, SqL.of h6⟩, r, zs4, _, rfl, rfl, h6, lt_ln (by omega), ?_⟩
        have k37 : Same H3 (upd H6 r (.lst (zs4 ++ [.str "more"]))) := fun b o e => by
          rw [upd_ne (ne_of_none e hr4)]
          exact k6 _ _ (k35 _ _ e)
        generalize upd H6 r (.lst (zs4 ++ [.str "more"])) = H7 at k37 ⊢
        refine ⟨_, rfl, _, rfl, _, rfl, _, rfl, _, rfl, _, _, rfl, rfl, .ref l, .int i, .int j, d, .int i, .int j, (m : Nat), 1 - kind, rfl, fo.l64 hi, (fo.same (k03.trans k37)).ans hi hj ne fun t2 r2 zs8 H8 H9 k8 hr8 h8 rz8 ht8 k9 h9 => ?_⟩
        rw [eD] at rz8
        have k39 := k37.trans (k8.trans k9)
        refine ⟨_, rfl, t2, wn, "told", .ref r2, .ref wr, .list (D m), rfl, h9, k39 _ _ hwn, .lst (k9 _ _ h8) (rz8.mono k9), .lst (k39 _ _ hwr) (rw3.mono k39), fitD m, fun _ H10 k10 => ⟨_, rfl, iteF ?_⟩, fun nw => absurd rfl nw⟩
        exact ⟨k2.trans (k3.trans (k39.trans k10)), _, _, _, _, rfl⟩
      · refine ⟨_, rfl, rfl, _, rfl, ite2 (fun e => ?_) fun e => ?_⟩
        · have e0 : ((m : Nat) : Int) = 0 := V.int.inj (of_decide_eq_true e)
          refine ⟨_, rfl, two_ln (by show 2 ≤ _; decide), fun wn hwn => rest _ _ ⟨wn, du, zs, upd_grow hwn, upd_same, (k2.trans (upd_grow hwn)) _ _ h1, ?_, rfl⟩⟩
          rw [e0, D0]
          exact rz.mono (k2.trans (upd_grow hwn))
        · have e0 : ¬ ((m : Nat) : Int) = 0 := fun z => of_decide_eq_false (by simpa using e) (congrArg V.int z)
          refine ⟨_, rfl, du, zs, turnedL (lin fs i) (lin fs j), rfl, k2 _ _ h1, rz.mono k2, fun p mp => let z := turnedL_mem mp; ⟨gl _ z.1, gl _ z.2⟩, Nat.le_trans (turned_few l40) (by decide), fun r wz H3 k3 hr h3 rw3 => ⟨two_ln (by show 2 ≤ _; decide), fun wn hwn => ?_⟩⟩
          refine rest _ _ ⟨wn, r, wz, k3.trans (upd_grow hwn), upd_same, upd_grow hwn _ _ h3, ?_, rfl⟩
          rw [D1 _ e0]
          exact rw3.mono (upd_grow hwn)
    · rintro σ H2 ⟨k2, a5, a6, a7, a8, rfl⟩
      exact q H2 (k1.trans k2)
end
end K10

namespace K10
open PySem PySem.Spec PyProof.Rows L2 Tn TL
abbrev sOddI : Stmt := top 41
theorem scOddI : FnScope ["readers", "k"] ["readers", "k"] (defScope sOddI) := ⟨rfl, rfl, rfl, by decide +kernel, rfl, by decide +kernel, by decide +kernel⟩
def spOddI : Sp := fun vs H Q _ => ∃ (n k : Nat), vs = [.int n, .int k] ∧ 2 ≤ n ∧ n ≤ 12 ∧ k < 10 ∧ ∀ (v : V) (dv : PyData) H', Same H H' → (∀ H2, KeepT H' H2 → Rdd H2 v dv) → belowD n dv = false → Sm dv 1 300 → tyd dv ≠ "list" → Q v H'
theorem sm_int {i : Int} (h : i.natAbs.log2 < 1000) (w : (PyData.shown (.int i)).length ≤ 300) : Sm (.int i) 1 300 := ⟨by simp only [gp]; exact decide_eq_true h, Nat.zero_le _, by simp only [wt]; exact w⟩
theorem small_ints : ∀ n, n < 13 → (PyData.shown (.int ((n : Nat) : Int))).length ≤ 300 ∧ (PyData.shown (.int (((n : Nat) : Int) + 7))).length ≤ 300 ∧ (PyData.shown (.int (-((n : Nat) : Int)))).length ≤ 300 := by decide +kernel
section
variable {P : Program} {w : World} {K : PySem.W.Frag} {mg : Str → Option Value} {base : Heap} {f : Addr} {fd : FuncData}
theorem ok_oddi (F : Fd K "_law_odd_index" sOddI f fd) (g : mg "_law_odd_index" = some (.ref f)) (B : Bl mg) : Ok P w K mg base CX0 1 "_law_odd_index" sOddI ["readers", "k"] spOddI := by
  refine ⟨f, fd, g, F, F.bindsN fun _ _ _ _ _ _ us hl => match us, hl with | [_, _], _ => rfl, F.ok scOddI (fun vs H Q E h => ?_) (fun cdv A outer s H vs Q E hr h => ?_)⟩
  · obtain ⟨n, k, rfl, _⟩ := h
    rfl
  · refine ⟨_, (pss_one (ps_ret (pe_ix ix_seq (pe_lst (pa_cons (pv 0) (pa_cons (pe_un un_neg pe_int) (pa_cons pe_non (pa_cons pe_bl (pa_cons pe_str (pa_cons pe_bl (pa_cons (pe_tup (pa_cons pe_int pa_nil)) (pa_cons (pe_op op_add (pv 0) pe_int) (pa_cons (pe_op op_pow pe_int pe_int) (pa_cons (pe_un un_neg (pv 0)) pa_nil))))))))))) (pe_op op_mod (pv 1) pe_int) fun _ _ => rfl))), ?_⟩
    obtain ⟨n, k, rfl, n2, n12, hk, q⟩ := h
    refine ⟨_, rfl, _, rfl, two_ln (by show 1 ≤ _; decide), fun T hT => ?_⟩
    have k_T := upd_grow (o := .tup [.int 0]) hT
    have h_T := upd_same (H := H) (a := T) (o := .tup [.int 0])
    generalize upd H T (.tup [.int 0]) = H1 at k_T h_T ⊢
    refine ⟨_, rfl, _, _, rfl, rfl, _, _, rfl, rfl, ⟨by decide, by decide, by decide⟩, _, rfl, _, rfl, two_ln (by show 10 ≤ _; decide), fun L hL => ?_⟩
    refine ⟨_, rfl, _, _, rfl, rfl, (by show (0 : Int) < 10; decide), ?_⟩
    have kL : Same H1 (upd H1 L (.lst [.int (n : Nat), .int (-1), .non, .bl true, .str "0", .bl false, .ref T, .int ((n : Nat) + 7), .int (10 ^ (19 : Int).toNat), .int (-(n : Nat))])) := upd_grow hL
    have km : ((k : Nat) : Int) % 10 = ((k : Nat) : Int) := by omega
    obtain ⟨s1, s2, s3⟩ := small_ints n (by omega)
    have lg : ∀ i : Int, i.natAbs ≤ 100 → i.natAbs.log2 < 1000 := fun i h => Nat.lt_of_le_of_lt (Nat.log2_le_self _) (by omega)
    have big : Sm (.int (10 ^ 19)) 1 300 := sm_int (by decide +kernel) (by decide +kernel)
    have fin : ∀ (v : V) (dv : PyData), ([.int (n : Nat), .int (-1), .non, .bl true, .str "0", .bl false, .ref T, .int ((n : Nat) + 7), .int (10 ^ (19 : Int).toNat), .int (-(n : Nat))] : List V)[k]? = some v → (∀ H2, KeepT (upd H1 L (.lst [.int (n : Nat), .int (-1), .non, .bl true, .str "0", .bl false, .ref T, .int ((n : Nat) + 7), .int (10 ^ (19 : Int).toNat), .int (-(n : Nat))])) H2 → Rdd H2 v dv) →
        belowD n dv = false → Sm dv 1 300 → tyd dv ≠ "list" → rIx K (.ref L) (.int ((k : Nat) % 10)) (upd H1 L (.lst [.int (n : Nat), .int (-1), .non, .bl true, .str "0", .bl false, .ref T, .int ((n : Nat) + 7), .int (10 ^ (19 : Int).toNat), .int (-(n : Nat))])) Q := by
      intro v dv e r b s t
      rw [km]
      exact ixAt upd_same (atI_nat e) (q v dv _ (k_T.trans kL) r b s t)
    have ib : ∀ i : Int, ¬ (0 ≤ i ∧ i < n) → belowD n (.int i) = false := fun i h => by
      simp only [belowD]
      by_cases h0 : 0 ≤ i
      · rw [decide_eq_true h0, decide_eq_false (fun z => h ⟨h0, z⟩)] <;> rfl
      · rw [decide_eq_false h0] <;> rfl
    have e19 : (10 : Int) ^ (19 : Int).toNat = 10000000000000000000 := by decide +kernel
    have h8 : belowD n (.int (10 ^ (19 : Int).toNat)) = false := ib _ fun z => by omega
    match k, hk, fin with
    | 0, _, fin => exact fin _ _ rfl (fun _ _ => .int _) (ib _ (by omega)) (sm_int (lg _ (by omega)) s1) (by simp [tyd])
    | 1, _, fin => exact fin _ _ rfl (fun _ _ => .int _) (ib _ (by omega)) (sm_int (by decide +kernel) (by decide +kernel)) (by simp [tyd])
    | 2, _, fin => exact fin _ _ rfl (fun _ _ => .non) rfl ⟨rfl, by decide, by decide⟩ (by simp [tyd])
    | 3, _, fin => exact fin _ _ rfl (fun _ _ => .bl _) rfl ⟨rfl, by decide, by decide⟩ (by simp [tyd])
    | 4, _, fin => exact fin _ _ rfl (fun _ _ => .str _) rfl ⟨by decide +kernel, by decide, by decide +kernel⟩ (by simp [tyd])
    | 5, _, fin => exact fin _ _ rfl (fun _ _ => .bl _) rfl ⟨rfl, by decide, by decide⟩ (by simp [tyd])
    | 6, _, fin => exact fin _ (.tuple [.int 0]) rfl (fun _ kt => .tup (kt _ _ (kL _ _ h_T)) (.cons (.int _) .nil)) rfl ⟨by decide +kernel, by decide, by decide +kernel⟩ (by simp [tyd])
    | 7, _, fin => exact fin _ _ rfl (fun _ _ => .int _) (ib _ (by omega)) (sm_int (lg _ (by omega)) s2) (by simp [tyd])
    | 8, _, fin => exact fin _ _ rfl (fun _ _ => .int _) h8 big (by simp [tyd])
    | 9, _, fin => exact fin _ _ rfl (fun _ _ => .int _) (ib _ (by omega)) (sm_int (lg _ (by omega)) s3) (by simp [tyd])
end
end K10

namespace K10
open PySem PySem.Spec PyProof.Rows L2 Tn TL
abbrev sOddF : Stmt := top 42
theorem scOddF : FnScope ["founds", "k", "own", "lines", "items", "odd"] ["founds", "k"] (defScope sOddF) := ⟨rfl, rfl, rfl, by decide +kernel, rfl, by decide +kernel, by decide +kernel⟩
/-- what is no founds: a new thing -/
structure OddD (H H' : Hp) (v : V) (d : PyData) : Prop where
  r : Rdd H' v d
  no : foundsB d = false
  few : fewD d
  sm : Sm d 6 360000
  l : ∀ (a : Addr) (xs : List V) (ds : List PyData), v = .ref a → H' a = some (.lst xs) → d = .list ds → H a = none ∧ RddAll (L2.del H' a) xs ds
theorem fb_all {ds : List PyData} {d : PyData} (m : d ∈ ds) (h : foundB d = false) : foundsB (.list ds) = false := by
  unfold foundsB
  show (decide (1 ≤ ds.length) && (decide (ds.length ≤ 12) && (ds.all foundB && ownsB (ds.map fstD)))) = false
  have z : ds.all foundB = false := by
    rw [← Bool.not_eq_true, List.all_eq_true]
    intro al
    rw [al d m] at h
    cases h
  rw [z]
  simp
theorem fb_own {ds : List PyData} (h : ownsB (ds.map fstD) = false) : foundsB (.list ds) = false := by
  unfold foundsB
  show (decide (1 ≤ ds.length) && (decide (ds.length ≤ 12) && (ds.all foundB && ownsB (ds.map fstD)))) = false
  rw [h]
  simp
theorem ob_bad {os : List PyData} {d : PyData} (m : d ∈ os) (n : isNoneD d = false) (h : strD nameS d = false) : ownsB os = false := by
  unfold ownsB
  have z : (known os).all (strD nameS) = false := by
    rw [← Bool.not_eq_true, List.all_eq_true]
    intro al
    rw [al d (List.mem_filter.mpr ⟨m, by rw [n]; rfl⟩)] at h
    cases h
  rw [z]
  rfl
theorem ob_twice {os : List PyData} {z : Str} : ownsB (os ++ [.str z, .str z]) = false := by
  unfold ownsB
  have e : (known (os ++ [.str z, .str z])).filterMap strOf = (known os).filterMap strOf ++ [z, z] := by
    unfold known
    rw [List.filter_append, List.filterMap_append]
    rfl
  rw [e]
  have n : ¬ ((known os).filterMap strOf ++ [z, z]).Nodup := fun h => by
    have := (List.nodup_append.mp h).2.1
    simp at this
  rw [decide_eq_false n, Bool.and_false]
theorem linesOf_list (ds : List PyData) : linesOf (.list ds) = if (ds.all (fun x => (lineOf x).isSome) && decide (ds.filterMap lineOf).Nodup) = true then some (ds.filterMap lineOf) else none := rfl
theorem lb_twice {ls : List Line} {l : Line} (g : ∀ x ∈ ls, lineS x = true) (gl : lineS l = true) : (linesOf (.list (ls.map dLine ++ [dLine l, dLine l]))).isSome = false := by
  rw [linesOf_list]
  have e : ((ls.map dLine ++ [dLine l, dLine l]).filterMap lineOf) = (ls.map dLine).filterMap lineOf ++ [l, l] := by
    rw [List.filterMap_append, List.filterMap_cons_some (lineOf_good gl), List.filterMap_cons_some (lineOf_good gl)]
    rfl
  have n : ¬ ((ls.map dLine).filterMap lineOf ++ [l, l]).Nodup := fun h => by
    have := (List.nodup_append.mp h).2.1
    simp at this
  rw [e, decide_eq_false n, Bool.and_false, if_neg Bool.false_ne_true]
  rfl
theorem lb_bad {ds : List PyData} : (linesOf (.list (ds ++ [.str "x"]))).isSome = false := by
  rw [linesOf_list]
  have n : ((ds ++ [PyData.str "x"]).all fun x => (lineOf x).isSome) = false := by
    rw [List.all_append]
    show (_ && false) = false
    rw [Bool.and_false]
  rw [n, Bool.false_and, if_neg Bool.false_ne_true]
  rfl
theorem rdds_set {H : Hp} {v : V} {d : PyData} (r : Rdd H v d) : ∀ {xs : List V} {ds : List PyData} (i : Nat), RddAll H xs ds → RddAll H (xs.set i v) (ds.set i d)
  | _, _, _, .nil => .nil
  | _, _, 0, .cons _ t => .cons r t
  | _, _, i + 1, .cons q t => .cons q (rdds_set r i t)
theorem rdds_app {H : Hp} : ∀ {xs ys : List V} {ds es : List PyData}, RddAll H xs ds → RddAll H ys es → RddAll H (xs ++ ys) (ds ++ es)
  | _, _, _, _, .nil, h => h
  | _, _, _, _, .cons q t, h => .cons q (rdds_app t h)
theorem mem_set {α : Type} : ∀ {l : List α} {i : Nat} {a x : α}, x ∈ l.set i a → x = a ∨ x ∈ l
  | [], _, _, _, m => by simp at m
  | _ :: l, 0, a, x, m => (List.mem_cons.mp m).imp id (List.mem_cons_of_mem _)
  | b :: l, i + 1, a, x, m => by
    rcases List.mem_cons.mp m with e | m
    · exact .inr (e ▸ List.mem_cons_self)
    · exact (mem_set m).imp id (List.mem_cons_of_mem _)
theorem sm_twoL {a b : PyData} {h n m : Nat} (x : Sm a h n) (y : Sm b h m) : Sm (.list [a, b]) (h + 1) (n + m + 7) := by
  have := x.dp
  have := y.dp
  have := x.w
  have := y.w
  refine ⟨by simp only [gp, gpAll, x.g, y.g, Bool.and_true], ?_, ?_⟩
  · simp only [PyData.depth, PyData.depthAll]
    omega
  · simp only [wt, wtAll]
    omega
theorem sm_three {a b c : PyData} {h n m k : Nat} (x : Sm a h n) (y : Sm b h m) (z : Sm c h k) : Sm (.tuple [a, b, c]) (h + 1) (n + m + k + 9) := by
  have := x.dp
  have := y.dp
  have := z.dp
  have := x.w
  have := y.w
  have := z.w
  refine ⟨by simp only [gp, gpAll, x.g, y.g, z.g, Bool.and_true], ?_, ?_⟩
  · simp only [PyData.depth, PyData.depthAll]
    omega
  · simp only [wt, wtAll]
    omega
theorem annx_good : lineS ("ann", "x") = true := by decide +kernel
theorem odd_flat {H H' : Hp} {v : V} {d : PyData} (r : Rdd H' v d) (no : rowD d = none) (sm : Sm d 6 360000) : OddD H H' v d := by
  refine ⟨r, (by unfold foundsB; rw [no]), (fun ds e => by rw [no] at e; cases e), sm, fun a xs ds _ _ ed => ?_⟩
  rw [ed] at no
  cases no
theorem ixN_nat {n k : Nat} (h : k < n) : ixN n (k : Int) = some k := by
  unfold ixN
  rw [if_pos (Int.natCast_nonneg k), if_pos (by omega)]
  rfl
theorem mem_set_self {α : Type} {l : List α} {i : Nat} {a : α} (h : i < l.length) : a ∈ l.set i a := by
  refine List.mem_iff_getElem?.mpr ⟨i, ?_⟩
  rw [List.getElem?_set_self h]
theorem sm_more {w : Str} {ds : List PyData} {m n h : Nat} (x : Sm (.str w) 0 100) (s : Sm (.list ds) h n) (b : n + 400 ≤ m) (hh : 1 ≤ h) : Sm (two w (.list (ds ++ [.str "more"]))) (h + 1) m := by
  have e : gpAll (ds ++ [PyData.str "more"]) = true ∧ PyData.depthAll (ds ++ [PyData.str "more"]) = PyData.depthAll ds ∧ wtAll (ds ++ [PyData.str "more"]) = wtAll ds + wt (PyData.str "more") + 2 := by
    have g := s.g
    simp only [gp] at g
    clear s b hh
    induction ds with
    | nil => exact ⟨by decide +kernel, rfl, by simp [wtAll]⟩
    | cons d ds ih =>
      simp only [gpAll, Bool.and_eq_true] at g
      obtain ⟨a1, a2, a3⟩ := ih g.2
      refine ⟨by simp only [List.cons_append, gpAll, g.1, a1, Bool.and_true], by simp only [List.cons_append, PyData.depthAll, a2], by simp only [List.cons_append, wtAll, a3]; omega⟩
  have wm : wt (PyData.str "more") = 42 := by decide +kernel
  have s2 : Sm (.list (ds ++ [PyData.str "more"])) h (n + 44) := by
    have dp := s.dp
    have w := s.w
    simp only [PyData.depth] at dp
    simp only [wt] at w
    refine ⟨by simp only [gp]; exact e.1, by simp only [PyData.depth, e.2.1]; exact dp, by simp only [wt]; have z := e.2.2; rw [wm] at z; omega⟩
  exact (sm_said x s2).up (Nat.le_refl _) (by omega)
def spOddF : Sp := fun vs H Q _ => ∃ (l : Addr) (xs : List V) (fs : List Fnd) (k : Nat) (M : List Addr), vs = [.ref l, .int k] ∧ H l = some (.lst xs) ∧ All2 (FAt M H) fs xs ∧ FsOk fs ∧ 2 ≤ fs.length ∧ fs.length ≤ 12 ∧ k < 10 ∧
  ∀ v d H', Same H H' → OddD H H' v d → Q v H'
section
variable {P : Program} {w : World} {K : PySem.W.Frag} {mg : Str → Option Value} {base : Heap} {f : Addr} {fd : FuncData}
theorem ok_oddf (F : Fd K "_law_odd_founds" sOddF f fd) (g : mg "_law_odd_founds" = some (.ref f)) (B : Bl mg) : Ok P w K mg base CX0 1 "_law_odd_founds" sOddF ["founds", "k"] spOddF := by
  refine ⟨f, fd, g, F, F.bindsN fun _ _ _ _ _ _ us hl => match us, hl with | [_, _], _ => rfl, F.ok scOddF (fun vs H Q E h => ?_) (fun cdv A outer s H vs Q E hr h => ?_)⟩
  · obtain ⟨l, xs, fs, k, M, rfl, _⟩ := h
    rfl
  · refine ⟨_, (pss_cons (ps_asg (pe_ix ix_seq (pv 0) (pe_op op_mod (pv 1) (pe_callB call_len (by rfl) (B.u "len" (by decide +kernel)) boot_len (pa_cons (pv 0) pa_nil))) fun _ _ => rfl) (pg_tup rfl (pgs_cons (pg_name (i := 2) scOddF.nd rfl (Or.inl rfl)) (pgs_cons (pg_name (i := 3) scOddF.nd rfl (Or.inl rfl)) pgs_nil))))
      (pss_cons (ps_set (i := 4) scOddF.nd rfl (Or.inl rfl) (pe_callTy call_list_of (by rfl) (B.u "list" (by decide +kernel)) (by decide +kernel) (pa_cons (pv 0) pa_nil)))
      (pss_cons (ps_set (i := 5) scOddF.nd rfl (Or.inl rfl) (pe_lst (pa_cons (pe_lst (pa_cons (pv 2) (pa_cons (pv 3) pa_nil))) (pa_cons (pe_tup (pa_cons pe_str (pa_cons (pv 3) pa_nil))) (pa_cons (pe_tup (pa_cons (pv 2) (pa_cons (pe_op op_cat (pv 3) (pe_lst (pa_cons (pe_tup (pa_cons pe_str (pa_cons pe_str pa_nil))) (pa_cons (pe_tup (pa_cons pe_str (pa_cons pe_str pa_nil))) pa_nil)))) pa_nil))) (pa_cons (pe_tup (pa_cons (pv 2) (pa_cons (pv 3) (pa_cons pe_int pa_nil)))) (pa_cons (pe_tup (pa_cons (pv 2) (pa_cons (pe_op op_cat (pv 3) (pe_lst (pa_cons pe_str pa_nil))) pa_nil))) pa_nil)))))))
      (pss_cons (ps_asg (pe_ix ix_seq (pv 5) (pe_op op_mod (pv 1) pe_int) fun _ _ => rfl) (pg_sub (pv 4) (pe_op op_mod (pv 1) (pe_callB call_len (by rfl) (B.u "len" (by decide +kernel)) boot_len (pa_cons (pv 0) pa_nil))) set_list fun _ => rfl))
      (pss_one (ps_ret (pe_ix ix_seq (pe_lst (pa_cons (pv 4) (pa_cons (pe_lst pa_nil) (pa_cons pe_non (pa_cons (pv 4) (pa_cons pe_str (pa_cons (pe_op op_cat (pv 0) (pe_lst (pa_cons (pe_tup (pa_cons pe_str (pa_cons (pe_lst pa_nil) pa_nil))) (pa_cons (pe_tup (pa_cons pe_str (pa_cons (pe_lst pa_nil) pa_nil))) pa_nil)))) (pa_cons (pv 4) (pa_cons (pv 4) (pa_cons (pe_tup pa_nil) (pa_cons (pv 4) pa_nil))))))))))) (pe_op op_mod (pv 1) pe_int) fun _ _ => rfl))))))), ?_⟩
    obtain ⟨l, xs, fs, k, M, rfl, hl, fx, ok, n2, n12, hk, q⟩ := h
    have lx := fx.len
    have n0 : 0 < xs.length := by omega
    obtain ⟨pos, hpos⟩ : ∃ p : Nat, p = k % xs.length := ⟨_, rfl⟩
    have hp : pos < fs.length := by rw [hpos, ← lx]; exact Nat.mod_lt _ n0
    have em : ((k : Nat) : Int) % ((xs.length : Nat) : Int) = ((pos : Nat) : Int) := by rw [hpos]; exact (Int.natCast_emod k xs.length).symm
    have ef := List.getElem?_eq_getElem hp
    have okf := ok.lin _ (List.getElem_mem hp)
    have oko := ok.own _ (List.getElem_mem hp)
    obtain ⟨y, hy, t, q0, ys, rfl, -, ht, -, hq, la⟩ := All2.get fx ef
    generalize (fs[pos]).1 = ow at ht oko
    generalize (fs[pos]).2 = ls at la okf
    obtain ⟨gl, nd, l40⟩ := okf
    have lys := la.len
    refine ⟨_, rfl, _, rfl, _, rfl, _, _, rfl, .inl ⟨_, SqL.of hl, rfl⟩, _, _, rfl, rfl, (by show (0 : Int) < xs.length; omega), ?_⟩
    dsimp only
    rw [em]
    refine ixAt hl (atI_nat hy) ⟨t, _, rfl, SqT.of ht, rfl, _, _, rfl, _, _, rfl, rfl, ?_⟩
    refine ⟨_, rfl, l, xs, rfl, .inl (SqL.of hl), fun It hIt => ?_⟩
    have k_It := upd_grow (o := .lst xs) hIt
    have h_It := upd_same (H := H) (a := It) (o := .lst xs)
    generalize upd H It (.lst xs) = H1 at k_It h_It ⊢
    have hq1 := k_It _ _ hq
    refine ⟨_, rfl, _, rfl, two_ln (by show 2 ≤ _; decide), fun O0 hO0 => ?_⟩
    have k_O0 := upd_grow (o := .lst [ownV ow, .ref q0]) hO0
    have h_O0 := upd_same (H := H1) (a := O0) (o := .lst [ownV ow, .ref q0])
    generalize upd H1 O0 (.lst [ownV ow, .ref q0]) = H2 at k_O0 h_O0 ⊢
    refine ⟨_, rfl, two_ln (by show 2 ≤ _; decide), fun O1 hO1 => ?_⟩
    have k_O1 := upd_grow (o := .tup [.str "Ann", .ref q0]) hO1
    have h_O1 := upd_same (H := H2) (a := O1) (o := .tup [.str "Ann", .ref q0])
    generalize upd H2 O1 (.tup [.str "Ann", .ref q0]) = H3 at k_O1 h_O1 ⊢
    refine ⟨_, rfl, _, rfl, two_ln (by show 2 ≤ _; decide), fun T1 hT1 => ?_⟩
    have k_T1 := upd_grow (o := .tup [.str "ann", .str "x"]) hT1
    have h_T1 := upd_same (H := H3) (a := T1) (o := .tup [.str "ann", .str "x"])
    generalize upd H3 T1 (.tup [.str "ann", .str "x"]) = H4 at k_T1 h_T1 ⊢
    refine ⟨two_ln (by show 2 ≤ _; decide), fun T2 hT2 => ?_⟩
    have k_T2 := upd_grow (o := .tup [.str "ann", .str "x"]) hT2
    have h_T2 := upd_same (H := H4) (a := T2) (o := .tup [.str "ann", .str "x"])
    generalize upd H4 T2 (.tup [.str "ann", .str "x"]) = H5 at k_T2 h_T2 ⊢
    refine ⟨two_ln (by show 2 ≤ _; decide), fun LT hLT => ?_⟩
    have k_LT := upd_grow (o := .lst [.ref T1, .ref T2]) hLT
    have h_LT := upd_same (H := H5) (a := LT) (o := .lst [.ref T1, .ref T2])
    generalize upd H5 LT (.lst [.ref T1, .ref T2]) = H6 at k_LT h_LT ⊢
    have k16 : Same H1 H6 := k_O0.trans (k_O1.trans (k_T1.trans (k_T2.trans k_LT)))
    refine ⟨q0, LT, _, _, rfl, rfl, k16 _ _ hq1, h_LT, two_ln (by show ys.length + 2 ≤ _; omega), fun C2 hC2 => ?_⟩
    have k_C2 := upd_grow (o := .lst (ys ++ [.ref T1, .ref T2])) hC2
    have h_C2 := upd_same (H := H6) (a := C2) (o := .lst (ys ++ [.ref T1, .ref T2]))
    generalize upd H6 C2 (.lst (ys ++ [.ref T1, .ref T2])) = H7 at k_C2 h_C2 ⊢
    refine ⟨two_ln (by show 2 ≤ _; decide), fun O2 hO2 => ?_⟩
    have k_O2 := upd_grow (o := .tup [ownV ow, .ref C2]) hO2
    have h_O2 := upd_same (H := H7) (a := O2) (o := .tup [ownV ow, .ref C2])
    generalize upd H7 O2 (.tup [ownV ow, .ref C2]) = H8 at k_O2 h_O2 ⊢
    refine ⟨_, rfl, _, rfl, two_ln (by show 3 ≤ _; decide), fun O3 hO3 => ?_⟩
    have k_O3 := upd_grow (o := .tup [ownV ow, .ref q0, .int 0]) hO3
    have h_O3 := upd_same (H := H8) (a := O3) (o := .tup [ownV ow, .ref q0, .int 0])
    generalize upd H8 O3 (.tup [ownV ow, .ref q0, .int 0]) = H9 at k_O3 h_O3 ⊢
    refine ⟨_, rfl, _, rfl, two_ln (by show 1 ≤ _; decide), fun LX hLX => ?_⟩
    have k_LX := upd_grow (o := .lst [.str "x"]) hLX
    have h_LX := upd_same (H := H9) (a := LX) (o := .lst [.str "x"])
    generalize upd H9 LX (.lst [.str "x"]) = HA at k_LX h_LX ⊢
    have k1A : Same H1 HA := k16.trans (k_C2.trans (k_O2.trans (k_O3.trans k_LX)))
    refine ⟨q0, LX, _, _, rfl, rfl, k1A _ _ hq1, h_LX, two_ln (by show ys.length + 1 ≤ _; omega), fun C4 hC4 => ?_⟩
    have k_C4 := upd_grow (o := .lst (ys ++ [.str "x"])) hC4
    have h_C4 := upd_same (H := HA) (a := C4) (o := .lst (ys ++ [.str "x"]))
    generalize upd HA C4 (.lst (ys ++ [.str "x"])) = HB at k_C4 h_C4 ⊢
    refine ⟨two_ln (by show 2 ≤ _; decide), fun O4 hO4 => ?_⟩
    have k_O4 := upd_grow (o := .tup [ownV ow, .ref C4]) hO4
    have h_O4 := upd_same (H := HB) (a := O4) (o := .tup [ownV ow, .ref C4])
    generalize upd HB O4 (.tup [ownV ow, .ref C4]) = HC at k_O4 h_O4 ⊢
    refine ⟨two_ln (by show 5 ≤ _; decide), fun Od hOd => ?_⟩
    have k_Od := upd_grow (o := .lst [.ref O0, .ref O1, .ref O2, .ref O3, .ref O4]) hOd
    have h_Od := upd_same (H := HC) (a := Od) (o := .lst [.ref O0, .ref O1, .ref O2, .ref O3, .ref O4])
    generalize upd HC Od (.lst [.ref O0, .ref O1, .ref O2, .ref O3, .ref O4]) = HD at k_Od h_Od ⊢
    have k9D : Same H9 HD := k_LX.trans (k_C4.trans (k_O4.trans k_Od))
    have k6D : Same H6 HD := k_C2.trans (k_O2.trans (k_O3.trans k9D))
    have k1D : Same H1 HD := k16.trans k6D
    have m5 : ((k : Nat) : Int) % 5 = ((k % 5 : Nat) : Int) := by omega
    dsimp only [gName]
    obtain ⟨vo, hvo⟩ : ∃ v, ([.ref O0, .ref O1, .ref O2, .ref O3, .ref O4] : List V)[k % 5]? = some v := ⟨_, List.getElem?_eq_getElem (by show k % 5 < 5; omega)⟩
    refine ⟨_, rfl, _, rfl, _, _, rfl, rfl, (by show (0 : Int) < 5; decide), ?_⟩
    dsimp only
    rw [m5]
    refine ixAt h_Od (atI_nat hvo) ?_
    have hlD := k1D _ _ (k_It _ _ hl)
    have hItD := k1D _ _ h_It
    refine ⟨_, rfl, _, rfl, _, rfl, _, _, rfl, .inl ⟨_, SqL.of hlD, rfl⟩, _, _, rfl, rfl, (by show (0 : Int) < xs.length; omega), It, xs, _, pos, rfl, rfl, hItD, (by rw [em]; exact ixN_nat (by omega)), ?_⟩
    have nl : l ≠ It := ne_of_none hl hIt
    have kE : But It HD (upd HD It (.lst (xs.set pos vo))) := But.upd
    have h_ItE : (upd HD It (.lst (xs.set pos vo))) It = some (.lst (xs.set pos vo)) := upd_same
    generalize upd HD It (.lst (xs.set pos vo)) = HE at kE h_ItE ⊢
    refine ⟨_, rfl, two_ln (by decide), fun E1 hE1 => ?_⟩
    have k_E1 := upd_grow (o := .lst []) hE1
    have h_E1 := upd_same (H := HE) (a := E1) (o := .lst [])
    generalize upd HE E1 (.lst []) = HF at k_E1 h_E1 ⊢
    refine ⟨_, rfl, _, rfl, two_ln (by decide), fun E2 hE2 => ?_⟩
    have k_E2 := upd_grow (o := .lst []) hE2
    have h_E2 := upd_same (H := HF) (a := E2) (o := .lst [])
    generalize upd HF E2 (.lst []) = HG at k_E2 h_E2 ⊢
    refine ⟨two_ln (by show 2 ≤ _; decide), fun Z1 hZ1 => ?_⟩
    have k_Z1 := upd_grow (o := .tup [.str "zed", .ref E2]) hZ1
    have h_Z1 := upd_same (H := HG) (a := Z1) (o := .tup [.str "zed", .ref E2])
    generalize upd HG Z1 (.tup [.str "zed", .ref E2]) = HH at k_Z1 h_Z1 ⊢
    refine ⟨two_ln (by decide), fun E3 hE3 => ?_⟩
    have k_E3 := upd_grow (o := .lst []) hE3
    have h_E3 := upd_same (H := HH) (a := E3) (o := .lst [])
    generalize upd HH E3 (.lst []) = HI at k_E3 h_E3 ⊢
    refine ⟨two_ln (by show 2 ≤ _; decide), fun Z2 hZ2 => ?_⟩
    have k_Z2 := upd_grow (o := .tup [.str "zed", .ref E3]) hZ2
    have h_Z2 := upd_same (H := HI) (a := Z2) (o := .tup [.str "zed", .ref E3])
    generalize upd HI Z2 (.tup [.str "zed", .ref E3]) = HJ at k_Z2 h_Z2 ⊢
    refine ⟨two_ln (by show 2 ≤ _; decide), fun LZ hLZ => ?_⟩
    have k_LZ := upd_grow (o := .lst [.ref Z1, .ref Z2]) hLZ
    have h_LZ := upd_same (H := HJ) (a := LZ) (o := .lst [.ref Z1, .ref Z2])
    generalize upd HJ LZ (.lst [.ref Z1, .ref Z2]) = HK at k_LZ h_LZ ⊢
    have kFK : Same HF HK := k_E2.trans (k_Z1.trans (k_E3.trans (k_Z2.trans k_LZ)))
    have kEK : Same HE HK := k_E1.trans kFK
    refine ⟨l, LZ, _, _, rfl, rfl, kEK _ _ (kE _ _ nl hlD), h_LZ, two_ln (by show xs.length + 2 ≤ _; omega), fun FZ hFZ => ?_⟩
    have k_FZ := upd_grow (o := .lst (xs ++ [.ref Z1, .ref Z2])) hFZ
    have h_FZ := upd_same (H := HK) (a := FZ) (o := .lst (xs ++ [.ref Z1, .ref Z2]))
    generalize upd HK FZ (.lst (xs ++ [.ref Z1, .ref Z2])) = HL at k_FZ h_FZ ⊢
    refine ⟨_, rfl, _, rfl, two_ln (by decide), fun U hU => ?_⟩
    have k_U := upd_grow (o := .tup []) hU
    have h_U := upd_same (H := HL) (a := U) (o := .tup [])
    generalize upd HL U (.tup []) = HM at k_U h_U ⊢
    refine ⟨_, rfl, two_ln (by show 10 ≤ _; decide), fun R hR => ?_⟩
    have k_R := upd_grow (o := .lst [.ref It, .ref E1, .non, .ref It, .str "founds", .ref FZ, .ref It, .ref It, .ref U, .ref It]) hR
    have h_R := upd_same (H := HM) (a := R) (o := .lst [.ref It, .ref E1, .non, .ref It, .str "founds", .ref FZ, .ref It, .ref It, .ref U, .ref It])
    generalize upd HM R (.lst [.ref It, .ref E1, .non, .ref It, .str "founds", .ref FZ, .ref It, .ref It, .ref U, .ref It]) = HN at k_R h_R ⊢
    have kLN : Same HL HN := k_U.trans k_R
    have kKN : Same HK HN := k_FZ.trans kLN
    have kEN : Same HE HN := kEK.trans kKN
    have m10 : ((k : Nat) : Int) % 10 = ((k : Nat) : Int) := by omega
    refine ⟨_, rfl, _, _, rfl, rfl, (by show (0 : Int) < 10; decide), ?_⟩
    dsimp only
    rw [m10]
    have kHN : Same H HN := fun b o e => kEN _ _ (kE _ _ (ne_of_none e hIt) (k1D _ _ (k_It _ _ e)))
    have hItN : HN It = some (.lst (xs.set pos vo)) := kEN _ _ h_ItE
    have upD : ∀ b o, b ≠ It → HD b = some o → L2.del HN It b = some o := fun b o n e => by
      rw [del_ne n]
      exact kEN _ _ (kE _ _ n e)
    have k0D : Same H (L2.del HN It) := fun b o e => by
      rw [del_ne (ne_of_none e hIt)]
      exact kHN _ _ e
    have ni : ∀ {a : Addr} {X : Hp}, Same H1 X → X a = none → a ≠ It := fun k h e => by
      rw [e, k _ _ h_It] at h
      cases h
    have rAll : RddAll H xs (fs.map (dFnd true)) := by
      have z : Rdd H (.ref l) (.list (fs.map (dFnd true))) := (fs_list hl fx ok n2 n12).rdd
      cases z with
      | lst h r =>
        rw [hl] at h
        cases h
        exact r
    have smA : ∀ d ∈ fs.map (dFnd true), Sm d 3 19820 := fun d md => by
      obtain ⟨f', mf, rfl⟩ := List.mem_map.mp md
      exact sm_fnd (ok.own f' mf) (ok.lin f' mf).1 (ok.lin f' mf).2.2
    have fwA : ∀ d ∈ fs.map (dFnd true), fewL d := fun d md => few_good (b := true) ok _ (rowD_mk true _) d md
    have laD : LinesAt (L2.del HN It) ls ys := la.keep (KeepT.same k0D)
    have qD := k0D _ _ hq
    have sml := sm_lines (m := 40) gl l40
    have smo : Sm (ownD ow) 0 82 := sm_own oko
    have rl : Rdd (L2.del HN It) (.ref q0) (.list (ls.map dLine)) := .lst qD laD.rdd
    have lds : (fs.map (dFnd true)).length = fs.length := List.length_map _
    have item : ∀ dvo : PyData, Rdd (L2.del HN It) vo dvo → foundsB (.list ((fs.map (dFnd true)).set pos dvo)) = false → fewL dvo → Sm dvo 4 22000 → OddD H HN (.ref It) (.list ((fs.map (dFnd true)).set pos dvo)) := by
      intro dvo r no fw sm
      have ra := rdds_set r pos (rAll.mono k0D)
      refine ⟨.lst hItN (ra.mono del_le), no, fun ds e x m => ?_, ?_, fun a xs' ds ea ha ed => ?_⟩
      · obtain rfl := Option.some.inj e
        rcases mem_set m with rfl | m
        · exact fw
        · exact fwA x m
      · refine (sm_list (h := 5) (n := 22000) (m := 12) (fun d md => ?_) (by rw [List.length_set, lds]; exact n12)).up (Nat.le_refl _) (by decide)
        rcases mem_set md with rfl | md
        · exact sm.up (by decide : (4 : Nat) ≤ 5) (Nat.le_refl _)
        · exact (smA d md).up (by decide) (by decide)
      · obtain rfl : It = a := V.ref.inj ea
        rw [hItN] at ha
        obtain rfl := HO.lst.inj (Option.some.inj ha)
        obtain rfl := PyData.list.inj ed
        exact ⟨hIt, ra⟩
    have hO0D := (k_O1.trans (k_T1.trans (k_T2.trans (k_LT.trans k6D)))) _ _ h_O0
    have hO1D := (k_T1.trans (k_T2.trans (k_LT.trans k6D))) _ _ h_O1
    have hT1D := (k_T2.trans (k_LT.trans k6D)) _ _ h_T1
    have hT2D := (k_LT.trans k6D) _ _ h_T2
    have hC2D := (k_O2.trans (k_O3.trans k9D)) _ _ h_C2
    have hO2D := (k_O3.trans k9D) _ _ h_O2
    have hO3D := k9D _ _ h_O3
    have hC4D := (k_O4.trans k_Od) _ _ h_C4
    have hO4D := k_Od _ _ h_O4
    have dO0 := upD _ _ (ni (Same.refl H1) hO0) hO0D
    have dO1 := upD _ _ (ni k_O0 hO1) hO1D
    have dT1 := upD _ _ (ni (k_O0.trans k_O1) hT1) hT1D
    have dT2 := upD _ _ (ni (k_O0.trans (k_O1.trans k_T1)) hT2) hT2D
    have dC2 := upD _ _ (ni k16 hC2) hC2D
    have dO2 := upD _ _ (ni (k16.trans k_C2) hO2) hO2D
    have dO3 := upD _ _ (ni (k16.trans (k_C2.trans k_O2)) hO3) hO3D
    have dC4 := upD _ _ (ni k1A hC4) hC4D
    have dO4 := upD _ _ (ni (k1A.trans k_C4) hO4) hO4D
    have ro : Rdd (L2.del HN It) (ownV ow) (ownD ow) := own_rdd ow
    have hps : pos < (fs.map (dFnd true)).length := by rw [lds]; exact hp
    have fwl : ∀ a : PyData, fewL (.tuple [a, .list (ls.map dLine)]) := fun a ds e => by
      obtain rfl := Option.some.inj e
      rw [List.length_map]
      omega
    have tell : ∀ (v : V) (d : PyData), ([.ref It, .ref E1, .non, .ref It, .str "founds", .ref FZ, .ref It, .ref It, .ref U, .ref It] : List V)[k]? = some v → OddD H HN v d → rIx K (.ref R) (.int (k : Nat)) HN Q :=
      fun v d e o => ixAt h_R (atI_nat e) (q v d HN kHN o)
    have hFZN := kLN _ _ h_FZ
    have oFZ : H FZ = none := by
      cases e : H FZ with
      | none => rfl
      | some o => rw [kEK _ _ (kE _ _ (ne_of_none e hIt) (k1D _ _ (k_It _ _ e)))] at hFZ; cases hFZ
    have oE1 : H E1 = none := by
      cases e : H E1 with
      | none => rfl
      | some o => rw [kE _ _ (ne_of_none e hIt) (k1D _ _ (k_It _ _ e))] at hE1; cases hE1
    match k, hk, hvo, tell with
    | 0, _, hvo, tell =>
      obtain rfl := Option.some.inj hvo
      exact tell _ _ rfl (item (.list [ownD ow, .list (ls.map dLine)]) (.lst dO0 (.cons ro (.cons rl .nil))) (fb_all (mem_set_self hps) rfl) True.intro ((sm_twoL (smo.up (Nat.zero_le 2) (Nat.le_refl _)) sml).up (by decide) (by decide)))
    | 1, _, _, tell =>
      refine tell _ (.list []) rfl ⟨.lst ((kFK.trans kKN) _ _ h_E1) .nil, rfl, (fun ds e x m => by obtain rfl := Option.some.inj e; cases m), ⟨rfl, by decide, by decide⟩, fun a xs' ds ea ha ed => ?_⟩
      obtain rfl : E1 = a := V.ref.inj ea
      rw [(kFK.trans kKN) _ _ h_E1] at ha
      obtain rfl := HO.lst.inj (Option.some.inj ha)
      obtain rfl := PyData.list.inj ed
      exact ⟨oE1, .nil⟩
    | 2, _, _, tell => exact tell _ _ rfl (odd_flat .non rfl ⟨rfl, by decide, by decide⟩)
    | 3, _, hvo, tell =>
      obtain rfl := Option.some.inj hvo
      exact tell _ _ rfl (item (.tuple [ownD ow, .list (ls.map dLine), .int 0]) (.tup dO3 (.cons ro (.cons rl (.cons (.int 0) .nil)))) (fb_all (mem_set_self hps) rfl) True.intro ((sm_three (k := 10) (smo.up (Nat.zero_le 2) (Nat.le_refl _)) sml ⟨by decide +kernel, by decide, by decide +kernel⟩).up (by decide) (by decide)))
    | 4, _, _, tell => exact tell _ _ rfl (odd_flat (.str _) rfl ⟨by decide +kernel, by decide, by decide +kernel⟩)
    | 5, _, _, tell =>
      have up2 : ∀ b o, HK b = some o → L2.del HN FZ b = some o := fun b o e => by
        rw [del_ne (ne_of_none e hFZ)]
        exact kKN _ _ e
      have k0F : Same H (L2.del HN FZ) := fun b o e => by
        rw [del_ne (ne_of_none e oFZ)]
        exact kHN _ _ e
      have e2 := up2 _ _ ((k_Z1.trans (k_E3.trans (k_Z2.trans k_LZ))) _ _ h_E2)
      have z1 := up2 _ _ ((k_E3.trans (k_Z2.trans k_LZ)) _ _ h_Z1)
      have e3 := up2 _ _ ((k_Z2.trans k_LZ) _ _ h_E3)
      have z2 := up2 _ _ (k_LZ _ _ h_Z2)
      have rz : RddAll (L2.del HN FZ) (xs ++ [.ref Z1, .ref Z2]) (fs.map (dFnd true) ++ [.tuple [.str "zed", .list []], .tuple [.str "zed", .list []]]) :=
        rdds_app (rAll.mono k0F) (.cons (.tup z1 (.cons (.str _) (.cons (.lst e2 .nil) .nil))) (.cons (.tup z2 (.cons (.str _) (.cons (.lst e3 .nil) .nil))) .nil))
      have one : ∀ x ∈ fs.map (dFnd true) ++ [PyData.tuple [.str "zed", .list []], .tuple [.str "zed", .list []]], x ∈ fs.map (dFnd true) ∨ x = .tuple [.str "zed", .list []] := fun x m => by
        rcases List.mem_append.mp m with m | m
        · exact .inl m
        · exact .inr (by simpa using m)
      refine tell _ (.list (fs.map (dFnd true) ++ [.tuple [.str "zed", .list []], .tuple [.str "zed", .list []]])) rfl ⟨.lst hFZN (rz.mono del_le), fb_own ?_, fun ds e x m => ?_, ?_, fun a xs' ds ea ha ed => ?_⟩
      · rw [List.map_append]
        exact ob_twice
      · obtain rfl := Option.some.inj e
        rcases one x m with m | rfl
        · exact fwA x m
        · intro ds e
          obtain rfl := Option.some.inj e
          show 0 < 64
          decide
      · refine (sm_list (h := 3) (n := 19820) (m := 14) (fun d md => ?_) (by rw [List.length_append, lds]; show fs.length + 2 ≤ 14; omega)).up (by decide) (by decide)
        rcases one d md with md | rfl
        · exact smA d md
        · exact ⟨by decide +kernel, by decide, by decide +kernel⟩
      · obtain rfl : FZ = a := V.ref.inj ea
        rw [hFZN] at ha
        obtain rfl := HO.lst.inj (Option.some.inj ha)
        obtain rfl := PyData.list.inj ed
        exact ⟨oFZ, rz⟩
    | 6, _, hvo, tell =>
      obtain rfl := Option.some.inj hvo
      refine tell _ _ rfl (item (.tuple [.str "Ann", .list (ls.map dLine)]) (.tup dO1 (.cons (.str _) (.cons rl .nil))) (fb_own (ob_bad (d := .str "Ann") (List.mem_map.mpr ⟨_, mem_set_self hps, rfl⟩) rfl (by decide +kernel))) (fwl _) ((sm_two (n := 100) ⟨by decide +kernel, by decide, by decide +kernel⟩ sml).up (by decide) (by decide)))
    | 7, _, hvo, tell =>
      obtain rfl := Option.some.inj hvo
      have r2 : Rdd (L2.del HN It) (.ref C2) (.list (ls.map dLine ++ [dLine ("ann", "x"), dLine ("ann", "x")])) := .lst dC2 (rdds_app laD.rdd (.cons (tup_line dT1) (.cons (tup_line dT2) .nil)))
      refine tell _ _ rfl (item (.tuple [ownD ow, .list (ls.map dLine ++ [dLine ("ann", "x"), dLine ("ann", "x")])]) (.tup dO2 (.cons ro (.cons r2 .nil))) (fb_all (mem_set_self hps) (lb_twice gl annx_good)) ?_ ?_)
      · intro ds e
        obtain rfl := Option.some.inj e
        rw [List.length_append, List.length_map]
        show ls.length + 2 < 64
        omega
      · have s2 : Sm (.list (ls.map dLine ++ [dLine ("ann", "x"), dLine ("ann", "x")])) 2 (42 * 493 + 3) := by
          refine sm_list (n := 491) (fun d md => ?_) (by rw [List.length_append, List.length_map]; show ls.length + 2 ≤ 42; omega)
          rcases List.mem_append.mp md with md | md
          · obtain ⟨x, mx, rfl⟩ := List.mem_map.mp md
            exact sm_line (gl x mx)
          · have : d = dLine ("ann", "x") := by simpa using md
            rw [this]
            exact sm_line annx_good
        exact (sm_two (smo.up (Nat.zero_le 2) (Nat.le_refl _)) s2).up (by decide) (by decide)
    | 8, _, _, tell =>
      refine tell _ (.tuple []) rfl ⟨.tup (k_R _ _ h_U) .nil, rfl, (fun ds e x m => by obtain rfl := Option.some.inj e; cases m), ⟨rfl, by decide, by decide⟩, fun a xs' ds _ _ ed => by cases ed⟩
    | 9, _, hvo, tell =>
      obtain rfl := Option.some.inj hvo
      have r4 : Rdd (L2.del HN It) (.ref C4) (.list (ls.map dLine ++ [.str "x"])) := .lst dC4 (rdds_app laD.rdd (.cons (.str _) .nil))
      refine tell _ _ rfl (item (.tuple [ownD ow, .list (ls.map dLine ++ [PyData.str "x"])]) (.tup dO4 (.cons ro (.cons r4 .nil))) (fb_all (mem_set_self hps) lb_bad) ?_ ?_)
      · intro ds e
        obtain rfl := Option.some.inj e
        rw [List.length_append, List.length_map]
        show ls.length + 1 < 64
        omega
      · have s2 : Sm (.list (ls.map dLine ++ [.str "x"])) 2 (41 * 493 + 3) := by
          refine sm_list (n := 491) (fun d md => ?_) (by rw [List.length_append, List.length_map]; show ls.length + 1 ≤ 41; omega)
          rcases List.mem_append.mp md with md | md
          · obtain ⟨x, mx, rfl⟩ := List.mem_map.mp md
            exact sm_line (gl x mx)
          · have : d = .str "x" := by simpa using md
            rw [this]
            exact ⟨by decide +kernel, by decide, by decide +kernel⟩
        exact (sm_two (smo.up (Nat.zero_le 2) (Nat.le_refl _)) s2).up (by decide) (by decide)
end
end K10

namespace K10
open PySem PySem.Spec PyProof.Rows L2 Tn TL
abbrev sRefd : Stmt := top 43
theorem scRefd : FnScope ["founds", "box", "kind", "readers", "turn", "door", "k", "more", "bad", "i", "j", "odd"] ["founds", "box", "kind"] (defScope sRefd) := ⟨rfl, rfl, rfl, by decide +kernel, rfl, by decide +kernel, by decide +kernel⟩
theorem few_lines {d di : PyData} (f : fewD d) : (linesI d di).length < 64 := by
  unfold linesI
  cases di with
  | int i =>
    have key : ∀ x : PyData, fewL x → ((linesOf (snd x)).getD []).length < 64 := by
      intro x fx
      cases x with
      | tuple es =>
        match es with
        | [] => exact (by decide : 0 < 64)
        | [_] => exact (by decide : 0 < 64)
        | [a, ls] =>
          show ((linesOf ls).getD []).length < 64
          unfold linesOf
          cases e : rowD ls with
          | none => decide
          | some ds =>
            have n := fx ds e
            dsimp only
            by_cases c : (ds.all (fun x => (lineOf x).isSome) && decide (ds.filterMap lineOf).Nodup) = true
            · rw [if_pos c]
              exact Nat.lt_of_le_of_lt (List.length_filterMap_le _ _) n
            · rw [if_neg c]
              decide
        | _ :: _ :: _ :: _ => exact (by decide : 0 < 64)
      | _ => exact (by decide : 0 < 64)
    cases e : rowD d with
    | none => exact (by decide : 0 < 64)
    | some ds =>
      show ((linesOf (snd (ds.getD i.toNat .none))).getD []).length < 64
      refine key _ ?_
      rw [List.getD_eq_getElem?_getD]
      cases g : ds[i.toNat]? with
      | none => exact True.intro
      | some x => exact f ds e x (List.mem_of_getElem? g)
  | _ => exact (by decide : 0 < 64)
theorem Fs.noI {H : Hp} {l : Addr} {fs : List Fnd} {d : PyData} (f : Fs H l fs d) {vi vj : V} {di dj : PyData} (ri : Rdd H vi di) (rj : Rdd H vj dj) (b : belowD fs.length di = false) {door : Int} {Q : VK} (q : tl2 H Q [.str "index", vi]) : Ans (.ref l) vi vj d di dj door H Q := by
  refine ⟨f.rdd, f.sm.light (by decide), f.few, ri, rj, fun e => ?_, fun _ _ => q, fun _ e => ?_, fun _ e => ?_⟩
  · rw [f.fo] at e; cases e
  · rw [f.rd, b] at e; cases e
  · rw [f.rd, b] at e; cases e
theorem Fs.noJ {H : Hp} {l : Addr} {fs : List Fnd} {d : PyData} (f : Fs H l fs d) {vi vj : V} {di dj : PyData} (ri : Rdd H vi di) (rj : Rdd H vj dj) (b : belowD fs.length di = true) (c : badI fs.length di dj = true) {door : Int} {Q : VK} (q : tl2 H Q [.str "index", vj]) : Ans (.ref l) vi vj d di dj door H Q := by
  refine ⟨f.rdd, f.sm.light (by decide), f.few, ri, rj, fun e => ?_, fun _ e => ?_, fun _ _ _ => q, fun _ _ e => ?_⟩
  · rw [f.fo] at e; cases e
  · rw [f.rd, b] at e; cases e
  · rw [f.rd, c] at e; cases e
theorem OddD.ans {H0 H : Hp} {v vi vj : V} {d di dj : PyData} (o : OddD H0 H v d) (ri : Rdd H vi di) (rj : Rdd H vj dj) {door : Int} {Q : VK} (q : tl2 H Q [.str "founds", v]) : Ans v vi vj d di dj door H Q :=
  ⟨o.r, o.sm.light (by decide), o.few, ri, rj, fun _ => q, (fun e => by rw [o.no] at e; cases e), (fun e => by rw [o.no] at e; cases e), (fun e => by rw [o.no] at e; cases e)⟩
theorem same_ix {HT : Hp} {t : Addr} {v : V} {d : PyData} (ht : HT t = some (.lst [.str "index", v])) (r : ∀ H2, KeepT HT H2 → Rdd H2 v d) (sm : Sm d 1 300) (ty : tyd d ≠ "list") {u : Addr} (hu : HT u = none) {Q : VK} {E : XK} (q : ∀ HZ, Same HT HZ → Q (.bl true) HZ) :
    spSame [.ref t, .ref u] (upd HT u (.lst [.str "index", v])) Q E := by
  have k : Same HT (upd HT u (.lst [.str "index", v])) := upd_grow hu
  refine ⟨t, u, "index", v, v, d, rfl, k _ _ ht, upd_same, r _ (KeepT.same k), r _ (KeepT.same k), (sm_said sm_word.2.2 sm).fit (by decide) (by decide), fun _ HZ kZ => q HZ (k.trans kZ), fun _ a xs ds e => ?_⟩
  rw [e] at ty
  exact absurd rfl ty
theorem same_fo {H HX HW HT : Hp} {p t : Addr} {c : Nat} {v : V} {d : PyData} (kX : But p H HX) (bX : BoxAt HX p c) (od : OddD HX HW v d) (kO : Same HX HW) (kT : Same HW HT) (hn : HW t = none) (ht : HT t = some (.lst [.str "founds", v])) {u : Addr} (hu : HT u = none) {Q : VK} {E : XK}
    (q : ∀ HZ, But p H HZ → BoxAt HZ p c → Q (.bl true) HZ) : spSame [.ref t, .ref u] (upd HT u (.lst [.str "founds", v])) Q E := by
  have k : Same HT (upd HT u (.lst [.str "founds", v])) := upd_grow hu
  have kX2 : Same HX (upd HT u (.lst [.str "founds", v])) := kO.trans (kT.trans k)
  have ro := od.r.mono (kT.trans k)
  refine ⟨t, u, "founds", v, v, d, rfl, k _ _ ht, upd_same, ro, ro, (sm_said sm_word.2.1 od.sm).fit (by decide) (by decide), fun _ HZ kZ => q HZ (kX.trans (.of (kX2.trans kZ))) (bX.same (kX2.trans kZ)), fun _ a xs ds ed ev ha => ?_⟩
  subst ev
  subst ed
  cases od.r with
  | @lst _ xs' _ hO rr =>
    have e := (kT.trans k) _ _ hO
    rw [e] at ha
    obtain rfl := HO.lst.inj (Option.some.inj ha)
    obtain ⟨fa, rd⟩ := od.l a _ ds rfl hO rfl
    have na : a ≠ p := not_box bX fa
    refine ⟨rfl, (fun z => by rw [z, hn] at hO; cases hO), (fun z => by rw [z] at hO; rw [kT _ _ hO] at hu; cases hu), rd.mono (del_mono (kT.trans k)), (sm_more sm_word.2.1 od.sm (m := 400000) (by decide) (by decide)).fit (by decide) (by decide), fun HZ kZ _ => q HZ (fun b o nb e => kZ b o (ne_of_none (kX b o nb e) fa) (kX2 _ _ (kX b o nb e))) ?_⟩
    exact (bX.same kX2).imp fun us z => ⟨kZ _ _ na.symm z.1, z.2⟩
def spRefd : Sp := fun vs H Q _ => ∃ (l p : Addr) (xs : List V) (fs : List Fnd) (c : Nat) (kind : Int), vs = [.ref l, .ref p, .int kind] ∧ BoxAt H p c ∧ c + 1000 < 100000 ∧ H l = some (.lst xs) ∧ l ≠ p ∧ All2 (FAt [p] H) fs xs ∧ FsOk fs ∧ 2 ≤ fs.length ∧ fs.length ≤ 12 ∧
  ∀ H', But p H H' → Q (.bl true) H'
section
variable {P : Program} {w : World} {K : PySem.W.Frag} {mg : Str → Option Value} {base : Heap} {f : Addr} {fd : FuncData}
theorem ok_refd (F : Fd K "_law_refused" sRefd f fd) (g : mg "_law_refused" = some (.ref f)) (B : Bl mg) (o_law_take : Ok P w K mg base CX0 1 "_law_take" sTake ["box", "many"] spDraw1) (o_law_odd_index : Ok P w K mg base CX0 1 "_law_odd_index" sOddI ["readers", "k"] spOddI)
    (o_law_odd_founds : Ok P w K mg base CX0 1 "_law_odd_founds" sOddF ["founds", "k"] spOddF) (o_law_told : Ok P w K mg base CX0 10 "_law_told" sTold ["founds", "i", "j", "door", "kind"] spTold) (o_law_same : OkG P w K mg base 1 "_law_same" sSame ["told", "due"] spSame) :
    OkG P w K mg base 11 "_law_refused" sRefd ["founds", "box", "kind"] spRefd := by
  refine ⟨f, fd, g, F, F.bindsN fun _ _ _ _ _ _ us hl => match us, hl with | [_, _, _], _ => rfl, F.okG scRefd (fun vs H Q E h => ?_) (fun cdv A outer s H vs Q hgd hr h => ?_)⟩
  · obtain ⟨l, p, xs, fs, c, kind, rfl, _⟩ := h
    rfl
  · refine ⟨_, (pss_cons (ps_set (i := 3) scRefd.nd rfl (Or.inl rfl) (pe_callB call_len (by rfl) (B.u "len" (by decide +kernel)) boot_len (pa_cons (pv 0) pa_nil)))
      (pss_cons (ps_for (passes_of rfl) rfl (pi_range1 (by rfl) (B.u "range" (by decide +kernel)) (pa_cons pe_int pa_nil)) (pg_name (i := 4) scRefd.nd rfl (Or.inl rfl))
        (pss_cons (ps_par3 (i := 5) (j := 6) (l := 7) rfl scRefd.nd rfl rfl rfl (by decide) (by decide) (by decide) rfl rfl rfl (pa_cons (pe_op op_mod (pv 4) pe_int) (pa_cons (pe_o o_law_take (hr.mono (by decide)) (by rfl) (pa_cons (pv 1) (pa_cons pe_int pa_nil))) (pa_cons (pe_o o_law_take (hr.mono (by decide)) (by rfl) (pa_cons (pv 1) (pa_cons pe_int pa_nil))) pa_nil))) rfl)
        (pss_cons (ps_par3 (i := 8) (j := 9) (l := 10) rfl scRefd.nd rfl rfl rfl (by decide) (by decide) (by decide) rfl rfl rfl (pa_cons (pe_o o_law_odd_index (hr.mono (by decide)) (by rfl) (pa_cons (pv 3) (pa_cons (pv 6) pa_nil))) (pa_cons (pe_o o_law_take (hr.mono (by decide)) (by rfl) (pa_cons (pv 1) (pa_cons (pv 3) pa_nil))) (pa_cons (pe_o o_law_odd_index (hr.mono (by decide)) (by rfl) (pa_cons (pv 3) (pa_cons (pv 7) pa_nil))) pa_nil))) rfl)
        (pss_cons (ps_if (pt_not (pt_val (pe_oG o_law_same hgd (hr.mono (by decide)) (by rfl) (pa_cons (pe_o o_law_told (hr.mono (by decide)) (by rfl) (pa_cons (pv 0) (pa_cons (pv 8) (pa_cons (pv 10) (pa_cons (pv 5) (pa_cons (pv 2) pa_nil)))))) (pa_cons (pe_lst (pa_cons pe_str (pa_cons (pv 8) pa_nil))) pa_nil)))))
          (pss_one (ps_ret pe_bl))
          pss_nil)
        (pss_cons (ps_if (pt_not (pt_val (pe_oG o_law_same hgd (hr.mono (by decide)) (by rfl) (pa_cons (pe_o o_law_told (hr.mono (by decide)) (by rfl) (pa_cons (pv 0) (pa_cons (pv 8) (pa_cons (pv 9) (pa_cons (pv 5) (pa_cons (pe_op op_sub pe_int (pv 2)) pa_nil)))))) (pa_cons (pe_lst (pa_cons pe_str (pa_cons (pv 8) pa_nil))) pa_nil)))))
          (pss_one (ps_ret pe_bl))
          pss_nil)
        (pss_cons (ps_if (pt_not (pt_val (pe_oG o_law_same hgd (hr.mono (by decide)) (by rfl) (pa_cons (pe_o o_law_told (hr.mono (by decide)) (by rfl) (pa_cons (pv 0) (pa_cons (pv 9) (pa_cons (pv 10) (pa_cons (pv 5) (pa_cons (pv 2) pa_nil)))))) (pa_cons (pe_lst (pa_cons pe_str (pa_cons (pv 10) pa_nil))) pa_nil)))))
          (pss_one (ps_ret pe_bl))
          pss_nil)
        (pss_cons (ps_if (pt_not (pt_val (pe_oG o_law_same hgd (hr.mono (by decide)) (by rfl) (pa_cons (pe_o o_law_told (hr.mono (by decide)) (by rfl) (pa_cons (pv 0) (pa_cons (pv 9) (pa_cons (pv 9) (pa_cons (pv 5) (pa_cons (pe_op op_sub pe_int (pv 2)) pa_nil)))))) (pa_cons (pe_lst (pa_cons pe_str (pa_cons (pv 9) pa_nil))) pa_nil)))))
          (pss_one (ps_ret pe_bl))
          pss_nil)
        (pss_cons (ps_set (i := 11) scRefd.nd rfl (Or.inl rfl) (pe_o o_law_odd_founds (hr.mono (by decide)) (by rfl) (pa_cons (pv 0) (pa_cons (pv 6) pa_nil))))
        (pss_cons (ps_if (pt_not (pt_val (pe_oG o_law_same hgd (hr.mono (by decide)) (by rfl) (pa_cons (pe_o o_law_told (hr.mono (by decide)) (by rfl) (pa_cons (pv 11) (pa_cons (pv 9) (pa_cons (pv 8) (pa_cons (pv 5) (pa_cons (pv 2) pa_nil)))))) (pa_cons (pe_lst (pa_cons pe_str (pa_cons (pv 11) pa_nil))) pa_nil)))))
          (pss_one (ps_ret pe_bl))
          pss_nil)
        (pss_cons (ps_set (i := 11) scRefd.nd rfl (Or.inl rfl) (pe_o o_law_odd_founds (hr.mono (by decide)) (by rfl) (pa_cons (pv 0) (pa_cons (pv 7) pa_nil))))
        (pss_one (ps_if (pt_not (pt_val (pe_oG o_law_same hgd (hr.mono (by decide)) (by rfl) (pa_cons (pe_o o_law_told (hr.mono (by decide)) (by rfl) (pa_cons (pv 11) (pa_cons pe_int (pa_cons pe_int (pa_cons (pv 5) (pa_cons (pe_op op_sub pe_int (pv 2)) pa_nil)))))) (pa_cons (pe_lst (pa_cons pe_str (pa_cons (pv 11) pa_nil))) pa_nil)))))
          (pss_one (ps_ret pe_bl))
          pss_nil))))))))))))
      (pss_one (ps_ret pe_bl)))), ?_⟩
    obtain ⟨l, p, xs, fs, c, kind, rfl, bp, hc, hl, nlp, fx, ok, n2, n12, q⟩ := h
    have lx := fx.len
    have at_ : ∀ {X : Hp}, But p H X → X l = some (.lst xs) ∧ All2 (FAt [p] X) fs xs ∧ Fs X l fs (dF true fs) := fun {X} k => by
      have h1 := k _ _ nlp hl
      have h2 : All2 (FAt [p] X) fs xs := fx.imp fun f y z => z.bm (Bm.but List.mem_cons_self k) (KeepT.box bp k)
      exact ⟨h1, h2, fs_list h1 h2 ok n2 n12⟩
    refine ⟨_, rfl, _, _, rfl, .inl ⟨_, SqL.of hl, rfl⟩, ?_⟩
    dsimp only [gName]
    refine ⟨_, rfl, by decide, by decide, ?_⟩
    refine for_range (n := 4) (fun m σ H' => But p H H' ∧ BoxAt H' p (c + 3 * m) ∧ ∃ a4 a5 a6 a7 a8 a9 aA aB : Option V, σ = [some (.ref l), some (.ref p), some (.int kind), some (.int (xs.length : Nat)), a4, a5, a6, a7, a8, a9, aA, aB]) ⟨.of (Same.refl H), bp, none, none, none, none, none, none, none, none, rfl⟩ ?_ ?_
    · rintro m σ H1 hm ⟨k1, b1, a4, a5, a6, a7, a8, a9, aA, aB, rfl⟩
      have z0 : (0 : Int) + m = ((m : Nat) : Int) := by omega
      dsimp only [gName]
      refine ⟨_, rfl, _, _, rfl, rfl, (by show (0 : Int) < 2; decide), ?_⟩
      dsimp only
      generalize ((0 : Int) + (m : Int)) % 2 = door
      refine ⟨_, rfl, p, 10, _, rfl, b1, by omega, by decide, by decide, fun dk H2 dk0 dk1 k2 b2 e2 => ⟨_, rfl, p, 10, _, rfl, b2, by omega, by decide, by decide, fun dm H3 dm0 dm1 k3 b3 e3 => ⟨_, _, _, rfl, ?_⟩⟩⟩
      obtain ⟨kn, rfl⟩ : ∃ n : Nat, dk = n := ⟨dk.toNat, by omega⟩
      obtain ⟨mn, rfl⟩ : ∃ n : Nat, dm = n := ⟨dm.toNat, by omega⟩
      refine ⟨_, rfl, _, rfl, xs.length, kn, rfl, by omega, by omega, by omega, fun vb db H4 k4 rb bb sb tb => ?_⟩
      refine ⟨_, rfl, _, rfl, p, _, _, rfl, b3.same k4, by omega, by omega, by omega, fun di H5 di0 di1 k5 b5 e5 => ?_⟩
      obtain ⟨ii, rfl⟩ : ∃ n : Nat, di = n := ⟨di.toNat, by omega⟩
      refine ⟨_, rfl, _, rfl, xs.length, mn, rfl, by omega, by omega, by omega, fun vj dj H6 k6 rj bj sj tj => ⟨_, _, _, rfl, ?_⟩⟩
      have k06 : But p H H6 := k1.trans (k2.trans (k3.trans ((But.of k4).trans (k5.trans (.of k6)))))
      have b6 := (b5.same k6)
      have kt46 : KeepT H4 H6 := (KeepT.box (b3.same k4) k5).trans (KeepT.same k6)
      have bi : belowD fs.length (.int (ii : Nat)) = true := by
        simp only [belowD, Bool.and_eq_true, decide_eq_true_eq]
        omega
      rw [lx] at bb bj
      have bij : badI fs.length (.int (ii : Nat)) dj = true := by
        unfold badI
        rw [bj]
        rfl
      have bii : badI fs.length (.int (ii : Nat)) (.int (ii : Nat)) = true := by
        unfold badI sameI
        simp
      have si : Sm (.int (ii : Nat)) 1 300 := sm_int (Nat.lt_of_le_of_lt (Nat.log2_le_self _) (by omega)) (small_ints ii (by omega)).1
      have rI : ∀ X : Hp, Rdd X (.int (ii : Nat)) (.int (ii : Nat)) := fun _ => .int _
      obtain ⟨-, -, fo6⟩ := at_ k06
      refine ⟨_, rfl, _, rfl, _, rfl, _, rfl, _, rfl, .ref l, vb, vj, dF true fs, db, dj, door, kind, rfl, few_lines fo6.few, fo6.noI (rb _ kt46) (rj _ (KeepT.same (Same.refl H6))) bb fun t1 H7 k7 hn7 ht7 => ⟨_, rfl, two_ln (by show 2 ≤ _; decide), fun u1 hu1 => ?_⟩⟩
      dsimp only [tNil]
      refine same_ix ht7 (fun X kt => rb X (kt46.trans ((KeepT.same k7).trans kt))) sb tb hu1 fun H8 k8 => ⟨_, rfl, iteF ?_⟩
      have s68 := k7.trans k8
      have k08 := k06.trans (.of s68)
      obtain ⟨-, -, fo8⟩ := at_ k08
      refine ⟨_, rfl, _, rfl, _, rfl, _, rfl, _, rfl, _, _, rfl, rfl, .ref l, vb, .int (ii : Nat), dF true fs, db, .int (ii : Nat), door, 1 - kind, rfl, few_lines fo8.few, fo8.noI (rb _ (kt46.trans (KeepT.same s68))) (rI _) bb fun t2 H9 k9 hn9 ht9 => ⟨_, rfl, two_ln (by show 2 ≤ _; decide), fun u2 hu2 => ?_⟩⟩
      dsimp only [tNil]
      refine same_ix ht9 (fun X kt => rb X (kt46.trans ((KeepT.same s68).trans ((KeepT.same k9).trans kt)))) sb tb hu2 fun HA kA => ⟨_, rfl, iteF ?_⟩
      have s6A := s68.trans (k9.trans kA)
      have k0A := k06.trans (.of s6A)
      obtain ⟨-, -, foA⟩ := at_ k0A
      refine ⟨_, rfl, _, rfl, _, rfl, _, rfl, _, rfl, .ref l, .int (ii : Nat), vj, dF true fs, .int (ii : Nat), dj, door, kind, rfl, few_lines foA.few, foA.noJ (rI _) (rj _ (KeepT.same s6A)) bi bij fun t3 HB kB hnB htB => ⟨_, rfl, two_ln (by show 2 ≤ _; decide), fun u3 hu3 => ?_⟩⟩
      dsimp only [tNil]
      refine same_ix htB (fun X kt => rj X ((KeepT.same s6A).trans ((KeepT.same kB).trans kt))) sj tj hu3 fun HC kC => ⟨_, rfl, iteF ?_⟩
      have s6C := s6A.trans (kB.trans kC)
      have k0C := k06.trans (.of s6C)
      obtain ⟨-, -, foC⟩ := at_ k0C
      refine ⟨_, rfl, _, rfl, _, rfl, _, rfl, _, rfl, _, _, rfl, rfl, .ref l, .int (ii : Nat), .int (ii : Nat), dF true fs, .int (ii : Nat), .int (ii : Nat), door, 1 - kind, rfl, few_lines foC.few, foC.noJ (rI _) (rI _) bi bii fun t4 HD kD hnD htD => ⟨_, rfl, two_ln (by show 2 ≤ _; decide), fun u4 hu4 => ?_⟩⟩
      dsimp only [tNil]
      refine same_ix htD (fun X kt => rI X) si (by simp [tyd]) hu4 fun HE kE => ⟨_, rfl, iteF ?_⟩
      have s6E := s6C.trans (kD.trans kE)
      have k0E := k06.trans (.of s6E)
      have bE := b6.same s6E
      obtain ⟨hlE, fxE, foE⟩ := at_ k0E
      dsimp only [tNext]
      refine ⟨_, rfl, _, rfl, l, xs, fs, kn, [p], rfl, hlE, fxE, ok, n2, n12, by omega, fun vo dv HF kF od => ?_⟩
      dsimp only [gName]
      refine tSeq_by (fun σ H' => But p H H' ∧ BoxAt H' p (c + 3 * m + 1 + 1 + 1) ∧ ∃ aB : Option V, σ = [some (.ref l), some (.ref p), some (.int kind), some (.int (xs.length : Nat)), some (.int (0 + (m : Int))), some (.int door), some (.int (kn : Nat)), some (.int (mn : Nat)), some vb, some (.int (ii : Nat)), some vj, aB]) ?_ fun rest => ?_
      · rintro σ HX ⟨kX, bX, aB, rfl⟩
        obtain ⟨hlX, fxX, foX⟩ := at_ kX
        refine ⟨_, rfl, _, rfl, l, xs, fs, mn, [p], rfl, hlX, fxX, ok, n2, n12, by omega, fun vo dv HW kW od => ?_⟩
        dsimp only [gName]
        refine ⟨_, rfl, _, rfl, _, rfl, _, _, rfl, rfl, vo, .int 0, .int 1, dv, .int 0, .int 1, door, 1 - kind, rfl, few_lines od.few, od.ans (.int 0) (.int 1) fun t5 HT kT hnT htT => ⟨_, rfl, two_ln (by show 2 ≤ _; decide), fun u5 hu5 => ?_⟩⟩
        dsimp only [tNil]
        refine same_fo kX bX od kW kT hnT htT hu5 fun HZ kZ bZ => ⟨_, rfl, iteF ⟨kZ, bZ.up (by omega), _, _, _, _, _, _, _, _, rfl⟩⟩
      · have ktF : KeepT H4 HF := kt46.trans ((KeepT.same s6E).trans (KeepT.same kF))
        refine ⟨_, rfl, _, rfl, _, rfl, _, rfl, _, rfl, vo, .int (ii : Nat), vb, dv, .int (ii : Nat), db, door, kind, rfl, few_lines od.few, od.ans (rI _) (rb _ ktF) fun t5 HT kT hnT htT => ⟨_, rfl, two_ln (by show 2 ≤ _; decide), fun u5 hu5 => ?_⟩⟩
        dsimp only [tNil]
        refine same_fo k0E bE od kF kT hnT htT hu5 fun HZ kZ bZ => ⟨_, rfl, iteF (rest _ _ ⟨kZ, bZ, _, rfl⟩)⟩
    · rintro σ H1 ⟨k1, _, a4, a5, a6, a7, a8, a9, aA, aB, rfl⟩
      exact q H1 k1
end
end K10

namespace K10
open PySem PySem.Spec PyProof.Rows L2 Tn TL
abbrev sRight : Stmt := top 44
theorem scRight : FnScope ["box", "kind", "both", "kept", "turn", "founds", "i", "j", "as_tuples", "own", "lines"] ["box", "kind"] (defScope sRight) := ⟨rfl, rfl, rfl, by decide +kernel, rfl, by decide +kernel, by decide +kernel⟩
def spRight : Sp := fun vs H Q _ => ∃ (p : Addr) (c : Nat) (kind : Int), vs = [.ref p, .int kind] ∧ BoxAt H p c ∧ c + 50000 < 100000 ∧ ∀ H', But p H H' → Q (.bl true) H'
section
variable {P : Program} {w : World} {K : PySem.W.Frag} {mg : Str → Option Value} {base : Heap} {f : Addr} {fd : FuncData}
theorem ok_right (F : Fd K "_law_right" sRight f fd) (g : mg "_law_right" = some (.ref f)) (B : Bl mg) (hsy : ∃ o, K.lookup sysModules = some o) (o_law_take : Ok P w K mg base CX0 1 "_law_take" sTake ["box", "many"] spDraw1) (o_law_founds : Ok P w K mg base CX0 4 "_law_founds" sFounds ["box"] spFounds)
    (o_law_pair_right : OkG P w K mg base 11 "_law_pair_right" sPair ["founds", "i", "j", "kind"] spPair) (o_law_refused : OkG P w K mg base 11 "_law_refused" sRefd ["founds", "box", "kind"] spRefd) :
    OkG P w K mg base 12 "_law_right" sRight ["box", "kind"] spRight := by
  refine ⟨f, fd, g, F, F.bindsN fun _ _ _ _ _ _ us hl => match us, hl with | [_, _], _ => rfl, F.okG scRight (fun vs H Q E h => ?_) (fun cdv A outer s H vs Q hgd hr h => ?_)⟩
  · obtain ⟨p, c, kind, rfl, _⟩ := h
    rfl
  · have hu : (cxOf CX0 P w K mg base ["box", "kind", "both", "kept", "turn", "founds", "i", "j", "as_tuples", "own", "lines"] "_law_right" (defScope sRight) f cdv A outer s H noE).A.units + 64 < cLine := by
      have z := hr.un
      show (A.deeper _).units + 64 < cLine
      omega
    refine ⟨_, (pss_cons (ps_set (i := 2) scRight.nd rfl (Or.inl rfl) (pe_lst (pa_cons (pe_o o_law_founds (hr.mono (by decide)) (by rfl) (pa_cons (pv 0) pa_nil)) (pa_cons (pe_o o_law_founds (hr.mono (by decide)) (by rfl) (pa_cons (pv 0) pa_nil)) pa_nil))))
      (pss_cons (ps_set (i := 3) scRight.nd rfl (Or.inl rfl) (pe_callB (call_repr hgd hu hsy) (by rfl) (B.u "repr" (by decide +kernel)) (by decide +kernel) (pa_cons (pv 2) pa_nil)))
      (pss_cons (ps_for (passes_of rfl) rfl (pi_range1 (by rfl) (B.u "range" (by decide +kernel)) (pa_cons pe_int pa_nil)) (pg_name (i := 4) scRight.nd rfl (Or.inl rfl))
        (pss_cons (ps_set (i := 5) scRight.nd rfl (Or.inl rfl) (pe_ix ix_seq (pv 2) (pe_op op_mod (pv 4) pe_int) fun _ _ => rfl))
        (pss_cons (ps_set (i := 6) scRight.nd rfl (Or.inl rfl) (pe_o o_law_take (hr.mono (by decide)) (by rfl) (pa_cons (pv 0) (pa_cons (pe_callB call_len (by rfl) (B.u "len" (by decide +kernel)) boot_len (pa_cons (pv 5) pa_nil)) pa_nil))))
        (pss_cons (ps_set (i := 7) scRight.nd rfl (Or.inl rfl) (pe_op op_mod (pe_op op_add (pe_op op_add (pv 6) pe_int) (pe_o o_law_take (hr.mono (by decide)) (by rfl) (pa_cons (pv 0) (pa_cons (pe_op op_sub (pe_callB call_len (by rfl) (B.u "len" (by decide +kernel)) boot_len (pa_cons (pv 5) pa_nil)) pe_int) pa_nil)))) (pe_callB call_len (by rfl) (B.u "len" (by decide +kernel)) boot_len (pa_cons (pv 5) pa_nil))))
        (pss_cons (ps_if (pw_or (pt_not (pt_val (pe_oG o_law_pair_right hgd (hr.mono (by decide)) (by rfl) (pa_cons (pv 5) (pa_cons (pv 6) (pa_cons (pv 7) (pa_cons (pv 1) pa_nil))))))) (pw_or1 (pt_not (pt_val (pe_oG o_law_pair_right hgd (hr.mono (by decide)) (by rfl) (pa_cons (pv 5) (pa_cons (pv 7) (pa_cons (pv 6) (pa_cons (pe_op op_sub pe_int (pv 1)) pa_nil))))))))).pt
          (pss_one (ps_ret pe_bl))
          pss_nil)
        (pss_cons (ps_set (i := 8) scRight.nd rfl (Or.inl rfl) (pe_callTy call_tuple_of (by rfl) (B.u "tuple" (by decide +kernel)) (by decide +kernel) (pa_cons (pe_lc (own := [("own", 9), ("lines", 10)]) (g := gTup K 2 (gCons (gName 9) (gCons (gName 10) gNil))) rfl scRight.nd (pi_list (pv 5)) (blkOk_by (N := ["box", "kind", "both", "kept", "turn", "founds", "i", "j", "as_tuples", "own", "lines"]) (sc := defScope sRight) (by decide +kernel)) (fun _ _ _ _ _ => (pg_tup rfl (pgs_cons (pg_name (i := 9) scRight.nd rfl (Or.inl rfl)) (pgs_cons (pg_name (i := 10) scRight.nd rfl (Or.inl rfl)) pgs_nil)))) (fun _ _ _ _ _ => pts_nil) (fun _ _ _ _ _ => (pe_tup (pa_cons (pv 9) (pa_cons (pe_callTy (r := rTupOf K) (by exact call_tuple_of) (by rfl) (B.u "tuple" (by decide +kernel)) (by decide +kernel) (pa_cons (pv 10) pa_nil)) pa_nil))))) pa_nil)))
        (pss_one (ps_if (pt_not (pt_val (pe_oG o_law_pair_right hgd (hr.mono (by decide)) (by rfl) (pa_cons (pv 8) (pa_cons (pv 6) (pa_cons (pv 7) (pa_cons (pv 1) pa_nil)))))))
          (pss_one (ps_ret pe_bl))
          pss_nil))))))))
      (pss_one (ps_ret (pe_and (pe_oG o_law_refused hgd (hr.mono (by decide)) (by rfl) (pa_cons (pe_ix ix_seq (pv 2) pe_int fun _ _ => rfl) (pa_cons (pv 0) (pa_cons (pv 1) pa_nil)))) (pe_one (pe_cmpR op_eq (pe_callB (call_repr hgd hu hsy) (by rfl) (B.u "repr" (by decide +kernel)) (by decide +kernel) (pa_cons (pv 2) pa_nil)) (pv 3) (nomark _))))))))), ?_⟩
    obtain ⟨p, c, kind, rfl, bp, hc, q⟩ := h
    refine ⟨_, rfl, p, c, rfl, bp, by omega, fun l1 fs1 xs1 H1 k1 b1 o1 n1 h1 a1 m1 t1 g1 => ?_⟩
    refine ⟨_, rfl, p, _, rfl, b1, by omega, fun l2 fs2 xs2 H2 k2 b2 o2 n2 h2 a2 m2 t2 g2 => ⟨two_ln (by show 2 ≤ _; decide), fun Bo hBo => ?_⟩⟩
    have k_Bo := upd_grow (o := .lst [.ref l1, .ref l2]) hBo
    have h_Bo := upd_same (H := H2) (a := Bo) (o := .lst [.ref l1, .ref l2])
    generalize upd H2 Bo (.lst [.ref l1, .ref l2]) = H3 at k_Bo h_Bo ⊢
    have at1 : ∀ {X : Hp}, But p H3 X → X l1 = some (.lst xs1) ∧ All2 (FAt [p] X) fs1 xs1 ∧ Fs X l1 fs1 (dF true fs1) := fun {X} k => by
      have kk : But p H1 X := k2.trans ((But.of k_Bo).trans k)
      have e1 := kk _ _ n1 h1
      have e2 : All2 (FAt [p] X) fs1 xs1 := a1.imp fun f y z => z.bm (Bm.but List.mem_cons_self kk) (KeepT.box b1 kk)
      exact ⟨e1, e2, fs_list e1 e2 g1 m1 t1⟩
    have at2 : ∀ {X : Hp}, But p H3 X → X l2 = some (.lst xs2) ∧ All2 (FAt [p] X) fs2 xs2 ∧ Fs X l2 fs2 (dF true fs2) := fun {X} k => by
      have kk : But p H2 X := (But.of k_Bo).trans k
      have e1 := kk _ _ n2 h2
      have e2 : All2 (FAt [p] X) fs2 xs2 := a2.imp fun f y z => z.bm (Bm.but List.mem_cons_self kk) (KeepT.box b2 kk)
      exact ⟨e1, e2, fs_list e1 e2 g2 m2 t2⟩
    have nBo : Bo ≠ p := not_box b2 hBo
    have b3 := b2.same k_Bo
    have k03 : But p H H3 := k1.trans (k2.trans (.of k_Bo))
    have rb : ∀ {X : Hp}, But p H3 X → Rdd X (.ref Bo) (.list [dF true fs1, dF true fs2]) := fun {X} k => .lst (k _ _ nBo h_Bo) (.cons (at1 k).2.2.rdd (.cons (at2 k).2.2.rdd .nil))
    have fitB : Fit (.list [dF true fs1, dF true fs2]) := (sm_twoL (sm_founds g1 t1) (sm_founds g2 t2)).fit (by decide) (by decide)
    dsimp only [gName]
    refine ⟨_, rfl, _, _, rfl, rb (.of (Same.refl H3)), fitB.t.s, fitB.t.h, fitB.t.len, ?_⟩
    dsimp only [gName]
    refine ⟨_, rfl, by decide, by decide, ?_⟩
    refine for_range (n := 4) (fun m σ H' => But p H3 H' ∧ BoxAt H' p (c + 12000 + 2 * m) ∧ ∃ a4 a5 a6 a7 a8 : Option V, σ = [some (.ref p), some (.int kind), some (.ref Bo), some (.str (PyData.list [dF true fs1, dF true fs2]).shown), a4, a5, a6, a7, a8, none, none]) ⟨.of (Same.refl H3), b3.up (by omega), none, none, none, none, none, rfl⟩ ?_ ?_
    · rintro m σ H4 hm ⟨k4, b4, a4, a5, a6, a7, a8, rfl⟩
      dsimp only [gName]
      have pick : ∃ lv xsv fsv, ([.ref l1, .ref l2] : List V)[m % 2]? = some (.ref lv) ∧ lv ≠ p ∧ (∀ X, But p H3 X → X lv = some (.lst xsv) ∧ All2 (FAt [p] X) fsv xsv ∧ Fs X lv fsv (dF true fsv)) ∧ FsOk fsv ∧ 2 ≤ fsv.length ∧ fsv.length ≤ 12 := by
        have h2 : m % 2 < 2 := Nat.mod_lt _ (by decide)
        match m % 2, h2 with
        | 0, _ => exact ⟨l1, xs1, fs1, rfl, n1, fun X k => at1 k, g1, m1, t1⟩
        | 1, _ => exact ⟨l2, xs2, fs2, rfl, n2, fun X k => at2 k, g2, m2, t2⟩
      obtain ⟨lv, xsv, fsv, ev, nv, atv, gv, mv, tv⟩ := pick
      have zm : ((0 : Int) + (m : Int)) % 2 = ((m % 2 : Nat) : Int) := by omega
      refine ⟨_, rfl, _, rfl, _, _, rfl, rfl, (by show (0 : Int) < 2; decide), ?_⟩
      dsimp only
      rw [zm]
      refine ixAt (k4 _ _ nBo h_Bo) (atI_nat ev) ?_
      obtain ⟨e4, f4, fo4⟩ := atv _ k4
      have lx := f4.len
      dsimp only [gName]
      refine ⟨_, rfl, _, rfl, _, _, rfl, .inl ⟨_, SqL.of e4, rfl⟩, p, _, _, rfl, b4, by omega, by omega, by omega, fun di H5 i0 i1 k5 b5 q5 => ?_⟩
      obtain ⟨ii, rfl⟩ : ∃ n : Nat, di = n := ⟨di.toNat, by omega⟩
      have k35 := k4.trans k5
      obtain ⟨e5, f5, fo5⟩ := atv _ k35
      dsimp only [gName]
      refine ⟨_, rfl, _, _, rfl, rfl, _, rfl, _, rfl, _, _, rfl, .inl ⟨_, SqL.of e5, rfl⟩, _, _, rfl, rfl, p, _, _, rfl, b5, by omega, by omega, by omega, fun dj H6 j0 j1 k6 b6 q6 => ?_⟩
      obtain ⟨dd, rfl⟩ : ∃ n : Nat, dj = n := ⟨dj.toNat, by omega⟩
      have k36 := k35.trans k6
      obtain ⟨e6, f6, fo6⟩ := atv _ k36
      refine ⟨_, _, rfl, rfl, _, rfl, _, _, rfl, .inl ⟨_, SqL.of e6, rfl⟩, _, _, rfl, rfl, (by show (0 : Int) < xsv.length; omega), ?_⟩
      obtain ⟨jj, hjj, lj, nij⟩ : ∃ jj : Nat, ((ii : Int) + 1 + (dd : Int)) % ((xsv.length : Nat) : Int) = (jj : Nat) ∧ jj < fsv.length ∧ ii ≠ jj := by
        refine ⟨(ii + 1 + dd) % xsv.length, ?_, ?_, ?_⟩
        · rw [Int.natCast_emod]
          rfl
        · rw [← lx]
          exact Nat.mod_lt _ (by omega)
        · by_cases c : ii + 1 + dd < xsv.length
          · rw [Nat.mod_eq_of_lt c]
            omega
          · rw [Nat.mod_eq_sub_mod (by omega), Nat.mod_eq_of_lt (by omega)]
            omega
      dsimp only [gName]
      rw [hjj]
      have li : ii < fsv.length := by omega
      refine ⟨_, rfl, _, rfl, _, rfl, _, rfl, lv, fsv, dF true fsv, ii, jj, kind, rfl, fo6, li, lj, nij, fun H7 k7 => ⟨_, rfl, iteF ?_⟩⟩
      have k37 := k36.trans (.of k7)
      obtain ⟨e7, f7, fo7⟩ := atv _ k37
      refine ⟨_, rfl, _, rfl, _, rfl, _, rfl, _, _, rfl, rfl, lv, fsv, dF true fsv, jj, ii, 1 - kind, rfl, fo7, lj, li, nij.symm, fun H8 k8 => ⟨_, rfl, iteF ?_⟩⟩
      have k38 := k37.trans (.of k8)
      have b8 := (b6.same k7).same k8
      obtain ⟨e8, f8, fo8⟩ := atv _ k38
      dsimp only [tNext]
      refine ⟨_, rfl, lv, rfl, ⟨xsv, SqL.of e8⟩, fun D hD => ?_⟩
      refine lc_as walk_list (as := fsv) lx.symm (fun _ => true) (fun (f : Fnd) y H' => ∃ (t q : Addr) (ys : List V), y = V.ref t ∧ H' t = some (HO.tup [ownV f.1, .ref q]) ∧ H' q = some (HO.tup ys) ∧ LinesAt H' f.2 ys)
        (fun f y X1 X2 k ⟨t, q, ys, e, z1, z2, la⟩ => ⟨t, q, ys, e, k _ _ z1, k _ _ z2, la.keep (KeepT.same k)⟩) hD (by omega) (fun H' k => SqL.of (del_sub k _ _ e8)) ?_ ?_
      · rintro n fi x H9 HA K1 N1 en k9 ⟨us, hus⟩ ⟨rfl, hx⟩ hK _
        obtain ⟨y, hy, t, q0, ys, rfl, -, ht, -, hq, la⟩ := All2.get f8 en
        rw [hy] at hx
        obtain rfl := Option.some.inj hx
        have kk := del_sub k9
        refine ⟨_, _, rfl, SqT.of (kk _ _ ht), rfl, _, _, rfl, _, _, rfl, rfl, rfl, ?_⟩
        refine ⟨_, rfl, _, rfl, q0, ys, rfl, .inl ⟨SqL.of (kk _ _ hq), fun t1 ht1 => ⟨two_ln (by show 2 ≤ _; decide), fun t2 ht2 => ?_⟩⟩⟩
        have kA : Same HA (upd (upd HA t1 (.tup ys)) t2 (.tup [ownV fi.1, .ref t1])) := (upd_grow ht1).trans (upd_grow ht2)
        have kt : KeepT (upd (upd HA t1 (.tup ys)) t2 (.tup [ownV fi.1, .ref t1])) (del (upd (upd HA t1 (.tup ys)) t2 (.tup [ownV fi.1, .ref t1])) D) := KeepT.del (kA _ _ hus)
        refine hK rfl _ _ kA ⟨t2, t1, ys, rfl, kt _ _ upd_same, kt _ _ (upd_grow ht2 _ _ upd_same), la.keep ((KeepT.same (kk.trans kA)).trans kt)⟩
      · intro ys H9 k9 h9 r9
        rw [List.filter_eq_self.mpr fun _ _ => rfl] at r9
        have kk := del_sub k9
        refine ⟨D, ys, rfl, .inl ⟨SqL.of h9, fun tp htp => ?_⟩⟩
        have kt : Same H9 (upd H9 tp (.tup ys)) := upd_grow htp
        have r10 : All2 (fun (f : Fnd) y => ∃ (t q : Addr) (zs : List V), y = V.ref t ∧ (upd H9 tp (.tup ys)) t = some (HO.tup [ownV f.1, .ref q]) ∧ (upd H9 tp (.tup ys)) q = some (HO.tup zs) ∧ LinesAt (upd H9 tp (.tup ys)) f.2 zs) fsv ys :=
          r9.imp fun f y ⟨t, q, zs, e, z1, z2, la⟩ => ⟨t, q, zs, e, kt _ _ (del_le _ _ z1), kt _ _ (del_le _ _ z2), la.keep (KeepT.trans (H1 := H9) (fun a us h => del_le _ _ h) (KeepT.same kt))⟩
        have foT : Fs (upd H9 tp (.tup ys)) tp fsv (dF false fsv) := fs_tuple upd_same r10 gv mv tv
        dsimp only [gName]
        refine ⟨_, rfl, _, rfl, _, rfl, _, rfl, tp, fsv, dF false fsv, ii, jj, kind, rfl, foT, li, lj, nij, fun HB kB => ⟨_, rfl, iteF ?_⟩⟩
        have s8B := kk.trans (kt.trans kB)
        exact ⟨k38.trans (.of s8B), (b8.same s8B).up (by omega), _, _, _, _, _, rfl⟩
    · rintro σ H4 ⟨k4, b4, a4, a5, a6, a7, a8, rfl⟩
      obtain ⟨e1, e2, _⟩ := at1 k4
      refine ⟨_, rfl, ixAt (k4 _ _ nBo h_Bo) rfl ⟨_, rfl, _, rfl, l1, p, xs1, fs1, _, kind, rfl, b4, by omega, e1, n1, e2, g1, m1, t1, fun H5 k5 => ⟨_, rfl, iteT ?_⟩⟩⟩
      have k35 := k4.trans k5
      refine ⟨_, rfl, _, _, rfl, rb k35, fitB.t.s, fitB.t.h, fitB.t.len, _, rfl, rfl, ?_⟩
      rw [decide_eq_true rfl]
      exact q _ (k03.trans k35)
end
end K10

namespace K10
open PySem PySem.Spec PyProof.Rows L2 Tn TL
abbrev sLaw : Stmt := top 45
theorem scLaw : FnScope ["script", "k", "box"] ["script"] (defScope sLaw) := ⟨rfl, rfl, rfl, by decide +kernel, rfl, by decide +kernel, by decide +kernel⟩
def spLaw (K : PySem.W.Frag) : Sp := fun vs H Q _ => ∃ (l : Addr) (ns : List Int), vs = [.ref l] ∧ SqL K H l (ns.map V.int) ∧ ∀ H', Q (.bl true) H'
theorem sql_same {K : PySem.W.Frag} {H H' : Hp} {l : Addr} {xs : List V} (h : SqL K H l xs) (k : Same H H') : SqL K H' l xs := by
  rcases h with h | h
  · exact .inl (h.imp (k _ _) fun ⟨o, z⟩ => ⟨o, k _ _ z⟩)
  · exact .inr h
section
variable {P : Program} {w : World} {K : PySem.W.Frag} {mg : Str → Option Value} {base : Heap} {f : Addr} {fd : FuncData}
theorem ok_law (F : Fd K "law" sLaw f fd) (B : Bl mg) (o_law_cell : Ok P w K mg base CX0 1 "_law_cell" sCell ["script", "k"] (spCell K)) (o_law_box : Ok P w K mg base CX0 1 "_law_box" sBox ["great"] spBox)
    (o_law_take : Ok P w K mg base CX0 1 "_law_take" sTake ["box", "many"] spDraw1) (o_law_right : OkG P w K mg base 12 "_law_right" sRight ["box", "kind"] spRight) : FnG P w K mg base 13 f fd ["script"] (spLaw K) := by
  refine F.okG scLaw (fun vs H Q E h => ?_) (fun cdv A outer s H vs Q hgd hr h => ?_)
  · obtain ⟨l, ns, rfl, _⟩ := h
    rfl
  · refine ⟨_, (pss_cons (ps_for (passes_of rfl) rfl (pi_range1 (by rfl) (B.u "range" (by decide +kernel)) (pa_cons (pe_callB (call_max2 rfl) (by rfl) (B.u "max" (by decide +kernel)) (by decide +kernel) (pa_cons pe_int (pa_cons (pe_callB (call_min2 rfl) (by rfl) (B.u "min" (by decide +kernel)) (by decide +kernel) (pa_cons pe_int (pa_cons (pe_callB call_len (by rfl) (B.u "len" (by decide +kernel)) boot_len (pa_cons (pv 0) pa_nil)) pa_nil))) pa_nil))) pa_nil)) (pg_name (i := 1) scLaw.nd rfl (Or.inl rfl))
        (pss_cons (ps_set (i := 2) scLaw.nd rfl (Or.inl rfl) (pe_o o_law_box (hr.mono (by decide)) (by rfl) (pa_cons (pe_o o_law_cell (hr.mono (by decide)) (by rfl) (pa_cons (pv 0) (pa_cons (pv 1) pa_nil))) pa_nil)))
        (pss_one (ps_if (pt_not (pt_val (pe_oG o_law_right hgd (hr.mono (by decide)) (by rfl) (pa_cons (pv 2) (pa_cons (pe_o o_law_take (hr.mono (by decide)) (by rfl) (pa_cons (pv 2) (pa_cons pe_int pa_nil))) pa_nil)))))
          (pss_one (ps_ret pe_bl))
          pss_nil))))
      (pss_one (ps_ret pe_bl))), ?_⟩
    obtain ⟨l, ns, rfl, hl, q⟩ := h
    refine ⟨_, rfl, _, _, rfl, .inl ⟨_, hl, rfl⟩, _, _, rfl, _, _, rfl, _, rfl, ?_⟩
    generalize hJ : (if (if ((List.map V.int ns).length : Int) < 2 then ((List.map V.int ns).length : Int) else 2) > 1 then (if ((List.map V.int ns).length : Int) < 2 then ((List.map V.int ns).length : Int) else 2) else (1 : Int)) = J
    have j0 : 1 ≤ J := by rw [← hJ]; split <;> omega
    have j1 : J ≤ 2 := by rw [← hJ]; split <;> (try split) <;> omega
    refine ⟨by omega, by omega, ?_⟩
    refine for_it (walk_range (lo := 0) (n := J.toNat)) (fun i σ H' => Same H H' ∧ ∃ a b : Option V, σ = [some (.ref l), a, b]) ⟨Same.refl _, none, none, rfl⟩ (fun _ _ _ _ _ => True.intro) ?_ ?_
    · rintro i x σ H0 H1 hi ⟨k1, a, b, rfl⟩ ⟨rfl, rfl⟩
      refine ⟨_, rfl, _, rfl, l, ns, (0 : Int) + i, rfl, sql_same hl k1, by omega, by omega, fun n H2 k2 => ⟨n, rfl, fun p xs hp hb => ?_⟩⟩
      have b2 : BoxAt (upd H2 p (.lst xs)) p 0 := ⟨xs, upd_same, hb⟩
      have s2 : Same H2 (upd H2 p (.lst xs)) := upd_grow hp
      have op : H p = none := old_none (k1.trans k2) hp
      dsimp only [gName]
      refine ⟨_, rfl, _, rfl, p, 2, 0, rfl, b2, by decide, by decide, by decide, fun d H3 d0 d1 k3 b3 e3 => ?_⟩
      refine ⟨p, 1, d, rfl, b3, by decide, fun H4 k4 => ⟨true, rfl, iteF ⟨fun b o e => k4 _ _ (ne_of_none e op) (k3 _ _ (ne_of_none e op) (s2 _ _ (k2 _ _ (k1 _ _ e)))), _, _, rfl⟩⟩⟩
    · rintro σ H1 ⟨k1, a, b, rfl⟩
      exact q H1
end
end K10

namespace K10
open PySem PySem.Spec PyProof.Rows L2 Ml Tn TL
abbrev Fi (K : PySem.W.Frag) (i : Nat) (x qual : Str) (fd : FuncData) : Prop := FunD K "__init__" qual (defArgs (ini i)) (defBody (ini i)) (defScope (ini i)) [] [] (He.ma K (He.ga K x) "__init__") fd
section
variable {P : Program} {w : World} {K : PySem.W.Frag} {mg : Str → Option Value} {base : Heap} {fd : FuncData} {x f g qual : Str} {i : Nat}
theorem one_of {q1 q2 q3 q4 : Pos} (F : Fi K i x qual fd) (G : mg x = some (.ref (He.ga K x))) (B : ClsI K (He.ga K x) (He.ga K "LostError")) (no : PySem.W.findIn K (.ref (He.ga K x)) f = some none)
    (S : FnScope ["self", f] ["self", f] (defScope (ini i))) (hb : defBody (ini i) = iB1 f q1 q2 q3 q4) (pf : L2.Plain f) (b1 : KBn K fd ["self", f] 2 [] (fun us _ => us) (fun vs _ => vs))
    (b2 : KBn K fd ["self", f] 1 [f] (fun us ws => us ++ ws) (fun vs zs => vs ++ zs)) : One P w K mg base x f :=
  ⟨G, B.T, B.iC, B.tI, fd, ok_init1 F S hb B.T no pf, b1, b2⟩
theorem o2 (F : Fi K 2 "InvalidFounds" "InvalidFounds.__init__" fd) (G : mg "InvalidFounds" = some (.ref (He.ga K "InvalidFounds"))) (B : ClsI K (He.ga K "InvalidFounds") (He.ga K "LostError")) (no : PySem.W.findIn K (.ref (He.ga K "InvalidFounds")) "given" = some none) : One P w K mg base "InvalidFounds" "given" :=
  one_of F G B no ⟨rfl, rfl, rfl, by decide +kernel, rfl, by decide +kernel, by decide +kernel⟩ rfl ⟨by decide, by decide⟩
    (F.kbn0 2 [] (fun us _ => us) (fun r _ => r) fun _ _ _ _ _ _ us ws l1 l2 => match us, ws, l1, l2 with | [_, _], [], _, _ => rfl)
    (F.kbn0 1 ["given"] (fun us ws => us ++ ws) rel_app fun _ _ _ _ _ _ us ws l1 l2 => match us, ws, l1, l2 with | [_], [_], _, _ => rfl)
theorem o3 (F : Fi K 3 "InvalidIndex" "InvalidIndex.__init__" fd) (G : mg "InvalidIndex" = some (.ref (He.ga K "InvalidIndex"))) (B : ClsI K (He.ga K "InvalidIndex") (He.ga K "LostError")) (no : PySem.W.findIn K (.ref (He.ga K "InvalidIndex")) "given" = some none) : One P w K mg base "InvalidIndex" "given" :=
  one_of F G B no ⟨rfl, rfl, rfl, by decide +kernel, rfl, by decide +kernel, by decide +kernel⟩ rfl ⟨by decide, by decide⟩
    (F.kbn0 2 [] (fun us _ => us) (fun r _ => r) fun _ _ _ _ _ _ us ws l1 l2 => match us, ws, l1, l2 with | [_, _], [], _, _ => rfl)
    (F.kbn0 1 ["given"] (fun us ws => us ++ ws) rel_app fun _ _ _ _ _ _ us ws l1 l2 => match us, ws, l1, l2 with | [_], [_], _, _ => rfl)
end
theorem fact_of {fa : List He.Fa} {fn : List He.DefD} {K : PySem.W.Frag} (c : He.SaysD fa fn K) {f : He.Fa} (h : f ∈ fa) : f.ok K = true := by
  obtain ⟨i, e⟩ := List.mem_iff_getElem?.mp h
  exact c.fact i e
section
variable {P : Program} {w : World} {K : PySem.W.Frag} {h : Heap} {mg : Str → Option Value}
theorem facts {f : Addr} (X : K.In h) (G : h.Ns mainGlobals mg) (hfa : mg ("law" : Str) = some (.ref f)) (c : He.SaysD fa fn K) (k : ck K = true) :
    ∃ fd : FuncData, (∀ (s : Shared) (v : Value), BindsTo s fd ⟨[v], []⟩ [("script", v)]) ∧ ∀ base : Heap, K.In base → base.Ns mainGlobals mg → FnG P w K mg base 13 f fd ["script"] (spLaw K) := by
  obtain ⟨k1, k⟩ := He.ba k
  obtain ⟨k2, k⟩ := He.ba k
  obtain ⟨k3, k⟩ := He.ba k
  obtain ⟨k4, k⟩ := He.ba k
  obtain ⟨k5, k6⟩ := He.ba k
  have D : ∀ {x : Str}, x ∈ glob → mg x = some (.ref (He.ga K x)) := fun hx => He.glo_ok X G (fact_of c (List.mem_cons_of_mem _ (List.mem_cons_of_mem _ (List.mem_cons_of_mem _ (List.mem_append_left _ (List.mem_map_of_mem hx))))))
  have U : ∀ x : Str, x ∈ bnames → mg x = none := fun x hx => He.free_ok X G (fact_of c (List.mem_cons_of_mem _ (List.mem_cons_of_mem _ (List.mem_cons_of_mem _ (List.mem_append_right _ (List.mem_map_of_mem hx))))))
  have Bc : ∀ {x : Str}, x ∈ errs → ClsI K (He.ga K x) (He.ga K "LostError") := fun hx => clsB_ok k1 (List.all_eq_true.mp k2 _ hx)
  have N : ∀ x ∈ errs, PySem.W.findIn K (.ref (He.ga K x)) "given" = some none := fun x hx => of_decide_eq_true (List.all_eq_true.mp k3 _ hx)
  have M : ∀ x ∈ errs, ∀ y ∈ errs, PySem.W.exmOne K (.ref (He.ga K x)) (.ref (He.ga K y)) = some (decide (x = y)) := fun x hx y hy => of_decide_eq_true (List.all_eq_true.mp (List.all_eq_true.mp k4 x hx) y hy)
  have T : KitK K := ⟨fun t ht => of_decide_eq_true (List.all_eq_true.mp k5 _ ht)⟩
  have hsy : ∃ o, K.lookup sysModules = some o := Option.isSome_iff_exists.mp k6
  have B : Bl mg := ⟨U⟩
  have i0 := He.int_ok X G (c.fact 0 (f := .int "MOST_READERS" 12) rfl)
  have i1 := He.int_ok X G (c.fact 1 (f := .int "NAME_LENGTH" 8) rfl)
  have i2 := He.int_ok X G (c.fact 2 (f := .int "TEXT_LENGTH" 40) rfl)
  have XE : TwoE K mg := by
    refine ⟨fun x hx => ⟨D ?_, (Bc (x := x) hx).X⟩, M, N⟩
    revert x; decide +kernel
  obtain ⟨dI2, FI2⟩ := c.def_ 0 (d := dCn 2 "InvalidFounds" "InvalidFounds.__init__") rfl
  obtain ⟨dI3, FI3⟩ := c.def_ 1 (d := dCn 3 "InvalidIndex" "InvalidIndex.__init__") rfl
  obtain ⟨d5, (F5 : Fd K "is_below" (top 5) (He.ga K "is_below") d5)⟩ := c.def_ 2 (d := dFn 5 "is_below") rfl
  have g5 : mg "is_below" = some (.ref (He.ga K "is_below")) := D (by decide +kernel)
  obtain ⟨d6, (F6 : Fd K "is_list" (top 6) (He.ga K "is_list") d6)⟩ := c.def_ 3 (d := dFn 6 "is_list") rfl
  have g6 : mg "is_list" = some (.ref (He.ga K "is_list")) := D (by decide +kernel)
  obtain ⟨d7, (F7 : Fd K "is_tuple" (top 7) (He.ga K "is_tuple") d7)⟩ := c.def_ 4 (d := dFn 7 "is_tuple") rfl
  have g7 : mg "is_tuple" = some (.ref (He.ga K "is_tuple")) := D (by decide +kernel)
  obtain ⟨d8, (F8 : Fd K "are_different" (top 8) (He.ga K "are_different") d8)⟩ := c.def_ 5 (d := dFn 8 "are_different") rfl
  have g8 : mg "are_different" = some (.ref (He.ga K "are_different")) := D (by decide +kernel)
  obtain ⟨d12, (F12 : Fd K "is_name" (top 12) (He.ga K "is_name") d12)⟩ := c.def_ 6 (d := dFn 12 "is_name") rfl
  have g12 : mg "is_name" = some (.ref (He.ga K "is_name")) := D (by decide +kernel)
  obtain ⟨d13, (F13 : Fd K "is_text" (top 13) (He.ga K "is_text") d13)⟩ := c.def_ 7 (d := dFn 13 "is_text") rfl
  have g13 : mg "is_text" = some (.ref (He.ga K "is_text")) := D (by decide +kernel)
  obtain ⟨d14, (F14 : Fd K "is_line" (top 14) (He.ga K "is_line") d14)⟩ := c.def_ 8 (d := dFn 14 "is_line") rfl
  have g14 : mg "is_line" = some (.ref (He.ga K "is_line")) := D (by decide +kernel)
  obtain ⟨d15, (F15 : Fd K "are_lines" (top 15) (He.ga K "are_lines") d15)⟩ := c.def_ 9 (d := dFn 15 "are_lines") rfl
  have g15 : mg "are_lines" = some (.ref (He.ga K "are_lines")) := D (by decide +kernel)
  obtain ⟨d18, (F18 : Fd K "is_founds" (top 18) (He.ga K "is_founds") d18)⟩ := c.def_ 10 (d := dFn 18 "is_founds") rfl
  have g18 : mg "is_founds" = some (.ref (He.ga K "is_founds")) := D (by decide +kernel)
  obtain ⟨d19, (F19 : Fd K "are_owns" (top 19) (He.ga K "are_owns") d19)⟩ := c.def_ 11 (d := dFn 19 "are_owns") rfl
  have g19 : mg "are_owns" = some (.ref (He.ga K "are_owns")) := D (by decide +kernel)
  obtain ⟨d20, (F20 : Fd K "check_founds" (top 20) (He.ga K "check_founds") d20)⟩ := c.def_ 12 (d := dFn 20 "check_founds") rfl
  have g20 : mg "check_founds" = some (.ref (He.ga K "check_founds")) := D (by decide +kernel)
  obtain ⟨d22, (F22 : Fd K "turned_lines" (top 22) (He.ga K "turned_lines") d22)⟩ := c.def_ 13 (d := dFn 22 "turned_lines") rfl
  have g22 : mg "turned_lines" = some (.ref (He.ga K "turned_lines")) := D (by decide +kernel)
  obtain ⟨d23, (F23 : Fd K "check_readers" (top 23) (He.ga K "check_readers") d23)⟩ := c.def_ 14 (d := dFn 23 "check_readers") rfl
  have g23 : mg "check_readers" = some (.ref (He.ga K "check_readers")) := D (by decide +kernel)
  obtain ⟨d24, (F24 : Fd K "turned" (top 24) (He.ga K "turned") d24)⟩ := c.def_ 15 (d := dFn 24 "turned") rfl
  have g24 : mg "turned" = some (.ref (He.ga K "turned")) := D (by decide +kernel)
  obtain ⟨d25, (F25 : Fd K "arrows" (top 25) (He.ga K "arrows") d25)⟩ := c.def_ 16 (d := dFn 25 "arrows") rfl
  have g25 : mg "arrows" = some (.ref (He.ga K "arrows")) := D (by decide +kernel)
  obtain ⟨d26, (F26 : Fd K "shown_arrows" (top 26) (He.ga K "shown_arrows") d26)⟩ := c.def_ 17 (d := dFn 26 "shown_arrows") rfl
  have g26 : mg "shown_arrows" = some (.ref (He.ga K "shown_arrows")) := D (by decide +kernel)
  obtain ⟨d28, (F28 : Fd K "_law_cell" (top 28) (He.ga K "_law_cell") d28)⟩ := c.def_ 18 (d := dFn 28 "_law_cell") rfl
  have g28 : mg "_law_cell" = some (.ref (He.ga K "_law_cell")) := D (by decide +kernel)
  obtain ⟨d29, (F29 : Fd K "_law_box" (top 29) (He.ga K "_law_box") d29)⟩ := c.def_ 19 (d := dFn 29 "_law_box") rfl
  have g29 : mg "_law_box" = some (.ref (He.ga K "_law_box")) := D (by decide +kernel)
  obtain ⟨d30, (F30 : Fd K "_law_take" (top 30) (He.ga K "_law_take") d30)⟩ := c.def_ 20 (d := dFn 30 "_law_take") rfl
  have g30 : mg "_law_take" = some (.ref (He.ga K "_law_take")) := D (by decide +kernel)
  obtain ⟨d31, (F31 : Fd K "_law_mixed" (top 31) (He.ga K "_law_mixed") d31)⟩ := c.def_ 21 (d := dFn 31 "_law_mixed") rfl
  have g31 : mg "_law_mixed" = some (.ref (He.ga K "_law_mixed")) := D (by decide +kernel)
  obtain ⟨d32, (F32 : Fd K "_law_names" (top 32) (He.ga K "_law_names") d32)⟩ := c.def_ 22 (d := dFn 32 "_law_names") rfl
  have g32 : mg "_law_names" = some (.ref (He.ga K "_law_names")) := D (by decide +kernel)
  obtain ⟨d33, (F33 : Fd K "_law_lines" (top 33) (He.ga K "_law_lines") d33)⟩ := c.def_ 23 (d := dFn 33 "_law_lines") rfl
  have g33 : mg "_law_lines" = some (.ref (He.ga K "_law_lines")) := D (by decide +kernel)
  obtain ⟨d34, (F34 : Fd K "_law_log" (top 34) (He.ga K "_law_log") d34)⟩ := c.def_ 24 (d := dFn 34 "_law_log") rfl
  have g34 : mg "_law_log" = some (.ref (He.ga K "_law_log")) := D (by decide +kernel)
  obtain ⟨d35, (F35 : Fd K "_law_founds" (top 35) (He.ga K "_law_founds") d35)⟩ := c.def_ 25 (d := dFn 35 "_law_founds") rfl
  have g35 : mg "_law_founds" = some (.ref (He.ga K "_law_founds")) := D (by decide +kernel)
  obtain ⟨d36, (F36 : Fd K "_law_turned" (top 36) (He.ga K "_law_turned") d36)⟩ := c.def_ 26 (d := dFn 36 "_law_turned") rfl
  have g36 : mg "_law_turned" = some (.ref (He.ga K "_law_turned")) := D (by decide +kernel)
  obtain ⟨d37, (F37 : Fd K "_law_arrows" (top 37) (He.ga K "_law_arrows") d37)⟩ := c.def_ 27 (d := dFn 37 "_law_arrows") rfl
  have g37 : mg "_law_arrows" = some (.ref (He.ga K "_law_arrows")) := D (by decide +kernel)
  obtain ⟨d38, (F38 : Fd K "_law_same" (top 38) (He.ga K "_law_same") d38)⟩ := c.def_ 28 (d := dFn 38 "_law_same") rfl
  have g38 : mg "_law_same" = some (.ref (He.ga K "_law_same")) := D (by decide +kernel)
  obtain ⟨d39, (F39 : Fd K "_law_told" (top 39) (He.ga K "_law_told") d39)⟩ := c.def_ 29 (d := dFn 39 "_law_told") rfl
  have g39 : mg "_law_told" = some (.ref (He.ga K "_law_told")) := D (by decide +kernel)
  obtain ⟨d40, (F40 : Fd K "_law_pair_right" (top 40) (He.ga K "_law_pair_right") d40)⟩ := c.def_ 30 (d := dFn 40 "_law_pair_right") rfl
  have g40 : mg "_law_pair_right" = some (.ref (He.ga K "_law_pair_right")) := D (by decide +kernel)
  obtain ⟨d41, (F41 : Fd K "_law_odd_index" (top 41) (He.ga K "_law_odd_index") d41)⟩ := c.def_ 31 (d := dFn 41 "_law_odd_index") rfl
  have g41 : mg "_law_odd_index" = some (.ref (He.ga K "_law_odd_index")) := D (by decide +kernel)
  obtain ⟨d42, (F42 : Fd K "_law_odd_founds" (top 42) (He.ga K "_law_odd_founds") d42)⟩ := c.def_ 32 (d := dFn 42 "_law_odd_founds") rfl
  have g42 : mg "_law_odd_founds" = some (.ref (He.ga K "_law_odd_founds")) := D (by decide +kernel)
  obtain ⟨d43, (F43 : Fd K "_law_refused" (top 43) (He.ga K "_law_refused") d43)⟩ := c.def_ 33 (d := dFn 43 "_law_refused") rfl
  have g43 : mg "_law_refused" = some (.ref (He.ga K "_law_refused")) := D (by decide +kernel)
  obtain ⟨d44, (F44 : Fd K "_law_right" (top 44) (He.ga K "_law_right") d44)⟩ := c.def_ 34 (d := dFn 44 "_law_right") rfl
  have g44 : mg "_law_right" = some (.ref (He.ga K "_law_right")) := D (by decide +kernel)
  obtain ⟨d45, (F45 : Fd K "law" (top 45) (He.ga K "law") d45)⟩ := c.def_ 35 (d := dFn 45 "law") rfl
  have g45 : mg "law" = some (.ref (He.ga K "law")) := D (by decide +kernel)
  have e := hfa.symm.trans g45
  cases e
  have b := FunD.bindsA (ps := ["script"]) F45 fun _ _ _ _ _ _ us hl => match us, hl with | [_], _ => rfl
  refine ⟨d45, fun s v => b s [v] rfl, fun base _ _ => ?_⟩
  have O2 : One P w K mg base "InvalidFounds" "given" := o2 FI2 (D (by decide +kernel)) (Bc (by decide +kernel)) (N "InvalidFounds" (by decide +kernel))
  have O3 : One P w K mg base "InvalidIndex" "given" := o3 FI3 (D (by decide +kernel)) (Bc (by decide +kernel)) (N "InvalidIndex" (by decide +kernel))
  have p5 := ok_is_below (P := P) (w := w) (base := base) F5 g5 B
  have p6 := ok_is_list (P := P) (w := w) (base := base) F6 g6 B
  have p7 := ok_is_tuple (P := P) (w := w) (base := base) F7 g7 B
  have p8 := ok_diff (P := P) (w := w) (base := base) F8 g8 B
  have p12 := ok_is_name (P := P) (w := w) (base := base) F12 g12 B i1
  have p13 := ok_is_text (P := P) (w := w) (base := base) F13 g13 B i2
  have p14 := ok_is_line F14 g14 B p7 p12 p13
  have p15 := ok_are_lines F15 g15 B p6 p14 p8
  have p19 := ok_are_owns F19 g19 B p12 p8
  have p18 := ok_is_founds F18 g18 B i0 p6 p7 p15 p19
  have p20 := ok_check_founds F20 g20 O2 p18
  have p23 := ok_check_readers F23 g23 B O3 p5 p20
  have p22 := ok_turned_lines (P := P) (w := w) (base := base) F22 g22 B
  have p24 := ok_turned F24 g24 p23 p22
  have p26 := ok_shown F26 g26 p24
  have p25 := ok_arrows F25 g25 B p26
  have p28 := ok_cell (P := P) (w := w) (base := base) F28 g28 B
  have p29 := ok_box (P := P) (w := w) (base := base) F29 g29 B
  have p30 := (ok_take (P := P) (w := w) (base := base) F30 g30 B).imp (fun _ _ _ _ => take_draw)
  have p31 := ok_mixed F31 g31 B p30
  have p32 := ok_names F32 g32 B p30
  have p33 := ok_lines F33 g33 B p30
  have p34 := ok_log F34 g34 B p30 p31
  have p35 := ok_founds F35 g35 B p30 p31 p32 p33 p34
  have p36 := ok_lturned (P := P) (w := w) (base := base) F36 g36 B
  have p37 := ok_larrows (P := P) (w := w) (base := base) F37 g37 B
  have p38 := ok_same (P := P) (w := w) (base := base) F38 g38 B T hsy
  have p39 := ok_told F39 g39 B XE p24 p25
  have p40 := ok_pair F40 g40 B p36 p37 p39 p38
  have p41 := ok_oddi (P := P) (w := w) (base := base) F41 g41 B
  have p42 := ok_oddf (P := P) (w := w) (base := base) F42 g42 B
  have p43 := ok_refd F43 g43 B p30 p41 p42 p39 p38
  have p44 := ok_right F44 g44 B hsy p30 p35 p40 p43
  exact ok_law F45 B p28 p29 p30 p44
end
end K10

open PySem PySem.W PySem.Calls PyProof.Rows
theorem PySem.Challenge.cw_maplost_k10_arrows_by_own_pairs_holds : PySem.Challenge.rw_maplost_k10_arrows_by_own_pairs.Holds := by
  w_on; o_law
  refine HandSHeadRun.head_any (r := OpenLaw.row PySem.Challenge.rw_maplost_k10_arrows_by_own_pairs) (q := view (OpenLaw.row PySem.Challenge.rw_maplost_k10_arrows_by_own_pairs).prog [45]) (H := K10.hk) (ob := K10.ob) (M := 20000) (loose := K10.looseN)
    (d := HandSHeadRun.topDef (OpenLaw.row PySem.Challenge.rw_maplost_k10_arrows_by_own_pairs).prog 45) (kwd := []) K10.ob_eq
    (by kernel_rfl) (fun s => by kernel_rfl) K10.run (by kernel_rfl) (by kernel_rfl) (by kernel_rfl) (by rfl) (by first | assumption | decide +kernel) (by decide +kernel) ⟨rfl, rfl, rfl, rfl, rfl, by decide +kernel⟩ ?hw ?hc
  case hw => w_witness2
  case hc =>
    refine L2.walk_G (l := PySem.Challenge.rw_maplost_k10_arrows_by_own_pairs) (n := 63) (k := 13) (x := "script") rfl (by decide) (by kernel_rfl) ⟨by decide, by decide, by decide⟩ ?_
    intro w mg fx h Y G hmg0
    obtain ⟨K, KX, c⟩ := Y
    obtain ⟨c, ck, pg⟩ := Ml.seeP_ok c
    have hmg : mg ("law" : PySem.Str) = some (.ref fx) := by
      have e : (HandSHeadRun.topDef (OpenLaw.row PySem.Challenge.rw_maplost_k10_arrows_by_own_pairs).prog 45).name = ("law" : PySem.Str) := by kernel_rfl
      rw [← e]
      exact hmg0
    obtain ⟨fd, hb, hF⟩ := K10.facts (P := (PySem.Challenge.rw_maplost_k10_arrows_by_own_pairs).prog) (w := w) KX G hmg c ck
    exact ⟨K, fd, K10.spLaw K, KX, hb, fun H a ns hS => ⟨a, ns, rfl, hS, fun _ => rfl⟩, hF⟩

