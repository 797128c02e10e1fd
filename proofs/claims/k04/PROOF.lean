import PyProof.Rows.All
import Wide.All
import OpenK.AllK
import Wide.FinOn
import PyProof.EqAt
import PyProof.EqKinds
import PyProof.TupleCall
import HandS.ForMost
import HandS.Exc
import HandS.ExcInit
import HandS.Defaults
import KE.KIsAll
import KE.KTryMore
import HandS.ExcIs
import HandS.ExcField
import HandS.IsInst
import HandS.MakeKwOnly
import HandS.HotCalls
import HandS.Ends
import HandS.Head0
import HandS.Head1
import HandS.Head2
import HandS.HeadHook1
import HandS.HeadHook2
import HandS.HeadNt
import HandS.Property
import KE.KStateDown
import HandS.HeadEnd
import HandS.OwnEq
import PyProof.InstNe
import HandS.Comp
import PyProof.ReprRoads
import HandS.ForExc
import HandS.ListEq
import HandS.DeepEq
import HandS.DictComp
import HandS.WordsList
import HandS.ExcCtx
import HandS.MakeKw
import HandS.CallSlots
import HandS.ExcInitHot
import HandS.Iter
import PyProof.StrLoop
import HandS.Walk
import HandS.NamedTupGet
import HandS.Text
import HandS.Flow
import HandS.More
import PyProof.StrLawsRepr
import PyProof.TypeEq
import HandS.Style
import HandS.SortInts
import HandS.SortRule
import HandS.NoneIn
import HandS.Conv
import HandS.Strs
import HandS.TupSets
import KE.KIntText
import HandS.Star
import HandS.Deep
import PySem.Challenge.RW_maplost_k04_whole_networks_by_queues
set_option Elab.async false
set_option linter.all false
set_option maxRecDepth 100000
set_option maxHeartbeats 0
/-! exceptions with an own __init__, made by values and by keywords -/
namespace PySem
namespace MlE
open Builtin Builtin.ObjectAttr PySem.HandSPX
section
variable {M : Model} {A : Around} {E : Value → Shared → Prop} {hp : Heap} {gs : Array GenState} {dr : Drawn} {tk : Nat} {os : OsState}
variable {nm q : Str} {C N : Addr} {bs bm base : List Value} {hdct : Bool} {sn : List Str} {sub : List Value} {ab : Bool} {col : Option Bool} {dd : Option Addr}
variable {k0 k1 k2 k3 k5 : Option Value} {B nid iid : String}
theorem newCheckK (F : ExcBaseFacts B nid iid base) (hT : ∀ Y : String, bm.contains (.type Y) = base.contains (.type Y))
    {xs : List Value} {kw : List (Str × Value)} {Q : Unit → Shared → Prop}
    (hC : hp.get? C = some (excClassObj nm q C N bs bm hdct sn sub ab col dd k0 k1 k2 k3 k5 nid))
    (hq : Q () ⟨hp, gs, dr, tk, os⟩) :
    wpAny M A (checkBuiltinCall nid { pos := .ref C :: xs, kw := kw }) Q E ⟨hp, gs, dr, tk, os⟩ := by
  have inB : (Value.ref C :: bm).contains (.type B) = true := by
    rw [List.contains_cons, hT, F.hasB, Bool.or_true]
  have st := F.noStar
  simp only [checkBuiltinCall, F.newKind, F.newSplit, F.newRow]
  repeat (first
    | refine wpAny_loadPart_at hC ?_
    | (refine wpAny_isSubtype_exc hC ?_; rw [inB])
    | refine wpAny_staticBase_exc hC ?_
    | refine wpAny_madeBy_exc hC ?_
    | simp only [bne_self_eq_false, Bool.false_eq_true, if_false]
    | wp_step)
  exact hq
end
section
variable {P : Program} {w : World} {A : Around} {E : Value → Shared → Prop} {R : Result → Shared → Prop} {hp : Heap} {gs : Array GenState} {dr : Drawn} {tk : Nat} {os : OsState}
variable {nm q : Str} {C N : Addr} {bs bm base : List Value} {hdct : Bool} {sn : List Str} {sub : List Value} {ab : Bool} {col : Option Bool} {dd : Option Addr}
variable {k0 k1 k2 k3 k5 : Option Value} {B nid iid : String}
/-- the heap behind BaseException.__new__ -/
abbrev withNew (hp : Heap) (C : Addr) (xs : List Value) : Heap := (hp.push (PySem.W.kdv_tup xs)).push (excO C hp.objs.size)
theorem newK (F : ExcBaseFacts B nid iid base) (hT : ∀ Y : String, bm.contains (.type Y) = base.contains (.type Y))
    {xs : List Value} {kw : List (Str × Value)}
    (hC : hp.get? C = some (excClassObj nm q C N bs bm hdct sn sub ab col dd k0 k1 k2 k3 k5 nid)) (hl : xs.length ≤ sizeLine)
    (hq : R (.ok (.ret (.ref (hp.objs.size + 1)))) ⟨withNew hp C xs, gs, dr, tk, os⟩) :
    codeAny (model P w) A (.builtin nid { pos := .ref C :: xs, kw := kw }) R ⟨hp, gs, dr, tk, os⟩ := by
  have en := F.ends
  have inB : (Value.ref C :: bm).contains (.type B) = true := by
    rw [List.contains_cons, hT, F.hasB, Bool.or_true]
  have inA : (Value.ref C :: bm).contains (.type "AttributeError") = false := by
    rw [List.contains_cons, hT, F.noAttr] <;> rfl
  have inN : (Value.ref C :: bm).contains (.type "NameError") = false := by
    rw [List.contains_cons, hT, F.noName] <;> rfl
  refine codeAny_builtinAt F.entry ?_
  unfold Builtin.«BaseException.__new__»
  refine wpAt_bind ?_
  show wpAt _ _ _ (stack >>= _) _ _ _
  refine wpAt_bind (wpAt_stack fun p below => wpAt_of_wpAny ?_)
  wp_walk
  refine wpAt_of_wpAny ?_
  rw [F.owner]
  repeat (first
    | with_reducible refine wpAny_madeHere_exc F.canon hC ?_
    | with_reducible refine wpAny_loadPart_at hC ?_
    | (with_reducible refine wpAny_isSubtype_exc hC ?_; first | rw [inB] | rw [inA] | rw [inN])
    | wp_step)
  show R _ _
  rw [Heap.size_push]
  exact hq
/-- type.__call__ on such a class, with keywords -/
theorem typeCallK (F : ExcBaseFacts B nid iid base) (hT : ∀ Y : String, bm.contains (.type Y) = base.contains (.type Y))
    {xs : List Value} {kw : List (Str × Value)} {fI : Addr} {Q : Fin → Shared → Prop}
    (hC : hp.get? C = some (excClassObj nm q C N bs bm hdct sn sub ab col dd k0 k1 k2 k3 k5 nid))
    (hi : W.Looks (model P w) hp (typeLookup (.ref C) "__init__") (some (.ref fI)))
    (hb : ∀ self, W.Looks (model P w) hp (bindSpecial (.ref fI) self) (.ref fI, [self])) (hl : xs.length ≤ sizeLine)
    (hq : codeAny (model P w) A (.call (.ref fI) ⟨.ref (hp.objs.size + 1) :: xs, kw⟩)
      (fun r z => match r with
        | .ok (.ret v) => v = .none ∧ Q (.done (.ret (.ref (hp.objs.size + 1)))) z
        | .ok _ => False
        | .error e => E e z) ⟨withNew hp C xs, gs, dr, tk, os⟩) :
    wpAny (model P w) A (Builtin.«type.__call__» { pos := .ref C :: xs, kw := kw }) Q E ⟨hp, gs, dr, tk, os⟩ := by
  repeat (first
    | with_reducible refine wpAny_loadPart_at hC ?_
    | with_reducible refine wpAny_madeBy_exc hC ?_
    | wp_step)
  refine codeAny_call_builtin_code (Code.quiet_builtin _ F.quiet) (newCheckK F hT hC ?_)
  refine newK F hT hC hl ?_
  show wpAny _ _ _ _ _ _
  have up : ∀ b o, hp.get? b = some o → (withNew hp C xs).get? b = some o :=
    fun b o e => Heap.get?_push_of_some _ (Heap.get?_push_of_some _ e)
  have atC := up _ _ hC
  have atE : (withNew hp C xs).get? (hp.objs.size + 1) = some (excO C hp.objs.size) := by heap_get
  have self : (Value.ref C :: bm).contains (.ref C) = true := by simp
  have iK := hi.keeps up
  have bK := (hb (.ref (hp.objs.size + 1))).keeps up
  unfold isInstance
  repeat (first
    | with_reducible refine wpAny_loadPart_at atE ?_
    | (with_reducible refine wpAny_isSubtype_exc atC ?_; rw [self])
    | wp_step)
  show wpAny _ _ (typeLookup (.ref C) _) _ _ _
  refine iK.at ?_
  refine wpAny_holding (wpAny_bind (bK.at ?_))
  refine wpAny_bind (wpAny_call (codeAny_mono hq fun r z hz => ?_))
  cases r with
  | error e => exact hz
  | ok fl =>
    cases fl with
    | ret v =>
      obtain ⟨rfl, hz⟩ := hz
      first
        | exact wpAny_pure (wpAny_pure hz)
        | (wp_walk; exact hz)
    | next => exact hz.elim
    | brk => exact hz.elim
    | cont => exact hz.elim
theorem callK (F : ExcBaseFacts B nid iid base) (hT : ∀ Y : String, bm.contains (.type Y) = base.contains (.type Y))
    {xs : List Value} {kw : List (Str × Value)} {fI : Addr}
    (hC : hp.get? C = some (excClassObj nm q C N bs bm hdct sn sub ab col dd k0 k1 k2 k3 k5 nid))
    (hi : W.Looks (model P w) hp (typeLookup (.ref C) "__init__") (some (.ref fI)))
    (hb : ∀ self, W.Looks (model P w) hp (bindSpecial (.ref fI) self) (.ref fI, [self])) (hl : xs.length ≤ sizeLine)
    (hq : codeAny (model P w) (A.under (.builtin "type.__call__" ⟨.ref C :: xs, kw⟩))
      (.call (.ref fI) ⟨.ref (hp.objs.size + 1) :: xs, kw⟩) (W.InitBack (hp.objs.size + 1) R) ⟨withNew hp C xs, gs, dr, tk, os⟩) :
    codeAny (model P w) A (.call (.ref C) { pos := xs, kw := kw }) R ⟨hp, gs, dr, tk, os⟩ := by
  have g1 := tc_lookup
  have g2 := tc_bind (.ref C)
  have gT : (⟨hp, gs, dr, tk, os⟩ : Shared).TypeIs (.ref C) "type" := ⟨_, hC, rfl⟩
  refine codeAny_of_tree ?_
  show wpAny _ _ (callAny (.ref C) _) _ _ _
  repeat (any_goals (first
    | assumption
    | with_reducible refine wpAny_loadPart_at hC ?_
    | wp_step))
  refine ⟨rfl, ?_⟩
  refine codeAny_call_builtin_at (Code.quiet_builtin _ (by decide +kernel)) entry_typeCall ?_
  refine wpAny_check_type_call_sub hC (typeCallK F hT hC hi hb hl ?_)
  refine codeAny_mono hq fun r z hz => ?_
  cases r with
  | error e => exact hz
  | ok fl => cases fl <;> exact hz
end
end MlE
end PySem

/-! exceptions as values: isinstance, fields, whatever their dict -/
namespace PySem
namespace MlE
open PySem.W PySem.Spec PySem.Calls PyProof.Rows
section
variable {prog : Program} {w : World} {A : Around} {E : Value → Shared → Prop} {s : Shared} {K : Frag} {x D : Addr} {ox : Obj} {od : Option Obj}
theorem findObj_class {C : Addr} {name : Str} {a g : Value} (hc : (clsIn K C).isSome = true)
    (ha : findIn K (.ref C) name = some (some a)) (hg : specialIn K a "__get__" = some (some g)) (ht : takesIn K a = some true) :
    findObj K C od name = some (.bind g a) := by
  obtain ⟨cd, hcd⟩ := Option.isSome_iff_exists.mp hc
  unfold findObj
  simp [hcd, ha, hg, ht]
theorem class_of_exc {Q : Option Value → Shared → Prop} (T : L2.ExcC K D) (X : K.In s.heap) (I : InstAt s.heap x ox D od)
    (h : Q (some (.ref D)) { s with toks := s.toks + 1 }) : wpAny (model prog w) A (getAttr? (.ref x) "__class__") Q E s := by
  obtain ⟨hg, hk, hs, hd, ha, hn, ht, hm⟩ := T
  have cl : (clsIn K D).isSome = true := by
    obtain ⟨cd, hc, _⟩ := any_some hd
    rw [hc] <;> rfl
  have hf : findObj K D od "__class__" = some (.bind (.builtin "getset_descriptor.__get__") (.builtin "object.__class__")) :=
    findObj_class cl ha hn ht
  obtain ⟨hp, gs, dr, tk, os⟩ := s
  have l0 := I.type (M := model prog w)
  have l1 := looks_findIn (M := model prog w) X hg
  have l2 := looks_findIn (M := model prog w) X hk
  have l3 := looks_find (M := model prog w) X I hf
  have lb : Looks (model prog w) hp (isInstance (.ref x) (.type "BaseException")) true :=
    l0.andThen (looks_subIn X hs)
  have n0 : (false && onTheHeap (Value.builtin "BaseException.__getattribute__")) = false := rfl
  have n2 : (Value.builtin "BaseException.__getattribute__" == Value.builtin "object.__getattribute__") = false := by
    decide +kernel
  have n1 : (onTheHeap (Value.ref D) && Value.builtin "BaseException.__getattribute__" == Value.builtin "object.__getattribute__") = false := by
    rw [n2] <;> rfl
  unfold getAttr? getAttrBy? getAttrBy
  refine wpAny_bind (wpAny_mkText (wpAny_bind (wpAny_attempt ?_)))
  refine wpAny_holding (wpAny_bind (l0.at (wpAny_bind (l1.at ?_))))
  show wpAny _ _ (if (onTheHeap (Value.ref D) && Value.builtin "BaseException.__getattribute__" == Value.builtin "object.__getattribute__") = true then _
    else _) _ _ _
  rw [n1, if_neg Bool.false_ne_true]
  unfold getAttrByItsOwn hookBefore
  refine wpAny_bind ?_
  rw [if_pos (show onTheHeap (Value.ref D) = true from rfl)]
  refine l2.at ?_
  refine wpAny_bind (wpAny_attempt ?_)
  refine wpAny_holding ?_
  unfold callGetattribute
  rw [n0, if_neg Bool.false_ne_true]
  unfold boundAndCalled
  rw [PySem.F.excAttr_ValueError.ga.bind (.ref x)]
  refine wpAny_bind (wpAny_pure ?_)
  show wpAny _ _ (call (.builtin "BaseException.__getattribute__") [.ref x, .str "__class__" tk]) _ _ _
  refine wpAny_call ?_
  refine codeAny_call_builtin PySem.F.excAttr_ValueError.ga.plain PySem.F.entry_bexc_ga ?_
  refine @check_slot (model prog w) _ _ ⟨hp, gs, dr, tk + 1, os⟩ "BaseException.__getattribute__" "BaseException" "__getattribute__"
    (.ref x) [.str "__class__" tk] [] _ (by decide +kernel) (by decide +kernel) lb (PySem.F.args_bexc_ga (.ref x) (.str "__class__" tk)) ?_
  unfold Builtin.«object.__getattribute__»
  refine wpAny_bind ?_
  refine wpAny_of_eq (a := ((Value.ref x : Value), [Value.str "__class__" tk])) (by first | rfl | (simp only [slotArgs]; rfl)) ?_
  refine wpAny_bind (wpAny_pure ?_)
  refine wpAny_bind (l0.at (wpAny_bind (l3.at ?_)))
  show wpAny _ _ (holding [Value.builtin "object.__class__"] (call (.builtin "getset_descriptor.__get__")
    [.builtin "object.__class__", .ref x, .ref D]) >>= ret) _ _ _
  refine wpAny_bind (wpAny_holding (wpAny_call ?_))
  refine class_get (s := ⟨hp, gs, dr, tk + 1, os⟩) (ox := ox) (od := od) X I hm ?_
  refine wpAny_pure ?_
  show wpAny _ _ (handedOut (.ref D)) _ _ _
  rw [handedOut_of (v := .ref D) rfl]
  first
    | exact wpAny_pure (wpAny_pure h)
    | exact wpAny_pure h
    | exact wpAny_pure (wpAny_bind (wpAny_pure (wpAny_pure h)))
theorem kitx_excD (T : L2.ExcC K D) : KitX K (.ref x) (.ref D) (fun h => InstAt h x ox D od) where
  ty := fun _ _ _ I => I.type
  it := fun M h X _ => by
    obtain ⟨cd, hc, _⟩ := any_some T.hd
    unfold clsIn at hc
    split at hc
    · rename_i c1 d1 cd1 sl1 ho
      intro A1 Q1 E1 s1 k q
      unfold isType loadHead
      refine wpAny_bind ?_
      exact wpAny_loadPart (k _ _ (X _ _ ho)) (wpAny_pure q)
    · cases hc
  ne := fun h tp dd its n sl X htp => by
    obtain ⟨cd, hc, _⟩ := any_some T.hd
    rw [Bool.eq_false_iff]
    intro q
    obtain rfl : D = tp := Value.ref.inj (beq_iff_eq.mp q)
    unfold clsIn at hc
    split at hc
    · rename_i c1 d1 cd1 sl1 ho
      have z := (X _ _ ho).symm.trans htp
      cases z
    · cases hc
  ca := fun X I k => class_of_exc T X I k
end
end MlE
end PySem

namespace L2
open PySem PySem.Spec PyProof.Rows
/-! ### an exception that is held: tracked, or one of the pins ps -/
abbrev Pin := Addr × Obj
/-- the field table of an exception stands at d -/
def XdAt (H : Hp) (d : Addr) (fs : List (Str × V)) : Prop := H d = some (exd d fs) ∨ H d = some (.xd fs)
/-- at a: an exception of the class at C, its table at d with the fields fs -/
structure EvP (ps : List Pin) (H : Hp) (a C d : Addr) (fs : List (Str × V)) : Prop where
  at_ : H a = some (exo a C (some d)) ∨ ∃ oe : Obj, (a, oe) ∈ ps ∧ oe.cls = .ref C ∧ oe.dict = some d ∧ ∃ vs, oe.data = .fields vs
  tab : XdAt H d fs
theorem EvP.mono {ps qs : List Pin} {H H' : Hp} {a C d : Addr} {fs : List (Str × V)} (e : EvP ps H a C d fs)
    (hp : ∀ p ∈ ps, p ∈ qs) (k : ∀ b o, H b = some o → H' b = some o) : EvP qs H' a C d fs where
  at_ := e.at_.imp (k _ _) fun ⟨oe, h1, h2⟩ => ⟨oe, hp _ h1, h2⟩
  tab := e.tab.imp (k _ _) (k _ _)
section
variable {X : Cx} {pins : List Pin} {σ : St} {H : Hp} {s : Shared}
theorem XdAt.look (I : Inv X pins σ H s) {d : Addr} {fs : List (Str × V)} (x : XdAt H d fs) :
    ∃ mA, s.heap.Ns1 d mA ∧ ∀ f, RelO (fs.lookup f) (mA f) := by
  rcases x with x | x
  · exact exd_at I.hok x
  · exact I.hok d _ x
theorem EvP.look (I : Inv X pins σ H s) {ps : List Pin} (hps : ∀ p ∈ ps, p ∈ X.pn) {a C d : Addr} {fs : List (Str × V)} (e : EvP ps H a C d fs) :
    ∃ oe od mA, PySem.W.InstAt s.heap a oe C (some od) ∧ s.heap.Ns1 d mA ∧ (∀ f, RelO (fs.lookup f) (mA f)) ∧
      ∀ name, PySem.W.lookIn name od = some (mA name) := by
  obtain ⟨mA, hn, hr⟩ := e.tab.look I
  obtain ⟨od, ho, hl⟩ := lookIn_ns hn
  have key : ∃ oe : Obj, s.heap.get? a = some oe ∧ oe.cls = .ref C ∧ oe.dict = some d ∧ ∃ vs, oe.data = .fields vs := by
    rcases e.at_ with h | ⟨oe, hm, h1, h2, h3⟩
    · obtain ⟨t1, z⟩ := exo_at I.hok h
      exact ⟨_, z, rfl, rfl, _, rfl⟩
    · exact ⟨oe, (I.pin (a, oe) (List.mem_append_left _ (hps _ hm))).1, h1, h2, h3⟩
  obtain ⟨oe, z, hc, hd, vs, hv⟩ := key
  refine ⟨oe, od, mA, ⟨z, hc, ?_, ?_⟩, hn, hr, hl⟩
  · unfold PySem.W.notCls
    rw [hv] <;> rfl
  · rw [hd]
    exact ho
end

/-! ### isinstance -/
def rIsEv (K : PySem.W.Frag) (ps : List Pin) : List V → Hp → VK → Prop := fun xs H Q =>
  ∃ (a D d : Addr) (fs : List (Str × V)) (c : V) (u : Value) (b : Bool), xs = [.ref a, c] ∧ EvP ps H a D d fs ∧ ExcC K D ∧
    ClsV c u ∧ PySem.W.kitOne K (.ref D) u = some b ∧ Q (.bl b) H
def rIsEvT (K : PySem.W.Frag) (ps : List Pin) : List V → Hp → VK → Prop := fun xs H Q =>
  ∃ (a D d tp : Addr) (fs : List (Str × V)) (cs : List V) (us : List Value) (b : Bool), xs = [.ref a, .ref tp] ∧ EvP ps H a D d fs ∧
    ExcC K D ∧ H tp = some (.tup cs) ∧ Paired ClsV cs us ∧ PySem.W.kitAny K (.ref D) us = some b ∧ Q (.bl b) H
section
variable {X : Cx} {ps : List Pin}
theorem call_isEv (hps : ∀ p ∈ ps, p ∈ X.pn) : CallR X (.builtin "isinstance") (rIsEv X.K ps) := by
  intro pins s σ H xs us Q I r h
  obtain ⟨a, D, d, fs, c, u, b, rfl, ev, C, k, e, q⟩ := h
  obtain ⟨u1, u2, rfl, r1, r2⟩ := vals2 r
  have e2 := k.eq r2
  subst e2
  obtain rfl : u1 = Value.ref a := r1
  obtain ⟨oe, od, mA, J, _⟩ := ev.look I hps
  exact PySem.W.kia_one (PySem.MlE.kitx_excD C) I.kIn J e (fun z => nomatch z)
    fun tk => ⟨.bl b, H, I.tok tk, rfl, q⟩
theorem call_isEvT (hps : ∀ p ∈ ps, p ∈ X.pn) : CallR X (.builtin "isinstance") (rIsEvT X.K ps) := by
  intro pins s σ H xs us Q I r h
  obtain ⟨a, D, d, tp, fs, cs, ws, b, rfl, ev, C, hT, k, e, q⟩ := h
  obtain ⟨u1, u2, rfl, r1, r2⟩ := vals2 r
  obtain rfl : u2 = Value.ref tp := r2
  obtain rfl : u1 = Value.ref a := r1
  obtain ⟨oe, od, mA, J, _⟩ := ev.look I hps
  obtain ⟨_, its, rv, o, h1, h2, n, h3⟩ := (show ObjOk X.prog X.w H s.heap tp (.tup cs) from I.hok tp _ hT)
  have e3 := ClsV.all k rv
  subst e3
  obtain ⟨oc, od2, dt, sl⟩ := o
  simp only at h2 h3
  subst h2 h3
  exact PySem.W.kia_tup (PySem.MlE.kitx_excD C) I.kIn J h1 e (fun z => nomatch z)
    fun tk => ⟨.bl b, H, I.tok tk, rfl, q⟩
end

/-! ### a field -/
def tEvF (K : PySem.W.Frag) (ps : List Pin) (f : Str) (te : TE) : TE := fun σ H Q => te σ H fun x H1 =>
  ∃ (a D d : Addr) (fs : List (Str × V)) (v : V), x = .ref a ∧ EvP ps H1 a D d fs ∧ XfC K D ∧
    PySem.W.findIn K (.ref D) f = some none ∧ fs.lookup f = some v ∧ Q v H1
theorem pe_evF {X : Cx} {ps : List Pin} {e : Expr} {te : TE} {f : Str} {pos : Pos} (hps : ∀ p ∈ ps, p ∈ X.pn) (he : PE X e te)
    (hb : attributeBase e f X.env (eval e X.env) = eval e X.env := by rfl) : PE X (.Attribute e f pos) (tEvF X.K ps f te) := by
  refine ⟨fun pins s σ H Q I h => ?_⟩
  refine attr_of hb (thn (he.run pins s σ H _ I h) fun u s1 hh => ?_)
  obtain ⟨x, H1, I1, rx, a, D, d, fs, v, rfl, ev, T, hno, l, q⟩ := hh
  obtain rfl : u = Value.ref a := rx
  obtain ⟨oe, od, mA, J, _, hr, hl⟩ := ev.look I1 hps
  obtain ⟨y, hu, ru⟩ := RelO.some_of (v := v) (o := mA f) (by rw [← l]; exact hr f)
  exact HandSPX.exc_get I1.kIn J T.ga T.gg T.exC (PySem.W.findObj_own T.hdC hno rfl (by rw [hl, hu]))
    (handed_of ru) ⟨v, H1, I1.tok _, ru, q⟩

/-! ### C(e, .., k = v, ..) as a value -/
def tMkEv (C : Addr) (n m : Nat) (sp : Sp) (gV : List V → List V → List V) (t tk : TA) : TE := fun σ H Q =>
  t σ H fun vs H1 => tk σ H1 fun zs H2 => vs.length = n ∧ zs.length = m ∧
    ∀ a, H2 a = none → sp (gV (.ref a :: vs) zs) (upd H2 a (exo a C none)) (fun v H3 => v = .non ∧ Q (.ref a) H3) fun _ _ _ => False
section
variable {X : Cx} {CX : CXT} {k n : Nat} {C fI : Addr} {fd : FuncData} {ps ks : List Str} {sp : Sp} {x : Str} {p pos : Pos}
variable {e : Expr} {es : List Expr} {kws : List Keyword} {t tk : TA} {g : List Value → List Value → List Value} {gV : List V → List V → List V}
theorem run_mkEv {pins : List Pin} {σ : St} {H : Hp} {s : Shared} {Q : VK} {us ws : List Value} {vs zs : List V} (T : OexC X.K C)
    (iC : PySem.W.findIn X.K (.ref C) "__init__" = some (some (.ref fI))) (tI : PySem.W.typeIn X.K (.ref fI) = some (.type "function"))
    (F : FnOk X.prog X.w X.K X.mg X.base CX k fI fd ps sp) (hr : Room (k + 1) X.A) (hb : KBn X.K fd ps (n + 1) ks g gV)
    (hx : Passes CX X fun _ _ _ => False) (I : Inv X pins σ H s) (r : Vals vs us) (rz : Vals zs ws) (l1 : vs.length = n)
    (l2 : zs.length = ks.length) (hn : n ≤ 1000)
    (h : ∀ a, H a = none → sp (gV (.ref a :: vs) zs) (upd H a (exo a C none)) (fun v H2 => v = .non ∧ Q (.ref a) H2) fun _ _ _ => False) :
    wpAny (model X.prog X.w) X.A (call (.ref C) us (ks.zip ws)) (EP X pins σ Q) X.xe s := by
  obtain ⟨nm, q, N, bs, bm, sn, sub, ab, col, dd, k0, k1, k2, k3, k5, hC, hbm⟩ := T.cls
  obtain ⟨hp, gs, dr, tk0, os⟩ := s
  have le1 : hp.objs.size ≤ hp.objs.size + 1 := Nat.le_succ _
  have hq := h (hp.objs.size + 1) (I.hok.fresh le1)
  have up : ∀ b o, hp.get? b = some o → (PySem.MlE.withNew hp C us).get? b = some o :=
    fun b o e => Heap.get?_push_of_some _ (Heap.get?_push_of_some _ e)
  have atE : (PySem.MlE.withNew hp C us).get? (hp.objs.size + 1) = some (PySem.HandSPX.excO C hp.objs.size) := by heap_get
  have I2 : Inv X pins σ (upd H (hp.objs.size + 1) (exo (hp.objs.size + 1) C none)) ⟨PySem.MlE.withNew hp C us, gs, dr, tk0, os⟩ :=
    I.laid (t' := tk0) (a := hp.objs.size + 1) (o := exo (hp.objs.size + 1) C none) (h' := PySem.MlE.withNew hp C us) up le1 (exo_ok atE)
  have r1 : Vals (V.ref (hp.objs.size + 1) :: vs) (Value.ref (hp.objs.size + 1) :: us) := .cons rfl r
  have r2 := hb.rel r1 rz
  have e1 : (Value.ref (hp.objs.size + 1) :: us).length = n + 1 := r1.length.symm.trans (congrArg Nat.succ l1)
  have e2 : ws.length = ks.length := rz.length.symm.trans l2
  have hus : us.length ≤ sizeLine := by
    have z := r.length
    rw [sizeLine_eq]
    omega
  refine wpAny_call (PySem.MlE.callK PySem.F.excBase_ValueError (fun Y => PySem.HandSPX.refsVE_contains Y bm hbm)
    (I.kIn _ _ hC) (PySem.W.looks_findIn I.kIn iC) (fun self => PySem.W.bind_fn I.kIn self tI) hus ?_)
  refine codeAny_mono (F.run _ X.stack _ _ ⟨Value.ref (hp.objs.size + 1) :: us, ks.zip ws⟩ (g (Value.ref (hp.objs.size + 1) :: us) ws)
    _ _ (fun _ _ _ => False) (hr.make C us (ks.zip ws)) (I2.env0.make C us (ks.zip ws))
    (hb.to _ (Value.ref (hp.objs.size + 1) :: us) ws I2.kIn e1 e2) r2 hq) fun r s1 h1 => ?_
  cases r with
  | error er => exact hx pins σ _ _ er s1 I2 h1
  | ok fl =>
    cases fl with
    | ret u =>
      obtain ⟨v, H3, I3, rv, ev, q3⟩ := I2.after h1
      subst ev
      exact ⟨rv, ⟨V.ref (hp.objs.size + 1), H3, I3, rfl, q3⟩⟩
    | next => exact False.elim h1
    | brk => exact False.elim h1
    | cont => exact False.elim h1
/-- C(e, ..), values alone -/
theorem pe_mkEv (T : OexC X.K C) (iC : PySem.W.findIn X.K (.ref C) "__init__" = some (some (.ref fI)))
    (tI : PySem.W.typeIn X.K (.ref fI) = some (.type "function")) (FI : FnOk X.prog X.w X.K X.mg X.base CX k fI fd ps sp) (hr : Room (k + 1) X.A)
    (hb : KBn X.K fd ps (n + 1) [] g gV) (hx : Passes CX X fun _ _ _ => False) (hn : n ≤ 1000) (hg : Gl X x) (hm : X.mg x = some (.ref C)) (ha : PA X (e :: es) t)
    (hdb : (x == ("__debug__" : Str)) = false := by decide) (he : starEach (e :: es) X.env = (false, eval e X.env) :: starEach es X.env := by rfl)
    (hpl : (backTo pos (starEach es X.env)).any (·.1) = false := by rfl) : PE X (.Call (.Name x p) (e :: es) [] pos) (tMkEv C n 0 sp gV t tNil) := by
  refine ⟨fun pins s σ H Q I h => ?_⟩
  refine wpAny_Call_Name_kw (ld_glob I hg hm ?_ hdb)
  refine PySem.W.callWith_K (h₀ := X.base) I.ok.mod.kin T.kC ?_ he hpl
  refine thn (ha.run pos pins s σ H _ I h) fun us s1 ⟨vs, H1, I1, r, l1, l2, q⟩ => ⟨I1.kIn, ?_⟩
  exact run_mkEv (ks := []) (ws := []) (zs := []) T iC tI FI hr hb hx I1 r .nil l1 rfl hn q
/-- C(k = v, ..) -/
theorem pe_mkEvK (T : OexC X.K C) (iC : PySem.W.findIn X.K (.ref C) "__init__" = some (some (.ref fI)))
    (tI : PySem.W.typeIn X.K (.ref fI) = some (.type "function")) (FI : FnOk X.prog X.w X.K X.mg X.base CX k fI fd ps sp) (hr : Room (k + 1) X.A)
    (hb : KBn X.K fd ps 1 ks g gV) (hx : Passes CX X fun _ _ _ => False) (hg : Gl X x) (hm : X.mg x = some (.ref C)) (hkw : PK X kws tk)
    (hall : (backToKw pos (keywordEach kws X.env)).all (·.1.isSome) = true := by rfl)
    (hks : (backToKw pos (keywordEach kws X.env)).filterMap (·.1) = ks := by rfl) (hdb : (x == ("__debug__" : Str)) = false := by decide)
    (hpl : ((backTo pos (starEach [] X.env)).any (·.1) || (backToKw pos (keywordEach kws X.env)).any (·.1.isNone)) = false := by rfl) :
    PE X (.Call (.Name x p) [] kws pos) (tMkEv C 0 ks.length sp gV tNil tk) := by
  refine ⟨fun pins s σ H Q I h => ?_⟩
  refine wpAny_Call_Name_kw (ld_glob I hg hm ?_ hdb)
  refine PySem.W.callWith_KW0 (h₀ := X.base) I.ok.mod.kin T.kC hall ?_ hpl
  refine thn (hkw.run pos pins s σ H _ I h) fun ws s2 ⟨zs, H2, I2, rz, l1, l2, q2⟩ => ⟨I2.kIn, ?_⟩
  rw [hks]
  exact run_mkEv (us := []) (vs := []) T iC tI FI hr hb hx I2 .nil rz rfl l2 (Nat.zero_le _) q2
/-- C(e, .., k = v, ..) -/
theorem pe_mkEvM (T : OexC X.K C) (iC : PySem.W.findIn X.K (.ref C) "__init__" = some (some (.ref fI)))
    (tI : PySem.W.typeIn X.K (.ref fI) = some (.type "function")) (FI : FnOk X.prog X.w X.K X.mg X.base CX k fI fd ps sp) (hr : Room (k + 1) X.A)
    (hb : KBn X.K fd ps (n + 1) ks g gV) (hx : Passes CX X fun _ _ _ => False) (hn : n ≤ 1000) (hg : Gl X x) (hm : X.mg x = some (.ref C))
    (ha : PA X (e :: es) t) (hkw : PK X kws tk) (hall : (backToKw pos (keywordEach kws X.env)).all (·.1.isSome) = true := by rfl)
    (hks : (backToKw pos (keywordEach kws X.env)).filterMap (·.1) = ks := by rfl) (hdb : (x == ("__debug__" : Str)) = false := by decide)
    (he : starEach (e :: es) X.env = (false, eval e X.env) :: starEach es X.env := by rfl)
    (hpl : ((backTo pos (starEach (e :: es) X.env)).any (·.1) || (backToKw pos (keywordEach kws X.env)).any (·.1.isNone)) = false := by rfl) :
    PE X (.Call (.Name x p) (e :: es) kws pos) (tMkEv C n ks.length sp gV t tk) := by
  refine ⟨fun pins s σ H Q I h => ?_⟩
  refine wpAny_Call_Name_kw (ld_glob I hg hm ?_ hdb)
  refine PySem.W.callWith_KW (h₀ := X.base) I.ok.mod.kin T.kC hall ?_ hpl he
  refine thn (ha.run pos pins s σ H _ I h) fun us s1 ⟨vs, H1, I1, r, q⟩ => ?_
  refine thn (hkw.run pos pins s1 σ H1 _ I1 q) fun ws s2 ⟨zs, H2, I2, rz, l1, l2, q2⟩ => ⟨I2.kIn, ?_⟩
  rw [hks]
  exact run_mkEv T iC tI FI hr hb hx I2 r rz l1 l2 hn q2
end
end L2

namespace L2
open PySem PySem.Spec PyProof.Rows
theorem Vals.rev : ∀ {xs : List V} {us : List Value}, Vals xs us → Vals xs.reverse us.reverse
  | _, _, .nil => .nil
  | x :: xs, u :: us, .cons r t => by
    rw [List.reverse_cons, List.reverse_cons]
    exact (Vals.rev t).append (.cons r .nil)
section
variable {K : PySem.W.Frag} {x qual : Str} {params : Arguments} {body : List Stmt} {scope : Scope} {f : Addr} {fd : FuncData} {ps : List Str}
/-- a def without defaults, called by n values and the keywords ks -/
theorem FunD.kbn0 (F : FunD K x qual params body scope [] [] f fd) (n : Nat) (ks : List Str) (g : {α : Type} → List α → List α → List α)
    (hrel : ∀ {vs zs : List V} {us ws : List Value}, Vals vs us → Vals zs ws → Vals (g vs zs) (g us ws))
    (h : ∀ (kV doc pm : Value) (an : Option Addr) (cdv ct : Value) (us ws : List Value), us.length = n → ws.length = ks.length →
      bindArgs (PySem.W.fnOf x qual params body scope .none kV doc pm an cdv ct) ⟨us, ks.zip ws⟩ = pure (ps.zip (g us ws))) :
    KBn K fd ps n ks (fun us ws => g us ws) (fun vs zs => g vs zs) := by
  obtain ⟨oc, od, dV, kV, doc, pm, an, cdv, ct, osl, rfl, lk, hcd, hD, hK⟩ := F.ex
  rcases hD with ⟨_, rfl⟩ | ⟨e, _⟩
  · exact ⟨fun s us ws X l1 l2 => .of_eq (h kV doc pm an cdv ct us ws l1 l2), fun r1 r2 => hrel r1 r2⟩
  · exact absurd rfl e
end
theorem visP {N P : List Str} {sc : Scope} (S : FnScope N P sc) {y : Str} (hy : y ∈ P) : Vis sc y := by
  rcases S.par y hy with e | e
  · exact .inl e
  · exact .inr (.inl e)
/-- a name that means nothing to the machine -/
structure Plain (f : Str) : Prop where
  a : (f == ("__debug__" : Str)) = false
  b : (f == ("__classdict__" : Str)) = false
/-! ### self.f = f -/
abbrev iB1 (f : Str) (q1 q2 q3 q4 : Pos) : List Stmt := [.Assign [.Attribute (.Name "self" q1) f q2] (.Name f q3) q4]
abbrev iB2 (f g : Str) (q1 q2 q3 q4 r1 r2 r3 r4 : Pos) : List Stmt :=
  [.Assign [.Attribute (.Name "self" q1) f q2] (.Name f q3) q4, .Assign [.Attribute (.Name "self" r1) g r2] (.Name g r3) r4]
/-- the heap with a new exception at a, of the class at C, its table at d -/
def withEv (H : Hp) (a C d : Addr) (fs : List (Str × V)) : Hp := upd (upd H d (exd d fs)) a (exo a C (some d))
def spI1 (C : Addr) (f : Str) : Sp := fun vs H Q _ => ∃ (a : Addr) (v : V), vs = [.ref a, v] ∧ H a = some (exo a C none) ∧
  ∀ dx, H dx = none → dx ≠ a → Q .non (withEv H a C dx [(f, v)])
def spI2 (C : Addr) (f g : Str) : Sp := fun vs H Q _ => ∃ (a : Addr) (v w : V), vs = [.ref a, v, w] ∧ H a = some (exo a C none) ∧
  ∀ dx, H dx = none → dx ≠ a → Q .non (withEv H a C dx [(g, w), (f, v)])
section
variable {P : Program} {w : World} {K : PySem.W.Frag} {mg : Str → Option Value} {base : Heap} {C fI : Addr} {fd : FuncData} {qual f g : Str} {pa : Arguments} {bd : List Stmt} {sc : Scope}
theorem ok_init1 {q1 q2 q3 q4 : Pos} (F : FunD K "__init__" qual pa bd sc [] [] fI fd) (S : FnScope ["self", f] ["self", f] sc) (hb : bd = iB1 f q1 q2 q3 q4)
    (T : OexC K C) (no : PySem.W.findIn K (.ref C) f = some none) (pf : Plain f) : FnOk P w K mg base CX0 1 fI fd ["self", f] (spI1 C f) := by
  refine F.ok S (fun vs H Q E h => ?_) (fun cdv A outer s H vs Q E hr h => ?_)
  · obtain ⟨a, v, rfl, _⟩ := h
    rfl
  · subst hb
    refine ⟨_, pss_one (ps_ost (pe_var (i := 0) rfl (visP S List.mem_cons_self)) (pe_var (i := 1) rfl (visP S (List.mem_cons_of_mem _ List.mem_cons_self)) (hd := pf.a) (hcd := pf.b))), ?_⟩
    obtain ⟨a, v, rfl, ha, k⟩ := h
    exact ⟨_, rfl, _, rfl, a, C, rfl, T, no, .inl ⟨ha, fun dx n ne => k dx n ne⟩⟩
theorem ok_init2 {q1 q2 q3 q4 r1 r2 r3 r4 : Pos} (F : FunD K "__init__" qual pa bd sc [] [] fI fd) (S : FnScope ["self", f, g] ["self", f, g] sc) (hb : bd = iB2 f g q1 q2 q3 q4 r1 r2 r3 r4)
    (T : OexC K C) (no : PySem.W.findIn K (.ref C) f = some none) (no2 : PySem.W.findIn K (.ref C) g = some none) (pf : Plain f) (pg : Plain g) : FnOk P w K mg base CX0 1 fI fd ["self", f, g] (spI2 C f g) := by
  refine F.ok S (fun vs H Q E h => ?_) (fun cdv A outer s H vs Q E hr h => ?_)
  · obtain ⟨a, v, w, rfl, _⟩ := h
    rfl
  · subst hb
    have v0 := visP S (y := "self") List.mem_cons_self
    have v1 := visP S (y := f) (List.mem_cons_of_mem _ List.mem_cons_self)
    have v2 := visP S (y := g) (List.mem_cons_of_mem _ (List.mem_cons_of_mem _ List.mem_cons_self))
    refine ⟨_, pss_cons (ps_ost (pe_var (i := 0) rfl v0) (pe_var (i := 1) rfl v1 (hd := pf.a) (hcd := pf.b))) (pss_one (ps_ost (pe_var (i := 0) rfl v0) (pe_var (i := 2) rfl v2 (hd := pg.a) (hcd := pg.b)))), ?_⟩
    obtain ⟨a, v, w, rfl, ha, k⟩ := h
    refine ⟨_, rfl, _, rfl, a, C, rfl, T, no, .inl ⟨ha, fun dx n ne => ?_⟩⟩
    refine ⟨_, rfl, _, rfl, a, C, rfl, T, no2, .inr ⟨dx, [(f, v)], upd_same, ?_, by show 1 ≤ 900; decide, ?_⟩⟩
    · rw [upd_ne ne, upd_same]
    · have z := k dx n ne
      have e : upd (upd (upd H dx (exd dx [(f, v)])) a (exo a C (some dx))) dx (exd dx [(g, w), (f, v)]) = withEv H a C dx [(g, w), (f, v)] := by
        funext b
        unfold withEv
        by_cases h1 : b = dx
        · subst h1
          rw [upd_same, upd_ne ne, upd_same]
        · rw [upd_ne h1]
          by_cases h2 : b = a
          · rw [h2, upd_same, upd_same]
          · rw [upd_ne h2, upd_ne h1, upd_ne h2, upd_ne h1]
      exact e ▸ z
end
end L2

/-! defs that are called within an except suite and outside of one alike -/
namespace L2
open PySem PySem.Spec PyProof.Rows
open L2H (RoomH Hot1 PinOk)
/-- nothing is handled, or p is -/
def WarmA (A : Around) (p : Pin) : Prop := A.handled = none ∨ Hot1 A p
/-- no exception leaves -/
abbrev noE : XK := fun _ _ _ => False
structure FnP (P : Program) (w : World) (K : PySem.W.Frag) (mg : Str → Option Value) (base : Heap) (k : Nat) (f : Addr) (fd : FuncData)
    (ps : List Str) (p : Pin) (sp : Sp) : Prop where
  len : ∀ vs H Q E, sp vs H Q E → vs.length = ps.length
  run : ∀ (A : Around) (outer : List Env) (s : Shared) (H : Hp) (args : Args) (us : List Value) (vs : List V) (Q : VK), RoomH k A → A.guards = some [] → WarmA A p →
    PinOk outer H s p → Env0 P w K mg base A outer s H → BindsTo s fd args (ps.zip us) → Vals vs us → sp vs H Q noE →
    codeAny (model P w) A (.call (.ref f) args) (CR CX0 outer P w H s Q noE) s
/-- the body's context -/
abbrev cxP (P : Program) (w : World) (K : PySem.W.Frag) (mg : Str → Option Value) (base : Heap) (N : List Str) (qual : Str) (scope : Scope)
    (f : Addr) (cd : Value) (A : Around) (outer : List Env) (s : Shared) (H : Hp) (p : Pin) : Cx :=
  L2H.cxH CX0 P w K mg base N qual scope f cd A outer s H noE p
/-- what is known of a body's context -/
structure WarmC (X : Cx) (p : Pin) : Prop where
  mem : p ∈ X.pn
  gd : X.A.guards = some []
  warm : WarmA X.A p
section
variable {P : Program} {w : World} {K : PySem.W.Frag} {mg : Str → Option Value} {base : Heap} {k : Nat} {f : Addr} {fd : FuncData} {ps N : List Str}
variable {p : Pin} {sp : Sp} {x qual : Str} {pa : Arguments} {bd : List Stmt} {sc : Scope}
theorem FunD.okP (F : FunD K x qual pa bd sc [] [] f fd) (S : FnScope N ps sc) (len : ∀ vs H Q E, sp vs H Q E → vs.length = ps.length)
    (hbody : ∀ (cdv : Value) (A : Around) (outer : List Env) (s : Shared) (H : Hp) (vs : List V) (Q : VK), WarmC (cxP P w K mg base N qual sc f cdv A outer s H p) p →
      RoomH k (A.deeper (envOfC qual sc s.heap.objs.size f cdv)) → sp vs H Q noE →
      ∃ t, PSs (cxP P w K mg base N qual sc f cdv A outer s H p) bd t ∧ t { nx := fun _ H' => Q .non H', rt := Q } (start N vs) H) :
    FnP P w K mg base (k + 1) f fd ps p sp := by
  obtain ⟨oc, od, dV, kV, doc, pm, an, cdv, ct, osl, rfl, lk, hcd, _, _⟩ := F.ex
  refine ⟨len, fun A outer s H args us vs Q hr hgd hw hpin e0 hb r hsp => ?_⟩
  have hlen := len _ _ _ _ hsp
  have kin : K.In s.heap := e0.mod.kin.keeps fun b o e => (e0.bs b o e).1
  have lim : s.heap.NoLimit := e0.mod.nolimit.keeps fun b o e => (e0.bs b o e).1
  have kinds : ∀ y ∈ ps.zip us, sc.names.lookup y.1 = some .local ∨
      (sc.names.lookup y.1 = some .cell ∧ ((cellsFrom (s.heap.objs.size + 1) sc.names []).lookup y.1).isSome = true) := by
    rintro ⟨n, v⟩ hy
    rcases S.par n (List.of_mem_zip hy).1 with q | q
    · exact .inl q
    · exact .inr ⟨q, PySem.W.cellsFrom_some _ _ _ (.inl q)⟩
  refine codeAny_call_function hr.depth (kin _ _ lk) rfl S.co S.gen rfl (PySem.W.codeRec_of kin hcd) (hb _ _ _ _ ?_)
  refine wpAny_newFunctionEnv_cells S.kind kinds fun env he s1 z => ?_
  subst he
  refine ⟨lim.keeps z.toInCall.keep, codeAny_func ?_⟩
  have I : Inv (cxP P w K mg base N qual sc f cdv A outer s H p) [] (start N vs) H s1 := L2H.inv_startH S hpin e0 hlen r z
  have wc : WarmC (cxP P w K mg base N qual sc f cdv A outer s H p) p :=
    ⟨List.mem_cons_self, hgd, hw⟩
  obtain ⟨t, ht, hq⟩ := hbody cdv A outer s H vs Q wc (hr.deeper _) hsp
  have fin : ∀ {σ1 : St} {H1 : Hp} {v : V} {u : Value} {s2 : Shared}, Inv (cxP P w K mg base N qual sc f cdv A outer s H p) [] σ1 H1 s2 → RelV v u → Q v H1 →
      CE outer P w H s Q u s2 := fun {σ1 H1 v u s2} J rv q => ⟨v, H1, J.os, J.bare, J.base, J.hok, rv, q⟩
  refine wpAny_mono (ht.run [] s1 (start N vs) H _ I hq) (fun fl s2 hs => ?_) fun e s2 hs => hs
  cases fl with
  | ret u =>
    obtain ⟨v, σ1, H1, J, rv, q⟩ := hs
    exact fin J rv q
  | next =>
    obtain ⟨σ1, H1, J, q⟩ := hs
    exact fin (v := V.non) (u := Value.none) J rfl q
  | brk =>
    obtain ⟨_, _, _, q⟩ := hs
    exact q.elim
  | cont =>
    obtain ⟨_, _, _, q⟩ := hs
    exact q.elim
/-- a def that is called where no repr is under way -/
structure FnG (P : Program) (w : World) (K : PySem.W.Frag) (mg : Str → Option Value) (base : Heap) (k : Nat) (f : Addr) (fd : FuncData)
    (ps : List Str) (sp : Sp) : Prop where
  len : ∀ vs H Q E, sp vs H Q E → vs.length = ps.length
  run : ∀ (A : Around) (outer : List Env) (s : Shared) (H : Hp) (args : Args) (us : List Value) (vs : List V) (Q : VK), Room k A → A.guards = some [] →
    Env0 P w K mg base A outer s H → BindsTo s fd args (ps.zip us) → Vals vs us → sp vs H Q noE →
    codeAny (model P w) A (.call (.ref f) args) (CR CX0 outer P w H s Q noE) s
theorem FnG.mono {j : Nat} (F : FnG P w K mg base j f fd ps sp) (h : j ≤ k) : FnG P w K mg base k f fd ps sp :=
  ⟨F.len, fun A outer s H args us vs Q hr => F.run A outer s H args us vs Q (hr.mono h)⟩
/-- outside of a suite: any object of the written part may be the pin -/
theorem FnP.ok {a : Addr} {o : Obj} (F : FnP P w K mg base k f fd ps (a, o) sp) (ho : K.lookup a = some o) (hc : ∀ v, o.data ≠ .cell v) :
    FnG P w K mg base k f fd ps sp := by
  refine ⟨F.len, fun A outer s H args us vs Q hr hgd e0 hb r hsp => ?_⟩
  have hz : base.get? a = some o := e0.mod.kin _ _ ho
  have pin : PinOk outer H s (a, o) := by
    refine ⟨(e0.bs a o hz).1, (e0.bs a o hz).2, fun hm => ?_, hc⟩
    have z := (e0.funs.mem hm).1
    rw [hz] at z
    cases z
  exact F.run A outer s H args us vs Q (L2H.roomH_of hr) hgd (.inl hr.hd) pin e0 hb r hsp
theorem FunD.okG (F : FunD K x qual pa bd sc [] [] f fd) (S : FnScope N ps sc) (len : ∀ vs H Q E, sp vs H Q E → vs.length = ps.length)
    (hbody : ∀ (cdv : Value) (A : Around) (outer : List Env) (s : Shared) (H : Hp) (vs : List V) (Q : VK), (A.deeper (envOfC qual sc s.heap.objs.size f cdv)).guards = some [] →
      Room k (A.deeper (envOfC qual sc s.heap.objs.size f cdv)) → sp vs H Q noE →
      ∃ t, PSs (cxOf CX0 P w K mg base N qual sc f cdv A outer s H noE) bd t ∧ t { nx := fun _ H' => Q .non H', rt := Q } (start N vs) H) :
    FnG P w K mg base (k + 1) f fd ps sp := by
  obtain ⟨oc, od, dV, kV, doc, pm, an, cdv, ct, osl, rfl, lk, hcd, _, _⟩ := F.ex
  refine ⟨len, fun A outer s H args us vs Q hr hgd e0 hb r hsp => ?_⟩
  have hlen := len _ _ _ _ hsp
  have kin : K.In s.heap := e0.mod.kin.keeps fun b o e => (e0.bs b o e).1
  have lim : s.heap.NoLimit := e0.mod.nolimit.keeps fun b o e => (e0.bs b o e).1
  have kinds : ∀ y ∈ ps.zip us, sc.names.lookup y.1 = some .local ∨
      (sc.names.lookup y.1 = some .cell ∧ ((cellsFrom (s.heap.objs.size + 1) sc.names []).lookup y.1).isSome = true) := by
    rintro ⟨n, v⟩ hy
    rcases S.par n (List.of_mem_zip hy).1 with q | q
    · exact .inl q
    · exact .inr ⟨q, PySem.W.cellsFrom_some _ _ _ (.inl q)⟩
  refine codeAny_call_function hr.depth (kin _ _ lk) rfl S.co S.gen rfl (PySem.W.codeRec_of kin hcd) (hb _ _ _ _ ?_)
  refine wpAny_newFunctionEnv_cells S.kind kinds fun env he s1 z => ?_
  subst he
  refine ⟨lim.keeps z.toInCall.keep, codeAny_func ?_⟩
  have I : Inv (cxOf CX0 P w K mg base N qual sc f cdv A outer s H noE) [] (start N vs) H s1 := inv_start S hr.hd e0 hlen r z
  obtain ⟨t, ht, hq⟩ := hbody cdv A outer s H vs Q hgd (hr.deeper _) hsp
  have fin : ∀ {σ1 : St} {H1 : Hp} {v : V} {u : Value} {s2 : Shared}, Inv (cxOf CX0 P w K mg base N qual sc f cdv A outer s H noE) [] σ1 H1 s2 → RelV v u → Q v H1 →
      CE outer P w H s Q u s2 := fun {σ1 H1 v u s2} J rv q => ⟨v, H1, J.os, J.bare, J.base, J.hok, rv, q⟩
  refine wpAny_mono (ht.run [] s1 (start N vs) H _ I hq) (fun fl s2 hs => ?_) fun e s2 hs => hs
  cases fl with
  | ret u =>
    obtain ⟨v, σ1, H1, J, rv, q⟩ := hs
    exact fin J rv q
  | next =>
    obtain ⟨σ1, H1, J, q⟩ := hs
    exact fin (v := V.non) (u := Value.none) J rfl q
  | brk =>
    obtain ⟨_, _, _, q⟩ := hs
    exact q.elim
  | cont =>
    obtain ⟨_, _, _, q⟩ := hs
    exact q.elim
end
section
variable {X : Cx} {k : Nat} {f : Addr} {fd : FuncData} {ps : List Str} {p : Pin} {sp : Sp} {x : Str} {np pos : Pos} {e : Expr} {es : List Expr} {t : TA}
theorem pe_callP (F : FnP X.prog X.w X.K X.mg X.base k f fd ps p sp) (hw : WarmC X p) (hr : RoomH k X.A) (hg : Gl X x) (hm : X.mg x = some (.ref f))
    (hk : PySem.W.keepIn X.K (.ref f) = true) (hb : Binds X.K fd ps []) (ha : PA X (e :: es) t) (hdb : (x == ("__debug__" : Str)) = false := by decide)
    (he : starEach (e :: es) X.env = (false, eval e X.env) :: starEach es X.env := by rfl) (hpl : (backTo pos (starEach es X.env)).any (·.1) = false := by rfl) :
    PE X (.Call (.Name x np) (e :: es) [] pos) (tCall sp [] noE t) := by
  refine ⟨fun pins s σ H Q I h => ?_⟩
  refine wpAny_Call_Name_kw (ld_glob I hg hm ?_ hdb)
  refine PySem.W.callWith_K (h₀ := X.base) I.ok.mod.kin hk ?_ he hpl
  refine thn (ha.run pos pins s σ H _ I h) fun us s1 ⟨vs, H1, I1, r, q⟩ => ⟨I1.kIn, ?_⟩
  have q : sp vs H1 Q noE := by
    have z : sp (vs ++ []) H1 Q noE := q
    rwa [List.append_nil] at z
  have hl : (us ++ []).length = ps.length := by
    rw [List.append_nil, ← r.length]
    exact F.len _ _ _ _ q
  have bb := hb s1 us I1.kIn hl
  rw [List.append_nil] at bb
  obtain ⟨g1, g2, g3, g4, g5⟩ := I1.pin p (List.mem_append_left _ hw.mem)
  have pin : PinOk X.stack H1 s1 p := ⟨g1, g2, fun hm => by
    rcases List.mem_cons.mp (I1.stkSub _ hm) with z | z
    · exact g3 z
    · exact g4 z, g5⟩
  refine wpAny_call (codeAny_mono (F.run X.A X.stack s1 H1 ⟨us, []⟩ us vs Q hr hw.gd hw.warm pin I1.env0 bb r q) fun rs s2 h2 => ?_)
  cases rs with
  | error er => exact False.elim h2
  | ok fl =>
    cases fl with
    | ret u => exact I1.after h2
    | next => exact h2.elim
    | brk => exact h2.elim
    | cont => exact h2.elim
theorem pe_callG (F : FnG X.prog X.w X.K X.mg X.base k f fd ps sp) (hgd : X.A.guards = some []) (hr : Room k X.A) (hg : Gl X x) (hm : X.mg x = some (.ref f))
    (hk : PySem.W.keepIn X.K (.ref f) = true) (hb : Binds X.K fd ps []) (ha : PA X (e :: es) t) (hdb : (x == ("__debug__" : Str)) = false := by decide)
    (he : starEach (e :: es) X.env = (false, eval e X.env) :: starEach es X.env := by rfl) (hpl : (backTo pos (starEach es X.env)).any (·.1) = false := by rfl) :
    PE X (.Call (.Name x np) (e :: es) [] pos) (tCall sp [] noE t) := by
  refine ⟨fun pins s σ H Q I h => ?_⟩
  refine wpAny_Call_Name_kw (ld_glob I hg hm ?_ hdb)
  refine PySem.W.callWith_K (h₀ := X.base) I.ok.mod.kin hk ?_ he hpl
  refine thn (ha.run pos pins s σ H _ I h) fun us s1 ⟨vs, H1, I1, r, q⟩ => ⟨I1.kIn, ?_⟩
  have q : sp vs H1 Q noE := by
    have z : sp (vs ++ []) H1 Q noE := q
    rwa [List.append_nil] at z
  have hl : (us ++ []).length = ps.length := by
    rw [List.append_nil, ← r.length]
    exact F.len _ _ _ _ q
  have bb := hb s1 us I1.kIn hl
  rw [List.append_nil] at bb
  refine wpAny_call (codeAny_mono (F.run X.A X.stack s1 H1 ⟨us, []⟩ us vs Q hr hgd I1.env0 bb r q) fun rs s2 h2 => ?_)
  cases rs with
  | error er => exact False.elim h2
  | ok fl =>
    cases fl with
    | ret u => exact I1.after h2
    | next => exact h2.elim
    | brk => exact h2.elim
    | cont => exact h2.elim
end
end L2

/-! the law's call, its def one that is called where no repr is under way -/
namespace L2
open PySem PySem.Spec PyProof.Rows
/-- the script's object -/
def scriptO (vs : List Value) : Obj := { cls := .type "list", data := .seq vs.toArray }
/-- what is tracked at the call: at most the script, at a -/
structure Entry (P : Program) (w : World) (K : PySem.W.Frag) (a : Addr) (H : Hp) (h : Heap) : Prop where
  only : Only H
  ok : HOk P w H h
  at_ : ∀ b, H b ≠ none → b = a
  own : H a ≠ none → K.lookup a = none
section
variable {P : Program} {w : World} {K : PySem.W.Frag} {mg mb : Str → Option Value} {k : Nat} {fa a : Addr} {fd : FuncData} {x : Str}
variable {sp : Sp} {z : Shared} {vs : List Value} {ns : List Int} {H : Hp}
theorem Entry.free (e : Entry P w K a H z.heap) (ha : z.heap.get? a = some (scriptO vs)) {b : Addr} (hb : b ≠ a) : H b = none := by
  cases q : H b with
  | none => rfl
  | some u => exact absurd (e.at_ b (by rw [q]; exact fun y => nomatch y)) hb
theorem Entry.base (e : Entry P w K a H z.heap) (KX : K.In z.heap) : K.In (hidT z.heap H) := by
  intro b o h
  refine hidT_get (KX b o h) ?_
  cases q : H b with
  | none => rfl
  | some u =>
    have y : H b ≠ none := by
      rw [q]
      exact fun y => nomatch y
    have i := e.at_ b y
    subst i
    rw [e.own y] at h
    cases h
theorem Entry.keepNs (e : Entry P w K a H z.heap) (ha : z.heap.get? a = some (scriptO vs)) {b : Addr} {m : Str → Option Value} (n : z.heap.Ns b m) : (hidT z.heap H).Ns b m := by
  obtain ⟨o, es, ep, g, d, r⟩ := n
  refine ⟨o, es, ep, hidT_get g (e.free ha fun i => ?_), d, r⟩
  rw [i, ha] at g
  cases g
  cases d
theorem law_coreG (e : Entry P w K a H z.heap) (KX : K.In z.heap) (hns : z.heap.Ns mainGlobals mg) (hb : z.heap.Ns builtinsNs mb)
    (hbb : ∀ y : Str, y ≠ "__name__" → mb y = bootBuiltins y) (hlim : z.heap.NoLimit) (hg : z.gens = #[])
    (ha : z.heap.get? a = some (scriptO vs)) (hr : Room k callerA)
    (F : ∀ base : Heap, K.In base → base.Ns mainGlobals mg → FnG P w K mg base k fa fd [x] sp)
    (hbind : ∀ (s : Shared) (u : Value), BindsTo s fd ⟨[u], []⟩ [(x, u)])
    (hsp : sp [.ref a] H (fun v _ => v = .bl true) noE) :
    codeAny (model P w) callerA (.call (.ref fa) ⟨[.ref a], []⟩)
      (fun r t => r = .ok (.ret (.bool true)) ∧ OldK z.heap t.heap ∧ t.os = z.os ∧ AllBare t.gens) z := by
  have kb := e.base KX
  have main := e.keepNs ha hns
  obtain ⟨mc, c1, c2⟩ := hlim
  have env : Env0 P w K mg (hidT z.heap H) callerA [] z H := by
    refine ⟨rfl, ⟨kb, main, ⟨mb, e.keepNs ha hb, hbb⟩, ⟨mc, e.keepNs ha c1, c2⟩⟩, fun b o y => of_hidT y, ?_, trivial, (fun b y => nomatch y), e.ok, .of_eq hg⟩
    exact Nat.le_of_eq (hidT_size _ _)
  have run := (F _ kb main).run callerA [] z H ⟨[.ref a], []⟩ [.ref a] [.ref a] _ hr rfl env (hbind z (.ref a)) (.cons rfl .nil) hsp
  refine codeAny_mono run fun r t h => ?_
  rcases r with er | fl
  · exact h.elim
  · cases fl with
    | ret u =>
      obtain ⟨v, H2, os, bare, un, ok2, ru, rfl⟩ := h
      have eu : u = Value.bool true := ru
      refine ⟨by rw [eu], OldK.of_keep fun b o y => ?_, os, bare⟩
      by_cases i : H b = none
      · exact un.keep b o y i (fun m => nomatch m) fun m => nomatch m
      · rcases e.only b with j | ⟨ob, ys, j⟩
        · exact absurd j i
        · have o1 := (e.ok b _ j).1
          rw [o1] at y
          cases y
          exact (ok2 b _ (un.frzs b _ _ j)).1
    | next => exact h.elim
    | brk => exact h.elim
    | cont => exact h.elim
/-- the script as one that is tracked -/
def trackO (a : Addr) (vs : List Value) (ns : List Int) : Hp := upd (fun _ => none) a (.frz (scriptO vs) (.lst (ns.map V.int)))
theorem law_callG (KX : K.In z.heap) (hns : z.heap.Ns mainGlobals mg) (hb : z.heap.Ns builtinsNs mb)
    (hbb : ∀ y : Str, y ≠ "__name__" → mb y = bootBuiltins y) (hlim : z.heap.NoLimit) (hg : z.gens = #[])
    (ha : z.heap.get? a = some (scriptO vs)) (hi : IntsAre vs ns) (hl : ns.length ≤ sizeLine) (hr : Room k callerA)
    (F : ∀ base : Heap, K.In base → base.Ns mainGlobals mg → FnG P w K mg base k fa fd [x] sp)
    (hbind : ∀ (s : Shared) (u : Value), BindsTo s fd ⟨[u], []⟩ [(x, u)])
    (hsp : ∀ H : Hp, SqL K H a (ns.map V.int) → sp [.ref a] H (fun v _ => v = .bl true) noE) :
    codeAny (model P w) callerA (.call (.ref fa) ⟨[.ref a], []⟩)
      (fun r t => r = .ok (.ret (.bool true)) ∧ OldK z.heap t.heap ∧ t.os = z.os ∧ AllBare t.gens) z := by
  have rel := vals_ints hi
  cases q : K.lookup a with
  | some o =>
    have g := KX a o q
    rw [ha] at g
    cases g
    have e : Entry P w K a (fun _ => none) z.heap := ⟨fun _ => .inl rfl, (fun b u y => nomatch y), fun b y => absurd rfl y, fun y => absurd rfl y⟩
    refine law_coreG e KX hns hb hbb hlim hg ha hr F hbind (hsp _ (.inr ⟨_, vs.toArray, _, q, rfl, rfl, rfl, ?_, by simpa using rel⟩))
    rw [List.size_toArray, hi.length]
    exact hl
  | none =>
    have e : Entry P w K a (trackO a vs ns) z.heap := by
      refine Entry.mk (fun b => ?_) (fun b u y => ?_) (fun b y => ?_) fun _ => q
      · by_cases i : b = a
        · exact .inr ⟨_, _, by rw [i]; exact upd_same⟩
        · exact .inl (upd_ne i)
      · by_cases i : b = a
        · subst i
          have y2 : some (HO.frz (scriptO vs) (.lst (ns.map V.int))) = some u := upd_same.symm.trans y
          cases y2
          refine ⟨ha, ?_, vs, _, rel, ha⟩
          rw [List.length_map]
          exact hl
        · have y2 : (none : Option HO) = some u := (upd_ne i).symm.trans y
          cases y2
      · by_cases i : b = a
        · exact i
        · exact absurd (upd_ne i) y
    exact law_coreG e KX hns hb hbb hlim hg ha hr F hbind (hsp _ (.inl (.inr ⟨scriptO vs, upd_same⟩)))
end
/-- the end of a law whose def is called where no repr is under way -/
theorem walk_G {l : PySem.W.OpenLaw} {n k : Nat} {q : Program} {loose : List Str} {XP : (Str → Option Value) → Heap → Prop} {YP : World → Heap → Prop} {d : DefRec} {x : Str}
    (hn : l.most = some n) (hn2 : n ≤ sizeLine) (hdf : d.params.defaults = []) (hr : Room k callerA)
    (F : ∀ (w : World) (mg : Str → Option Value) (fa : Addr) (h : Heap), YP w h → h.Ns mainGlobals mg → mg d.name = some (.ref fa) →
      ∃ (K : PySem.W.Frag) (fd : FuncData) (sp : Sp), K.In h ∧ (∀ (s : Shared) (u : Value), BindsTo s fd ⟨[u], []⟩ [(x, u)]) ∧
        (∀ (H : Hp) (a : Addr) (ns : List Int), SqL K H a (ns.map V.int) → sp [.ref a] H (fun v _ => v = .bl true) noE) ∧
        ∀ base : Heap, K.In base → base.Ns mainGlobals mg → FnG l.prog w K mg base k fa fd [x] sp) :
    PySem.W.WalkO q loose XP YP l.row.toRowW d [] (fun f vs => PySem.call f vs) := by
  refine Att.attach_call hn hdf fun w s0 z mg mb fa o pm cd doc a vs ns G Y ho hd hcd hmg hobj hints hlen hg => ?_
  obtain ⟨K, fd, sp, KX, hb, hsp, hF⟩ := F w mg fa _ Y G.T.g hmg
  exact law_callG KX G.T.g G.T.b G.T.builtins G.T.nolimit hg hobj hints (Nat.le_trans hlen hn2) hr hF hb fun H => hsp H a ns
end L2

/-! a head's facts: a check of one's own, the classes of exceptions, sys -/
namespace Ml
open PySem PySem.Spec PyProof.Rows L2 He
/-- the written part: what the module's names reach in n steps, and sys.modules -/
def partG (g : Addr → Option Obj) (n : Nat) : PySem.W.Frag := frG g (sysModules :: asD g n)
def seeM (ck : PySem.W.Frag → Bool) (fa : List Fa) (fn : List DefD) (K : PySem.W.Frag) : AlD := ((obsD fa fn K).1 && ck K, (obsD fa fn K).2)
def hookM (n : Nat) (fa : List Fa) (fn : List DefD) (ck : PySem.W.Frag → Bool) : PySem.W.Hook where
  α := AlD
  obs := fun s => seeM ck fa fn (partG s.heap.get? n)
  val := fun _ => valD fn
  says := fun _ h => ∃ K : PySem.W.Frag, K.In h ∧ seeM ck fa fn K = valD fn
  of := fun _ _ e => ⟨_, frG_in, e⟩
  keeps := fun _ _ _ ⟨K, hK, c⟩ k => ⟨K, PySem.W.Frag.In.keeps hK k, c⟩
theorem see_eq {n : Nat} {fa : List Fa} {fn : List DefD} {ck : PySem.W.Frag → Bool} {g : Addr → Option Obj} {s : Shared} (h : ∀ a, g a = s.heap.get? a) : seeM ck fa fn (partG g n) = (hookM n fa fn ck).obs s := by
  have e : g = s.heap.get? := funext h
  rw [e] <;> rfl
theorem see_ok {ck : PySem.W.Frag → Bool} {fa : List Fa} {fn : List DefD} {K : PySem.W.Frag} (h : seeM ck fa fn K = valD fn) : SaysD fa fn K ∧ ck K = true := by
  have e1 : ((obsD fa fn K).1 && ck K) = true := congrArg (fun z : AlD => z.1) h
  have e2 : (obsD fa fn K).2 = fn.map DefD.val := congrArg (fun z : AlD => z.2) h
  obtain ⟨c1, c2⟩ := ba e1
  exact ⟨Prod.ext c1 e2, c2⟩
/-! ### a class of exceptions with an __init__ of its own -/
def oexB (K : PySem.W.Frag) (C : Addr) : Bool := match K.lookup C with
  | some ⟨.type "type", _, .cls cd, sl⟩ => (match cd.mro, sl.toList with
    | .ref C' :: bm, [_, _, _, _, some (.builtin n), _] => C' == C && (n == "ValueError.__new__" && (!cd.hasDel && (cd.hasDict && PySem.HandSPX.refsVE bm)))
    | _, _ => false)
  | _ => false
theorem oexB_ok {K : PySem.W.Frag} {C : Addr} (q : oexB K C = true) :
    ∃ nm qn N bs bm sn sub ab col dd k0 k1 k2 k3 k5, K.lookup C = some (excClassObj nm qn C N bs bm true sn sub ab col dd k0 k1 k2 k3 k5 "ValueError.__new__") ∧ PySem.HandSPX.refsVE bm = true := by
  unfold oexB at q
  split at q
  case h_2 => cases q
  rename_i dd cd sl ho
  split at q
  case h_2 => cases q
  rename_i C' bm k0 k1 k2 k3 n k5 hm hs
  obtain ⟨q1, q⟩ := ba q
  obtain ⟨q2, q⟩ := ba q
  obtain ⟨q3, q⟩ := ba q
  obtain ⟨q4, q5⟩ := ba q
  have e1 : C' = C := eq_of_beq q1
  have e2 : n = "ValueError.__new__" := eq_of_beq q2
  obtain ⟨nm, bs, mro, ns, qn, hd, sn, sub, ab, col, del⟩ := cd
  have e3 : del = false := by
    cases del with
    | false => rfl
    | true => cases q3
  have e4 : hd = true := q4
  have e5 : mro = .ref C' :: bm := hm
  subst e1 e2 e3 e4 e5
  have e6 : sl = #[k0, k1, k2, k3, some (.builtin "ValueError.__new__"), k5] := by
    obtain ⟨l⟩ := sl
    exact congrArg Array.mk hs
  subst e6
  exact ⟨nm, qn, ns, bs, bm, sn, sub, ab, col, dd, k0, k1, k2, k3, k5, ho, q5⟩
def bO (K : PySem.W.Frag) (C : Addr) (m : Str) (b : String) : Bool := decide (PySem.W.findIn K (.ref C) m = some (some (.builtin b)))
/-- all of it -/
def clsB (K : PySem.W.Frag) (C L : Addr) : Bool :=
  oexB K C && (bO K C "__setattr__" "object.__setattr__" && (decide (PySem.W.subIn K (.ref C) (.type "BaseException") = some true) && (decide (PySem.W.typeIn K (.ref C) = some (.type "type")) && (PySem.W.keepIn K (.ref C) &&
  (bO K C "__getattribute__" "BaseException.__getattribute__" && (decide (PySem.W.findIn K (.ref C) "__getattr__" = some none) && (PySem.W.hasDictIn K C && (bO K C "__class__" "object.__class__" && (decide (PySem.W.mroIn K C (.type "object") = some true) &&
  (decide (PySem.W.findIn K (.ref C) "__init__" = some (some (.ref (ma K C "__init__")))) && (decide (PySem.W.typeIn K (.ref (ma K C "__init__")) = some (.type "function")) && (decide (PySem.W.kitOne K (.ref C) (.ref L) = some true) &&
  (decide (PySem.W.kitOne K (.ref C) (.type "ValueError") = some true) && decide (PySem.W.exmOne K (.ref C) (.ref L) = some true))))))))))))))
/-- what all exceptions rest on -/
def gsB (K : PySem.W.Frag) : Bool := decide (PySem.W.specialIn K (.builtin "object.__class__") "__get__" = some (some (.builtin "getset_descriptor.__get__"))) && decide (PySem.W.takesIn K (.builtin "object.__class__") = some true)
structure ClsI (K : PySem.W.Frag) (C L : Addr) : Prop where
  T : OexC K C
  E : ExcC K C
  X : XfC K C
  iC : PySem.W.findIn K (.ref C) "__init__" = some (some (.ref (ma K C "__init__")))
  tI : PySem.W.typeIn K (.ref (ma K C "__init__")) = some (.type "function")
  lost : PySem.W.kitOne K (.ref C) (.ref L) = some true
  val : PySem.W.kitOne K (.ref C) (.type "ValueError") = some true
  exm : PySem.W.exmOne K (.ref C) (.ref L) = some true
theorem clsB_ok {K : PySem.W.Frag} {C L : Addr} (g : gsB K = true) (h : clsB K C L = true) : ClsI K C L := by
  obtain ⟨g1, g2⟩ := ba g
  obtain ⟨h1, h⟩ := ba h
  obtain ⟨h2, h⟩ := ba h
  obtain ⟨h3, h⟩ := ba h
  obtain ⟨h4, h⟩ := ba h
  obtain ⟨h5, h⟩ := ba h
  obtain ⟨h6, h⟩ := ba h
  obtain ⟨h7, h⟩ := ba h
  obtain ⟨h8, h⟩ := ba h
  obtain ⟨h9, h⟩ := ba h
  obtain ⟨h10, h⟩ := ba h
  obtain ⟨h11, h⟩ := ba h
  obtain ⟨h12, h⟩ := ba h
  obtain ⟨h13, h⟩ := ba h
  obtain ⟨h14, h15⟩ := ba h
  have e3 := of_decide_eq_true h3
  exact ⟨⟨oexB_ok h1, of_decide_eq_true h2, e3, of_decide_eq_true h4, h5⟩,
    ⟨of_decide_eq_true h6, of_decide_eq_true h7, e3, h8, of_decide_eq_true h9, of_decide_eq_true g1, of_decide_eq_true g2, of_decide_eq_true h10⟩,
    ⟨of_decide_eq_true h6, of_decide_eq_true h7, e3, h8⟩, of_decide_eq_true h11, of_decide_eq_true h12, of_decide_eq_true h13, of_decide_eq_true h14, of_decide_eq_true h15⟩
end Ml

/-! a head's facts, with getters of properties -/
namespace Ml
open PySem PySem.Spec PyProof.Rows L2 He
/-- the getter of the property m of the class at C -/
def gtA (K : PySem.W.Frag) (C : Addr) (m : Str) : Addr := match PySem.W.recIn K (ma K C m) "property" with
  | some (.ref x :: _) => x
  | _ => 0
def prB (K : PySem.W.Frag) (C : Addr) (m : Str) : Bool := decide (PySem.W.findIn K (.ref C) m = some (some (.ref (ma K C m)))) && (decide (PySem.W.specialIn K (.ref (ma K C m)) "__get__" = some (some (.builtin "property.__get__"))) &&
  (decide (PySem.W.takesIn K (.ref (ma K C m)) = some true) && (match PySem.W.recIn K (ma K C m) "property" with
    | some (.ref x :: _) => true
    | _ => false)))
theorem prB_ok {K : PySem.W.Frag} {C : Addr} {m : Str} (h : prB K C m = true) : PropOf K C m (ma K C m) (gtA K C m) := by
  obtain ⟨h1, h⟩ := ba h
  obtain ⟨h2, h⟩ := ba h
  obtain ⟨h3, h4⟩ := ba h
  refine ⟨of_decide_eq_true h1, of_decide_eq_true h2, of_decide_eq_true h3, ?_⟩
  unfold gtA
  cases q : PySem.W.recIn K (ma K C m) "property" with
  | none => rw [q] at h4; cases h4
  | some l =>
    rw [q] at h4
    match l, h4 with
    | .ref x :: r, _ => exact ⟨r, rfl⟩
/-- what is seen: the check of one's own, the defs, and the getters fp -/
def seeP (ck : PySem.W.Frag → Bool) (fa : List Fa) (fn : List DefD) (fp : List He5.DefA) (K : PySem.W.Frag) : AlD := (((obsD fa fn K).1 && ck K) && fp.all fun d => d.ok K, (obsD fa fn K).2 ++ fp.map fun d => He5.fnA K (d.at_ K))
def valP (fn : List DefD) (fp : List He5.DefA) : AlD := (true, fn.map DefD.val ++ fp.map He5.DefA.val)
def hookP (n : Nat) (fa : List Fa) (fn : List DefD) (fp : List He5.DefA) (ck : PySem.W.Frag → Bool) : PySem.W.Hook where
  α := AlD
  obs := fun s => seeP ck fa fn fp (partG s.heap.get? n)
  val := fun _ => valP fn fp
  says := fun _ h => ∃ K : PySem.W.Frag, K.In h ∧ seeP ck fa fn fp K = valP fn fp
  of := fun _ _ e => ⟨_, frG_in, e⟩
  keeps := fun _ _ _ ⟨K, hK, c⟩ k => ⟨K, PySem.W.Frag.In.keeps hK k, c⟩
theorem seeP_eq {n : Nat} {fa : List Fa} {fn : List DefD} {fp : List He5.DefA} {ck : PySem.W.Frag → Bool} {g : Addr → Option Obj} {s : Shared} (h : ∀ a, g a = s.heap.get? a) : seeP ck fa fn fp (partG g n) = (hookP n fa fn fp ck).obs s := by
  have e : g = s.heap.get? := funext h
  rw [e] <;> rfl
theorem seeP_ok {ck : PySem.W.Frag → Bool} {fa : List Fa} {fn : List DefD} {fp : List He5.DefA} {K : PySem.W.Frag} (h : seeP ck fa fn fp K = valP fn fp) :
    SaysD fa fn K ∧ ck K = true ∧ ∀ d ∈ fp, ∃ fd, FunD K d.name d.qual d.params d.body d.scope (d.dvs K) (d.kws K) (d.at_ K) fd := by
  have e1 : (((obsD fa fn K).1 && ck K) && fp.all fun d => d.ok K) = true := congrArg (fun z : AlD => z.1) h
  have e2 : (obsD fa fn K).2 ++ (fp.map fun d => He5.fnA K (d.at_ K)) = fn.map DefD.val ++ fp.map He5.DefA.val := congrArg (fun z : AlD => z.2) h
  obtain ⟨c1, c3⟩ := ba e1
  obtain ⟨c1, c2⟩ := ba c1
  have ll : (obsD fa fn K).2.length = (fn.map DefD.val).length := by
    unfold obsD
    rw [List.length_map, List.length_map]
  obtain ⟨e3, e4⟩ := List.append_inj e2 ll
  refine ⟨Prod.ext c1 e3, c2, fun d hd => ?_⟩
  obtain ⟨i, hi, e⟩ := List.mem_iff_getElem.mp hd
  have e5 : (fp.map fun d => He5.fnA K (d.at_ K))[i]? = (fp.map He5.DefA.val)[i]? := by rw [e4]
  rw [List.getElem?_map, List.getElem?_map, List.getElem?_eq_getElem hi, e] at e5
  exact He5.DefA.funD (Option.some.inj e5) (List.all_eq_true.mp c3 d hd)
end Ml

namespace L2
open PySem PySem.Spec PyProof.Rows
abbrev tys : List String := ["NoneType", "bool", "int", "str", "list", "tuple", "dict"]
end L2
namespace K04
open PySem PySem.Spec PyProof.Rows L2 Ml
def top (i : Nat) : Stmt := PySem.Challenge.pw_maplost_k04_whole_networks_by_queues.main.body.getD i (.Pass ⟨0, 0, 0, 0⟩)
/-- the k-th statement of the class at i -/
def cdef (i k : Nat) : Stmt := match top i with
  | .ClassDef _ _ _ b _ _ _ _ _ _ _ => b.getD k (.Pass ⟨0, 0, 0, 0⟩)
  | s => s
abbrev bnames : List Str := ["type", "int", "list", "tuple", "len", "range", "all", "sum", "abs", "sorted", "min", "max", "repr", "isinstance", "bool", "str", "ord", "any", "set"]
abbrev CT (K : PySem.W.Frag) : Addr := He.ga K "Tree"
abbrev MT (K : PySem.W.Frag) (m : Str) : Addr := He.ma K (CT K) m
abbrev CN (K : PySem.W.Frag) : Addr := He.ga K "Network"
abbrev MN (K : PySem.W.Frag) (m : Str) : Addr := He.ma K (CN K) m
abbrev six : List Str := ["InvalidHouse", "InvalidText", "NotARoad", "Stopped", "Twice", "NothingUnderWay"]
/-- the __init__ of the class at i -/
def ini (i : Nat) : Stmt := match top i with
  | .ClassDef _ _ _ (s :: _) _ _ _ _ _ _ _ => s
  | s => s
def dC (i : Nat) (x qual : Str) : He.DefD := ⟨(x, some "__init__"), "__init__", qual, defArgs (ini i), defBody (ini i), defScope (ini i), [], []⟩
def dM (k : Nat) (m qual : Str) : He.DefD := ⟨("Tree", some m), m, qual, defArgs (cdef 27 k), defBody (cdef 27 k), defScope (cdef 27 k), [], []⟩
def dN (k : Nat) (m qual : Str) : He.DefD := ⟨("Network", some m), m, qual, defArgs (cdef 34 k), defBody (cdef 34 k), defScope (cdef 34 k), [], []⟩
def dF (i : Nat) (x : Str) : He.DefD := ⟨(x, none), x, x, defArgs (top i), defBody (top i), defScope (top i), [], []⟩
def dG (k : Nat) (m qual : Str) : He5.DefA := ⟨fun K => gtA K (CN K) m, m, qual, defArgs (cdef 34 k), defBody (cdef 34 k), defScope (cdef 34 k), [], []⟩
def fnA : List He.DefD := [dC 2 "InvalidText" "InvalidText.__init__", dC 3 "InvalidHouses" "InvalidHouses.__init__", dC 4 "InvalidRoads" "InvalidRoads.__init__", dC 5 "InvalidHouse" "InvalidHouse.__init__", dC 6 "InvalidNames" "InvalidNames.__init__", dC 7 "NotJoined" "NotJoined.__init__", dC 8 "NotARoad" "NotARoad.__init__", dC 9 "Stopped" "Stopped.__init__", dC 10 "Twice" "Twice.__init__", dC 11 "NothingUnderWay" "NothingUnderWay.__init__", dM 0 "__init__" "Tree.__init__", dM 1 "__len__" "Tree.__len__", dM 2 "__contains__" "Tree.__contains__", dM 3 "__eq__" "Tree.__eq__", dN 0 "__init__" "Network.__init__", dN 3 "make" "Network.make"]
def fnB : List He.DefD := [dN 4 "hand" "Network.hand", dN 5 "lose" "Network.lose", dN 6 "stop" "Network.stop", dN 7 "log" "Network.log", dN 8 "under_way" "Network.under_way", dN 9 "_take" "Network._take", dN 10 "_arrive" "Network._arrive", dF 13 "is_int", dF 14 "is_below", dF 15 "is_list", dF 16 "is_tuple", dF 17 "are_different", dF 18 "is_ascending", dF 22 "is_name", dF 23 "is_text", dF 24 "are_names"]
def fnC : List He.DefD := [dF 28 "are_roads", dF 29 "houses_near", dF 30 "houses_from", dF 31 "check_house", dF 32 "check_road", dF 35 "both_ways", dF 37 "_law_cell", dF 38 "_law_box", dF 39 "_law_take", dF 40 "_law_mixed", dF 41 "_law_roads", dF 42 "_law_part", dF 43 "_law_names", dF 44 "_law_texts", dF 45 "_law_start", dF 46 "_law_put"]
def fnD : List He.DefD := [dF 47 "_law_house", dF 48 "_law_text", dF 49 "_law_wrong", dF 50 "_law_done", dF 51 "_law_call", dF 52 "_law_asked", dF 53 "_law_same", dF 54 "_law_deed", dF 55 "_law_no_house", dF 56 "_law_no_text", dF 57 "_law_refused", dF 58 "_law_doors", dF 59 "_law_spoilt", dF 60 "_law_names_refused", dF 61 "_law_right", dF 62 "law"]
def fn : List He.DefD := fnA ++ (fnB ++ (fnC ++ (fnD)))
def fp : List He5.DefA := [dG 1 "stopped" "Network.stopped", dG 2 "script" "Network.script"]
def globA : List Str := ["LostError", "InvalidText", "InvalidHouses", "InvalidRoads", "InvalidHouse", "InvalidNames", "NotJoined", "NotARoad", "Stopped", "Twice", "NothingUnderWay", "Tree", "Network", "is_int", "is_below", "is_list"]
def globB : List Str := ["is_tuple", "are_different", "is_ascending", "is_name", "is_text", "are_names", "are_roads", "houses_near", "houses_from", "check_house", "check_road", "both_ways", "_law_cell", "_law_box", "_law_take", "_law_mixed"]
def globC : List Str := ["_law_roads", "_law_part", "_law_names", "_law_texts", "_law_start", "_law_put", "_law_house", "_law_text", "_law_wrong", "_law_done", "_law_call", "_law_asked", "_law_same", "_law_deed", "_law_no_house", "_law_no_text"]
def globD : List Str := ["_law_refused", "_law_doors", "_law_spoilt", "_law_names_refused", "_law_right", "law"]
def glob : List Str := globA ++ (globB ++ (globC ++ (globD)))
def free : List Str := bnames
def fa : List He.Fa := .int "MOST_HOUSES" 64 :: .int "NAME_LENGTH" 8 :: .int "TEXT_LENGTH" 40 :: (glob.map He.Fa.glo ++ free.map He.Fa.free)
def errs : List Str := ["InvalidText", "InvalidHouses", "InvalidRoads", "InvalidHouse", "InvalidNames", "NotJoined", "NotARoad", "Stopped", "Twice", "NothingUnderWay"]
abbrev kinds : List String := ["int", "bool", "str", "list"]
def noat : List (Str × Str) := [("InvalidText", "given"), ("InvalidHouses", "given"), ("InvalidRoads", "given"), ("InvalidHouse", "given"), ("InvalidNames", "given"), ("NotJoined", "house"), ("NotARoad", "u"), ("NotARoad", "v"), ("Stopped", "house"), ("Twice", "house"), ("Twice", "text"), ("NothingUnderWay", "u"), ("NothingUnderWay", "v"), ("Tree", "houses"), ("Tree", "roads"), ("Tree", "near"), ("Network", "tree"), ("Network", "names"), ("Network", "_logs"), ("Network", "_waiting"), ("Network", "_halted"), ("Network", "_deeds")]
def nms : List Str := ["__init__", "make", "hand", "lose", "stop", "log", "under_way", "_take", "_arrive"]
def meths : List Str := ["__contains__", "__len__", "__eq__", "__init__"]
/-- a class that makes plain things -/
def plainB (K : PySem.W.Frag) (C : Addr) : Bool := PySem.W.plainGet K C Str.empty && (PySem.W.hasDictIn K C && (PySem.W.plainOver K C && (bO K C "__setattr__" "object.__setattr__" && (PySem.W.makesIn K C && PySem.W.keepIn K (.ref C)))))
def treeB (K : PySem.W.Frag) : Bool := meths.all (fun m => decide (PySem.W.findIn K (.ref (CT K)) m = some (some (.ref (MT K m)))) && PySem.W.isFn K (.ref (MT K m))) && (bO K (CT K) "__ne__" "object.__ne__" && (decide (PySem.W.subIn K (.ref (CT K)) (.type "object") = some true) &&
  (decide (PySem.W.kitOne K (.ref (CT K)) (.ref (CT K)) = some true) && (tys.all (fun t => decide (PySem.W.kitOne K (.type t) (.ref (CT K)) = some false) && PySem.W.notFirst K (CT K) (.type t)) && (bO K (CT K) "__class__" "object.__class__" &&
  (decide (PySem.W.specialIn K (.builtin "object.__class__") "__get__" = some (some (.builtin "getset_descriptor.__get__"))) && (decide (PySem.W.takesIn K (.builtin "object.__class__") = some true) && decide (PySem.W.mroIn K (CT K) (.type "object") = some true))))))))
def netB (K : PySem.W.Frag) : Bool := nms.all (fun m => decide (PySem.W.findIn K (.ref (CN K)) m = some (some (.ref (MN K m)))) && (PySem.W.isFn K (.ref (MN K m)) && PySem.W.keepIn K (.ref (MN K m)))) && (prB K (CN K) "stopped" && prB K (CN K) "script")
/-- what else the head is asked -/
def ck (K : PySem.W.Frag) : Bool := gsB K && (errs.all (fun x => clsB K (He.ga K x) (He.ga K "LostError")) && (noat.all (fun x => decide (PySem.W.findIn K (.ref (He.ga K x.1)) x.2 = some none)) &&
  (six.all (fun x => six.all fun y => decide (PySem.W.exmOne K (.ref (He.ga K x)) (.ref (He.ga K y)) = some (decide (x = y)))) && (decide (PySem.W.exmOne K (.ref (He.ga K "InvalidNames")) (.ref (He.ga K "InvalidNames")) = some true) &&
  (tys.all (fun t => kinds.all fun u => decide (PySem.W.kitOne K (.type t) (.type u) = some (decide (t = u) || (decide (t = "bool") && decide (u = "int"))))) &&
  (plainB K (CT K) && (treeB K && (plainB K (CN K) && (netB K && (K.lookup sysModules).isSome)))))))))
abbrev R : PySem.W.OpenRow := PySem.W.OpenLaw.row PySem.Challenge.rw_maplost_k04_whole_networks_by_queues
abbrev hk : PySem.W.Hook := hookP 5 fa fn fp ck
def ob (s : PySem.W.SharedT) : He.AlD := seeP ck fa fn fp (partG (HandSHeadRun.getT s) 5)
theorem ob_eq (s : PySem.W.SharedT) : ob s = hk.obs s.abs := seeP_eq (HandSHeadRun.getT_eq s)
def looseA : List Str := ["_wall", "LostError", "InvalidText", "InvalidHouses", "InvalidRoads", "InvalidHouse", "InvalidNames", "NotJoined", "NotARoad", "Stopped", "Twice", "NothingUnderWay", "NAME_LENGTH", "TEXT_LENGTH", "MOST_HOUSES", "Tree"]
def looseB : List Str := ["Network", "is_int", "is_below", "is_list", "is_tuple", "are_different", "is_ascending", "is_name", "is_text", "are_names", "are_roads", "houses_near", "houses_from", "check_house", "check_road", "both_ways"]
def looseC : List Str := ["_law_cell", "_law_box", "_law_take", "_law_mixed", "_law_roads", "_law_part", "_law_names", "_law_texts", "_law_start", "_law_put", "_law_house", "_law_text", "_law_wrong", "_law_done", "_law_call", "_law_asked"]
def looseD : List Str := ["_law_same", "_law_deed", "_law_no_house", "_law_no_text", "_law_refused", "_law_doors", "_law_spoilt", "_law_names_refused", "_law_right"]
abbrev looseN : List Str := looseA ++ (looseB ++ (looseC ++ (looseD)))
theorem run (w : World) : HandSHeadRun.RunEq R (PySem.W.view R.prog [62]) hk ob 20000 looseN w := by
  intro os
  kernel_rfl
end K04

/-! x in o, len(o), o == x, o != x: o an instance of a class of the text -/
namespace PySem.W
open PySem PySem.Calls PyProof.Rows Builtin
section
variable {prog : Program} {w : World} {A A₀ : Around} {E : Value → Shared → Prop} {s : Shared} {K : Frag} {x C L f : Addr} {h₀ : Heap} {m : Str → Option Value} {ox : Obj} {od : Option Obj} {name : Str} {b tb : Value}
/-- != by the text's own == -/
theorem ne_K {Q : Value → Shared → Prop} (hu : A.units + 8 < cLine) (X : K.In s.heap) (I : InstAt s.heap x ox C od) (hb : Looks (model prog w) s.heap (typeOf b) tb) (hn : notFirst K C tb = true)
    (hne : findIn K (.ref C) "__ne__" = some (some (.builtin "object.__ne__"))) (hob : subIn K (.ref C) (.type "object") = some true)
    (hs : findIn K (.ref C) "__eq__" = some (some (.ref f))) (hf : isFn K (.ref f) = true)
    (h : wpAny (model prog w) A.in1 (call (.ref f) [.ref x, b]) (fun v s' => ∃ c, v = .bool c ∧ Q (.bool (!c)) s') E s) : wpAny (model prog w) A (richCompare .NotEq (.ref x) b) Q E s := by
  have sub : Looks (model prog w) s.heap (isInstance (.ref x) (.type "object")) true := I.type.andThen (looks_subIn X hob)
  have body : ∀ {R : Fin → Shared → Prop}, wpAny (model prog w) A.in1 (call (.ref f) [.ref x, b]) (fun v s' => ∃ c, v = .bool c ∧ R (.done (.ret (.bool (!c)))) s') E s →
      wpAny (model prog w) A.in1 (Builtin.«object.__ne__» ⟨[.ref x, b], []⟩) R E s := by
    intro R h
    unfold Builtin.«object.__ne__»
    refine wpAny_bind (wpAny_of_eq (a := ((Value.ref x : Value), [b])) (by first | rfl | (simp only [slotArgs]; rfl)) ?_)
    show wpAny _ _ (cRoomFor _ _ >>= _) _ _ _
    refine wpAny_bind (wpAny_cRoomFor (by show A.units + 1 < cLine; omega) ?_)
    refine wpAny_bind (m := callSpecialIfBound? (.ref x) (Str.ofString "__eq__") [b]) (ifBound_K X I hs hf (wpAny_mono h (fun v s' hv => ?_) fun _ _ e => e))
    obtain ⟨c, rfl, q⟩ := hv
    show wpAny _ _ (truthy (.bool c) >>= _) _ _ _
    exact wpAny_bind (wpAny_truthy_bool (by first | exact wpAny_pure q | exact q))
  have slot : wpAny (model prog w) A (call (.builtin "object.__ne__") [.ref x, b]) (fun v s' => ∃ c, v = .bool c ∧ Q (.bool c) s') E s := by
    refine wpAny_call (codeAny_call_builtin (by decide +kernel) F.cmpEntry_ne (@check_slot (model prog w) _ _ s "object.__ne__" "object" "__ne__" (.ref x) [b] [] _ F.cmpKind_ne F.cmpSplit_ne sub (F.cmpArgs_ne _ _) (body (wpAny_mono h (fun v s' hv => ?_) fun _ _ e => e))))
    obtain ⟨c, rfl, q⟩ := hv
    exact ⟨c, rfl, _, rfl, q⟩
  have one : wpAny (model prog w) A (tryCompare (.ref x) "__ne__" b) (fun r s' => ∃ v, r = some v ∧ Q v s') E s := by
    unfold tryCompare
    refine wpAny_bind (m := callSpecialIfBound? (.ref x) _ [b]) ?_
    simp only [callSpecialIfBound?, bindSpecialIfBound?]
    refine wpAny_holding (wpAny_bind (wpAny_bind (wpAny_bind (I.type.here ((looks_findIn X hne).here ?_)))))
    have bnd : bindSpecial (.builtin "object.__ne__") (.ref x) = pure (.builtin "object.__ne__", [.ref x]) := by kernel_rfl
    have fin : wpAny (model prog w) A (call (.builtin "object.__ne__") ([.ref x] ++ [b]) >>= fun v => pure (some v)) (fun r s' => wpAny (model prog w) A (match r with | some .notImplemented | none => pure none | some v => pure (some v)) (fun r s' => ∃ v, r = some v ∧ Q v s') E s') E s := by
      refine wpAny_bind (wpAny_mono slot (fun v s' hv => ?_) fun _ _ e => e)
      obtain ⟨c, rfl, q⟩ := hv
      exact wpAny_pure (wpAny_pure ⟨_, rfl, q⟩)
    simp only [bnd]
    refine wpAny_bind (wpAny_askSetting (wpAny_ite ?_))
    split
    · exact wpAny_bind (wpAny_pure (wpAny_pure (by exact fin)))
    · exact wpAny_tryCatch (wpAny_bind (wpAny_pure (wpAny_pure (by exact fin))))
  unfold richCompare
  simp only [oneThing_ref]
  refine wpAny_holding (wpAny_bind (wpAny_cRoomFor (by omega) ?_))
  refine wpAny_bind (I.type.here (wpAny_bind (hb.here ?_)))
  split
  · rename_i q
    have e : subIn K tb (.ref C) = some false := by
      rcases Bool.or_eq_true_iff.mp hn with e | e
      · rw [beq_iff_eq.mp e] at q; simp at q
      · exact beq_iff_eq.mp e
    refine wpAny_bind ((looks_subIn X e).here ?_)
    simp only [Bool.false_eq_true, if_false]
    refine wpAny_bind (wpAny_mono one (fun r s' z => ?_) fun _ _ e => e)
    obtain ⟨v, rfl, hq⟩ := z
    exact wpAny_pure hq
  · refine wpAny_bind (wpAny_pure ?_)
    simp only [Bool.false_eq_true, if_false]
    refine wpAny_bind (wpAny_mono one (fun r s' z => ?_) fun _ _ e => e)
    obtain ⟨v, rfl, hq⟩ := z
    exact wpAny_pure hq
end
end PySem.W
namespace L2
open PySem PySem.Spec PyProof.Rows
section
variable {X : Cx} {CX : CXT} {k : Nat} {f C : Addr} {fd : FuncData} {ps : List Str} {sp : Sp}
theorem call_vals (F : FnOk X.prog X.w X.K X.mg X.base CX k f fd ps sp) (hb : Binds X.K fd ps []) (hx : Passes CX X noE) {A : Around} (hr : Room k A) (hA : A.frames = X.A.frames)
    {pins : List (Addr × Obj)} {s : Shared} {σ : St} {H : Hp} {vs : List V} {us : List Value} {Q : VK} (I : Inv X pins σ H s) (r : Vals vs us) (h : sp vs H Q noE) :
    wpAny (model X.prog X.w) A (call (.ref f) us) (EP X pins σ Q) X.xe s := by
  have e0 : Env0 X.prog X.w X.K X.mg X.base A X.stack s H := by
    have e := I.env0
    exact ⟨by rw [hA]; exact e.frames, e.mod, e.bs, e.bsz, e.funs, e.frf, e.hok, e.bare⟩
  have hl := F.len _ _ _ _ h
  refine wpAny_call (codeAny_mono (F.run A X.stack s H ⟨us, []⟩ us vs Q noE hr e0 (by
    have := hb s us I.kIn (by rw [List.append_nil, ← r.length]; exact hl)
    rwa [List.append_nil] at this) r h) fun r s' hq => ?_)
  cases r with
  | error e => exact hx pins σ H s e s' I hq
  | ok fl =>
    cases fl with
    | ret w => exact I.after hq
    | next => exact False.elim hq
    | brk => exact False.elim hq
    | cont => exact False.elim hq
/-- what answers a bool -/
abbrev blQ (Q : VK) (g : Bool → Bool) : VK := fun r H' => ∃ b, r = .bl b ∧ Q (.bl (g b)) H'
def rInO (C : Addr) (sp : Sp) (g : Bool → Bool) : R2 := fun x y H Q => ∃ o dx fs, y = .ref o ∧ H o = some (.ins C dx fs) ∧ sp [.ref o, x] H (blQ Q g) noE
theorem op_inO (F : FnOk X.prog X.w X.K X.mg X.base CX k f fd ps sp) (hb : Binds X.K fd ps []) (hx : Passes CX X noE) (hr : Room k X.A)
    (hs : PySem.W.findIn X.K (.ref C) "__contains__" = some (some (.ref f))) (hf : PySem.W.isFn X.K (.ref f) = true) : OpR X (compareOp .In) (rInO C sp id) := by
  intro pins s σ H x y v u Q I rx ry h
  obtain ⟨o, dx, fs, rfl, ho, q⟩ := h
  obtain rfl : u = Value.ref o := ry
  obtain ⟨mA, J, _⟩ := ins_get I.hok ho
  obtain ⟨od, J, _⟩ := J.look
  obtain ⟨m, hF⟩ := I.fr
  refine PySem.W.in_K hF I.ok.mod.kin J hs hf (wpAny_mono (call_vals F hb hx hr rfl I (.cons (F := RelV) (a := V.ref o) rfl (.cons rx .nil)) q) (fun r s' z => ?_) fun _ _ z => z)
  obtain ⟨v, H', I', rv, b, rfl, q⟩ := z
  obtain rfl : r = Value.bool b := rv
  exact wpAny_truthy_bool ⟨.bl b, H', I', rfl, q⟩
theorem op_notInO (F : FnOk X.prog X.w X.K X.mg X.base CX k f fd ps sp) (hb : Binds X.K fd ps []) (hx : Passes CX X noE) (hr : Room k X.A)
    (hs : PySem.W.findIn X.K (.ref C) "__contains__" = some (some (.ref f))) (hf : PySem.W.isFn X.K (.ref f) = true) : OpR X (compareOp .NotIn) (rInO C sp not) := by
  intro pins s σ H x y v u Q I rx ry h
  obtain ⟨o, dx, fs, rfl, ho, q⟩ := h
  obtain rfl : u = Value.ref o := ry
  obtain ⟨mA, J, _⟩ := ins_get I.hok ho
  obtain ⟨od, J, _⟩ := J.look
  obtain ⟨m, hF⟩ := I.fr
  refine PySem.W.notIn_K hF I.ok.mod.kin J hs hf (wpAny_mono (call_vals F hb hx hr rfl I (.cons (F := RelV) (a := V.ref o) rfl (.cons rx .nil)) q) (fun r s' z => ?_) fun _ _ z => z)
  obtain ⟨v, H', I', rv, b, rfl, q⟩ := z
  obtain rfl : r = Value.bool b := rv
  exact wpAny_truthy_bool ⟨.bl (!b), H', I', rfl, q⟩
/-- len(o) -/
theorem call_lenO (F : FnOk X.prog X.w X.K X.mg X.base CX k f fd ps sp) (hb : Binds X.K fd ps []) (hx : Passes CX X noE) (hr : Room (k + 1) X.A)
    (hs : PySem.W.findIn X.K (.ref C) "__len__" = some (some (.ref f))) (hf : PySem.W.isFn X.K (.ref f) = true) :
    CallR X (.builtin "len") (fun xs H Q => ∃ o dx fs, xs = [.ref o] ∧ H o = some (.ins C dx fs) ∧ sp [.ref o] H (fun r H' => ∃ n : Int, r = .int n ∧ 0 ≤ n ∧ n < 2 ^ 63 ∧ Q (.int n) H') noE) := by
  intro pins s σ H xs us Q I r h
  obtain ⟨o, dx, fs, rfl, ho, q⟩ := h
  obtain ⟨u, rfl, ru⟩ := vals1 r
  obtain rfl : u = Value.ref o := ru
  obtain ⟨mA, J, _⟩ := ins_get I.hok ho
  obtain ⟨od, J, _⟩ := J.look
  obtain ⟨m, hF⟩ := I.fr
  refine PySem.W.len_K hF I.ok.mod.kin J hs hf (wpAny_mono (call_vals F hb hx hr.in1 rfl I (.cons (F := RelV) (a := V.ref o) rfl .nil) q) (fun r s' z => ?_) fun _ _ z => z)
  obtain ⟨v, H', I', rv, n, rfl, h0, h1, q⟩ := z
  obtain ⟨t, rfl⟩ : ∃ t, r = Value.int n t := rv
  exact ⟨⟨h0, h1⟩, .int n, H', I'.tok _, ⟨_, rfl⟩, q⟩
/-- == and != of such an object and anything whose class is known -/
def rEqO (K : PySem.W.Frag) (C : Addr) (sp : Sp) (g : Bool → Bool) : R2 := fun x y H Q => ∃ o dx fs, x = .ref o ∧ H o = some (.ins C dx fs) ∧
  ((∃ t, TyX K H y t ∧ PySem.W.notFirst K C t = true) ∨ ∃ o' dx' fs', y = .ref o' ∧ H o' = some (.ins C dx' fs')) ∧ sp [.ref o, y] H (blQ Q g) noE
theorem eq_looks {pins : List (Addr × Obj)} {s : Shared} {σ : St} {H : Hp} {y : V} {u : Value} (I : Inv X pins σ H s) (ry : RelV y u)
    (h : (∃ t, TyX X.K H y t ∧ PySem.W.notFirst X.K C t = true) ∨ ∃ o' dx' fs', y = .ref o' ∧ H o' = some (.ins C dx' fs')) :
    ∃ t, PySem.W.Looks (model X.prog X.w) s.heap (typeOf u) t ∧ PySem.W.notFirst X.K C t = true := by
  rcases h with ⟨t, ty, n⟩ | ⟨o', dx', fs', rfl, ho'⟩
  · obtain ⟨P, kx, hp, _⟩ := kit_of I ry ty
    exact ⟨t, kx.ty _ _ I.kIn hp, n⟩
  · obtain rfl : u = Value.ref o' := ry
    obtain ⟨mA, J, _⟩ := ins_get I.hok ho'
    obtain ⟨od, J, _⟩ := J.look
    exact ⟨_, J.type, by simp [PySem.W.notFirst]⟩
theorem op_eqO (F : FnOk X.prog X.w X.K X.mg X.base CX k f fd ps sp) (hb : Binds X.K fd ps []) (hx : Passes CX X noE) (hr : Room (k + 1) X.A)
    (hs : PySem.W.findIn X.K (.ref C) "__eq__" = some (some (.ref f))) (hf : PySem.W.isFn X.K (.ref f) = true) : OpR X (compareOp .Eq) (rEqO X.K C sp id) := by
  intro pins s σ H x y v u Q I rx ry h
  obtain ⟨o, dx, fs, rfl, ho, hy, q⟩ := h
  obtain rfl : v = Value.ref o := rx
  obtain ⟨t, L, n⟩ := eq_looks I ry hy
  obtain ⟨mA, J, _⟩ := ins_get I.hok ho
  obtain ⟨od, J, _⟩ := J.look
  obtain ⟨m, hF⟩ := I.fr
  refine PySem.W.cmp_K (op := .Eq) hr.units0 hF I.ok.mod.kin J L n hs hf (wpAny_mono (call_vals F hb hx (hr.mono (Nat.le_succ _)) rfl I (.cons (F := RelV) (a := V.ref o) rfl (.cons ry .nil)) q) (fun r s' z => ?_) fun _ _ z => z)
  obtain ⟨v, H', I', rv, b, rfl, q⟩ := z
  obtain rfl : r = Value.bool b := rv
  exact ⟨.bl b, H', I', rfl, q⟩
theorem op_neO (F : FnOk X.prog X.w X.K X.mg X.base CX k f fd ps sp) (hb : Binds X.K fd ps []) (hx : Passes CX X noE) (hr : Room (k + 1) X.A)
    (hs : PySem.W.findIn X.K (.ref C) "__eq__" = some (some (.ref f))) (hf : PySem.W.isFn X.K (.ref f) = true)
    (hne : PySem.W.findIn X.K (.ref C) "__ne__" = some (some (.builtin "object.__ne__"))) (hob : PySem.W.subIn X.K (.ref C) (.type "object") = some true) : OpR X (compareOp .NotEq) (rEqO X.K C sp not) := by
  intro pins s σ H x y v u Q I rx ry h
  obtain ⟨o, dx, fs, rfl, ho, hy, q⟩ := h
  obtain rfl : v = Value.ref o := rx
  obtain ⟨t, L, n⟩ := eq_looks I ry hy
  obtain ⟨mA, J, _⟩ := ins_get I.hok ho
  obtain ⟨od, J, _⟩ := J.look
  refine PySem.W.ne_K (by have := hr.un; omega) I.kIn J L n hne hob hs hf (wpAny_mono (call_vals F hb hx hr.in1 rfl I (.cons (F := RelV) (a := V.ref o) rfl (.cons ry .nil)) q) (fun r s' z => ?_) fun _ _ z => z)
  obtain ⟨v, H', I', rv, b, rfl, q⟩ := z
  obtain rfl : r = Value.bool b := rv
  exact ⟨b, rfl, .bl (!b), H', I', rfl, q⟩
end
end L2

/-! list comprehensions, whether or not an exception is handled -/
namespace L2
open PySem PySem.Spec PyProof.Rows
open L2H (RoomH Hot1 PinOk)
open HotX (HotAt)
/-- at a heap: nothing is handled, or an exception without a context -/
def WarmH (A : Around) (h : Heap) : Prop := A.handled = none ∨ ∃ x1, HotAt A x1 h
/-- an iterator that goes and ends so -/
structure TurnW (P : Program) (w : World) (K : PySem.W.Frag) (tg : Expr) (J : It) (fp : List Addr) (it : Addr) (tn : Nat → Heap → Prop) : Prop where
  obj : ∀ i h, tn i h → ∀ b ∈ fp, ∃ o, h.get? b = some o ∧ ∀ v, o.data ≠ .cell v
  keep : ∀ i h h', tn i h → (∀ b ∈ fp, ∀ o, h.get? b = some o → h'.get? b = some o) → tn i h'
  item : ∀ (X : Cx), X.prog = P → X.w = w → X.K = K → ∀ (i : Nat) (pins : List Pin) (s : Shared) (σ : St) (H : Hp) (E : Value → Shared → Prop),
    WarmH X.A s.heap → Inv X pins σ H s → (∀ b ∈ fp, FpOk X pins H b) → tn i s.heap → J.go i H →
    wpAny (model P w) X.A (pyNext (.ref it)) (fun r s1 => ∃ u, r = some u ∧ wpAny (model P w) X.A (letOwnedTupleGo tg (.ref it) u)
      (fun _ s2 => ∃ x H', Inv X pins σ H' s2 ∧ RelV x u ∧ J.yld i H x H' ∧ tn (i + 1) s2.heap ∧ ∀ b ∈ fp, H' b = none) E s1) E s
  done : ∀ (X : Cx), X.prog = P → X.w = w → X.K = K → ∀ (i : Nat) (pins : List Pin) (s : Shared) (σ : St) (H : Hp) (E : Value → Shared → Prop),
    WarmH X.A s.heap → Inv X pins σ H s → (∀ b ∈ fp, FpOk X pins H b) → tn i s.heap → J.stop i H →
    wpAny (model P w) X.A (pyNext (.ref it)) (fun r s1 => r = none ∧ Inv X pins σ H s1) E s
  self : ∀ (A : Around) (i : Nat) (s : Shared) (Q : Value → Shared → Prop) (E : Value → Shared → Prop), tn i s.heap → Q (.ref it) s → wpAny (model P w) A (pyIter (.ref it)) Q E s
theorem turn_rangeW {P : Program} {w : World} {K : PySem.W.Frag} {tg : Expr} (it : Addr) (lo : Int) (n : Nat) :
    TurnW P w K tg (Itr lo n) [it] it (fun i h => IsRangeIter h it (lo + (i : Nat) * 1) ((n : Int) - (i : Nat)) 1) where
  obj := fun i h st b hb => by
    obtain rfl : b = it := by simpa using hb
    refine ⟨_, st, fun v z => ?_⟩
    have z1 : Data.fields _ = Data.cell v := z
    cases z1
  keep := fun i h h1 st k => k it (by simp) _ st
  item := by
    rintro X rfl rfl rfl i pins s σ H E hw I hf st hg
    obtain ⟨f0, f1, f2, f3, f4, f5⟩ := hf it (by simp)
    have lt : i < n := hg
    refine wpAny_pyNext_range_item st (by omega) fun h1 st1 sb => ?_
    have st2 : IsRangeIter h1 it (lo + ((i + 1 : Nat) : Int) * 1) ((n : Int) - ((i + 1 : Nat) : Int)) 1 := by
      have a1 : lo + ((i + 1 : Nat) : Int) * 1 = lo + ((i : Nat) : Int) * 1 + 1 := by omega
      have a2 : (n : Int) - ((i + 1 : Nat) : Int) = (n : Int) - ((i : Nat) : Int) - 1 := by omega
      rw [a1, a2]
      exact st1
    have I1 : Inv X pins σ H { s with heap := h1, toks := s.toks + 1 } :=
      I.turned (fun b o hb e => (sb.2 b hb).trans e) f0 f1 f3 f4 f5
    refine ⟨_, rfl, go_of (s := { s with heap := h1, toks := s.toks + 1 }) (n := "range_iterator") st2 rfl rfl (by decide) ?_⟩
    refine ⟨.int (lo + i), H, I1, ⟨s.toks, ?_⟩, ⟨rfl, rfl⟩, st2, fun b hb => (hf b hb).1⟩
    rw [Int.mul_one]
  done := by
    rintro X rfl rfl rfl i pins s σ H E hw I hf st hg
    obtain ⟨f0, f1, f2, f3, f4, f5⟩ := hf it (by simp)
    have le : n ≤ i := hg
    have z : (n : Int) - (i : Nat) ≤ 0 := by omega
    rcases hw with hw | ⟨x1, hot⟩
    · exact wpAny_pyNext_range_end hw st z fun h1 eb => ⟨rfl, I.turned (t' := s.toks) (fun b o hb e => eb b o hb e) f0 f1 f3 f4 f5⟩
    · exact HotX.pyNext_range_end_hot hot st z fun h1 eb => ⟨rfl, I.turned (t' := s.toks) (fun b o _ e => eb b o e) f0 f1 f3 f4 f5⟩
  self := fun _ _ _ _ _ st h => wpAny_pyIter_rangeiter st h
def PIEW (X : Cx) (pins : List Pin) (σ : St) (tg : Expr) (R : It → Hp → Prop) (itv : Value) (s2 : Shared) : Prop :=
  ∃ (it : Addr) (fp : List Addr) (tn : Nat → Heap → Prop) (J : It) (H' : Hp), itv = .ref it ∧ Inv X pins σ H' s2 ∧
    TurnW X.prog X.w X.K tg J fp it tn ∧ tn 0 s2.heap ∧ (∀ b ∈ fp, FpOk X pins H' b) ∧ R J H'
structure PIW (X : Cx) (tg iter : Expr) (wi : TI) : Prop where
  run : ∀ (pins : List Pin) (s : Shared) (σ : St) (H : Hp) (R : It → Hp → Prop), Inv X pins σ H s → wi σ H R →
    wpAny (model X.prog X.w) X.A (eval iter X.env) (fun v s1 => wpAny (model X.prog X.w) X.A (pyIter v) (PIEW X pins σ tg R) X.xe s1) X.xe s
section
variable {X : Cx} {tg : Expr}
theorem range_itW {pins : List Pin} {σ : St} {H : Hp} {s : Shared} {R : It → Hp → Prop} {E : Value → Shared → Prop} {lo hi : Int} {t u v : Tok} {tk : Nat}
    (I : Inv X pins σ H s) (h1 : -(2 ^ 62) ≤ lo) (h2 : lo < 2 ^ 62) (h3 : -(2 ^ 62) ≤ hi) (h4 : hi < 2 ^ 62) (q : R (Itr lo (hi - lo).toNat) H) :
    wpAny (model X.prog X.w) X.A (pyIter (.ref s.heap.objs.size)) (PIEW X pins σ tg R) E
      { s with heap := s.heap.push { cls := .type "range", data := .fields #[.int lo t, .int hi u, .int 1 v] }, toks := tk } := by
  generalize hro : ({ cls := .type "range", data := .fields #[.int lo t, .int hi u, .int 1 v] } : Obj) = ro
  have isR : IsRange (s.heap.push ro) s.heap.objs.size lo hi 1 t u v := by
    rw [← hro]
    exact IsRange.new ..
  refine wpAny_pyIter_range isR (small_one h1 h2 h3 h4) ?_
  have I1 : Inv X pins σ H { s with heap := s.heap.push ro, toks := tk } := I.kept fun b o e => Heap.get?_push_of_some _ e
  refine ⟨(s.heap.push ro).objs.size, [(s.heap.push ro).objs.size], _, _, H, rfl, I1.kept (t' := tk) fun b o e => Heap.get?_push_of_some _ e,
    turn_rangeW _ lo (hi - lo).toNat, ?_, fun b hb => ?_, q⟩
  · have a1 : lo + ((0 : Nat) : Int) * 1 = lo := by simp
    have a2 : (((hi - lo).toNat : Nat) : Int) - ((0 : Nat) : Int) = Builtin.Range.rangeSize lo hi 1 := by
      rw [rangeSize_one]
      split <;> omega
    show IsRangeIter _ _ (lo + ((0 : Nat) : Int) * 1) ((((hi - lo).toNat : Nat) : Int) - ((0 : Nat) : Int)) 1
    rw [a1, a2]
    exact Heap.get?_push_size _ rfl
  · obtain rfl : b = (s.heap.push ro).objs.size := by simpa using hb
    exact I1.fpOk (Nat.le_refl _) (I1.hok.fresh (Nat.le_refl _))
theorem pi_range1W {a : Expr} {ta : TA} {p pos : Pos} (hg : Gl X "range") (hm : X.mg "range" = none) (ha : PA X [a] ta)
    (hs : starEach [a] X.env = [(false, eval a X.env)] := by rfl) : PIW X tg (.Call (.Name "range" p) [a] [] pos) (iRng1 ta) := by
  refine ⟨fun pins s σ H R I h => ?_⟩
  refine Call_ (ld_blt I hg hm boot_range (PyProof.Rows.callWith_type1 ?_ hs rfl))
  refine thn (ha.run pos pins s σ H _ I h) fun us s1 ⟨vs, H1, I1, r1, j, e, q1, q2, q⟩ => ?_
  subst e
  obtain ⟨y, rfl, ry⟩ := vals1 r1
  obtain ⟨tk, rfl⟩ : ∃ tk, y = Value.int j tk := ry
  exact call_range_1 (range_itW I1 (by omega) (by omega) q1 q2 (by simpa using q))
end
end L2

namespace L2
open PySem PySem.Spec PyProof.Rows
open L2H (RoomH Hot1 PinOk)
section
variable {X : Cx} {p : Pin}
theorem WarmC.at (c : WarmC X p) {h : Heap} (g : h.get? p.1 = some p.2) : WarmH X.A h := by
  rcases c.warm with z | ⟨z, vs, h1, h2⟩
  · exact .inl z
  · exact .inr ⟨p.1, z, p.2, vs, g, h1, h2⟩
theorem lcW_core {pins : List Pin} {s : Shared} {σ : St} {H : Hp} {Q : VK} {elt tg iter : Expr} {ifs : List Expr} {scope : Scope} {own : List (Str × Nat)}
    {pos pos1 : Pos} {wi : TI} {g : TG} {tt : TT} {te : TE} {use : Option (Value → Sem Unit)} {Qf : Value → Shared → Prop} (wc : WarmC X p)
    (hN : X.N.Nodup) (I : Inv X pins σ H s) (hi : PIW X tg iter wi) (ok : BlkOk X.N X.env.scope scope own)
    (hg : ∀ (s : Shared) (H : Hp) (C : Addr) (cl : List (Str × Addr)) (fp : List Addr), PG (X.blk s H scope (compEnvC scope cl C X.env) fp) tg g)
    (ht : ∀ (s : Shared) (H : Hp) (C : Addr) (cl : List (Str × Addr)) (fp : List Addr), PTs (X.blk s H scope (compEnvC scope cl C X.env) fp) ifs tt)
    (he : ∀ (s : Shared) (H : Hp) (C : Addr) (cl : List (Str × Addr)) (fp : List Addr), PE (X.blk s H scope (compEnvC scope cl C X.env) fp) elt te)
    (hs : ∀ x, foldedSetIterable iter X.env x = pure x) (h : tLc wi g tt te (own.map (·.2)) σ H Q)
    (back : ∀ D C s1 m H1, Inv X pins σ H1 s1 → Q (.ref D) H1 → s1.heap.Ns C m → FpOk X pins H1 C →
      compPost (model X.prog X.w) X.A X.xe use Qf (.ref D) C (.ok .next) s1) :
    wpAny (model X.prog X.w) X.A (comprehension (.ListComp elt [⟨tg, iter, ifs, 0⟩] scope pos) scope X.env pos1 (newList []) false (eval iter X.env) use) Qf X.xe s := by
  have frees : ∀ y ∈ scope.names, y.2 = .free → ∃ c, X.env.cells.lookup y.1 = some c := by
    intro y hy e
    exact (ok.free y hy e).elim (fun k => I.ok.has _ (.inl k)) fun k => I.ok.has _ (.inr k)
  refine wpAny_comprehension_free (use := use) rfl hs (closure_ok frees) ok.kind (fun y hy e => by rw [ok.uniq y hy, e]) ?_
  refine thn (hi.run pins s σ H _ I h) fun xv s1 hx => thn hx fun itv s2 h2 => ?_
  obtain ⟨it, fp, tn, J, H2, e, I2, T, st2, f2, q⟩ := h2
  subst e
  refine wpAny_newObj_type (newEnv_comp ?_) (by show 0 ≤ sizeLine; decide)
  generalize hD : s2.heap.objs.size = D
  have freeD : H2 D = none := I2.hok.fresh (Nat.le_of_eq hD)
  obtain ⟨W, ⟨m0, w0⟩, turn⟩ := q D freeD
  generalize hs3 : ({ s2 with heap := s2.heap.push { cls := .type "list", data := .seq ([] : List Value).toArray } } : Shared) = s3
  have heap3 : s3.heap = s2.heap.push { cls := .type "list", data := .seq ([] : List Value).toArray } := by
    rw [← hs3]
  have I3 : Inv X pins σ (upd H2 D (.lst [])) s3 := by
    rw [← hs3]
    refine I2.laid (t' := s2.toks) (fun b o e => Heap.get?_push_of_some _ e) (Nat.le_of_eq hD) ?_
    refine ⟨Nat.zero_le _, [], 0, .nil, ?_⟩
    rw [← hD]
    exact Heap.get?_push_size _ rfl
  have lts : ∀ b ∈ fp, b < s2.heap.objs.size := by
    intro b hb
    obtain ⟨o, e, _⟩ := T.obj _ _ st2 b hb
    exact Heap.lt_size e
  have f3 : ∀ b ∈ fp, FpOk X pins (upd H2 D (.lst [])) b ∧ b < s3.heap.objs.size := by
    intro b hb
    have lt := lts b hb
    refine ⟨⟨?_, (f2 b hb).2⟩, ?_⟩
    · rw [upd_ne (by rw [← hD]; exact Nat.ne_of_lt lt)]
      exact (f2 b hb).1
    · rw [heap3, Heap.size_push]
      exact Nat.lt_succ_of_lt lt
  have st3 : tn 0 s3.heap := T.keep _ _ _ st2 fun b _ o e => by
    rw [heap3]
    exact Heap.get?_push_of_some _ e
  have I4 := block_start I3 ok hN f3
  generalize hcl : cellsFrom (s3.heap.objs.size + 1) scope.names (cloFrom X.env.cells scope.names []) = cl at I4
  have pg := hg s3 (upd H2 D (.lst [])) s3.heap.objs.size cl fp
  have pt := ht s3 (upd H2 D (.lst [])) s3.heap.objs.size cl fp
  have pe := he s3 (upd H2 D (.lst [])) s3.heap.objs.size cl fp
  show codeAny _ _ (.compStart (.ListComp elt [⟨tg, iter, ifs, 0⟩] scope pos) 0 (.ref it) (.ref D) (compEnvC scope cl s3.heap.objs.size X.env))
    (compPost (model X.prog X.w) X.A X.xe use Qf (.ref D) s3.heap.objs.size)
    { s3 with heap := pushCells (s3.heap.push { cls := .type "dict", data := .dict #[] }) scope.names }
  have nofp : ∀ b ∈ fp, (upd H2 D (.lst [])) b = none := fun b hb => (f3 b hb).1.1
  generalize hce : compEnvC scope cl s3.heap.objs.size X.env = ce at I4 pg pt pe ⊢
  have locC : ce.locals = s3.heap.objs.size := by
    subst hce
    rfl
  generalize hH3 : upd H2 D (.lst []) = H3 at I3 I4 pg pt pe w0 nofp f3
  generalize hs4 : ({ s3 with heap := pushCells (s3.heap.push { cls := .type "dict", data := .dict #[] }) scope.names } : Shared) = s4 at I4 ⊢
  have st4 : tn 0 s4.heap := T.keep _ _ _ st3 fun b _ o e => by
    rw [← hs4]
    exact pushCells_keeps _ _ _ _ (Heap.get?_push_of_some _ e)
  -- the handled exception stays within the block
  obtain ⟨g1, g2, g3, g4, g5⟩ := I3.pin p (List.mem_append_left _ wc.mem)
  have ns : p.1 ∉ frs X.stack := fun hm => by
    rcases List.mem_cons.mp (I3.stkSub _ hm) with z | z
    · exact g3 z
    · exact g4 z
  have nf : p.1 ∉ fp := fun hm => (f3 _ hm).1.2.2.2.2.2 p (List.mem_append_left _ wc.mem) rfl
  have warm : ∀ {pn1 : List Pin} {σ1 : St} {H1 : Hp} {s1 : Shared}, Inv (X.blk s3 H3 scope ce fp) pn1 σ1 H1 s1 → WarmH (X.blk s3 H3 scope ce fp).A s1.heap := by
    intro pn1 σ1 H1 s1 J
    exact wc.at (J.base.keep p.1 p.2 g1 g2 ns nf)
  have stat : ∀ {σ1 : St} {H1 : Hp} {s1 : Shared}, Inv (X.blk s3 H3 scope ce fp) [] σ1 H1 s1 → (∀ b ∈ fp, H1 b = none) →
      ∀ b ∈ fp, FpOk (X.blk s3 H3 scope ce fp) [] H1 b := by
    intro σ1 H1 s1 J hn b hb
    refine ⟨hn b hb, (J.ok.exf b hb).1, J.ok.exfs b hb, .inl hb, fun x c e => (J.ok.exf b hb).2 x c e, fun q hq => ?_⟩
    have z : q ∈ ([] : List Pin) ++ [] := hq
    simp at z
  refine codeAny_compStart_list ?loop (T.self X.A 0 _ _ _ st4 ?loop2)
  case loop2 => exact ?loop
  refine compLoop_any (fun n s1 => ∃ i H1, Inv (X.blk s3 H3 scope ce fp) [] (wipe σ (own.map (·.2))) H1 s1 ∧ tn i s1.heap ∧ (∀ b ∈ fp, H1 b = none) ∧ W i n H1)
    ?_ m0 ⟨0, H3, I4, st4, nofp, w0⟩
  rintro n s5 ⟨i, H5, I5, st5, n5, w5⟩
  rcases turn i n H5 w5 with ⟨stop, qq⟩ | ⟨go, Nx, hNx, step⟩
  · refine thnF (T.done (X.blk s3 H3 scope ce fp) rfl rfl rfl i [] s5 _ H5 (fun _ _ => False) (warm I5) I5 (stat I5 n5) st5 stop) fun r s6 ⟨hr, I6⟩ => ?_
    subst hr
    have I7 : Inv X pins σ H5 s6 := I3.call' (ch := fp) I6.os I6.base I6.hok I6.bare fun b hb =>
      ⟨(f3 b hb).1.2.2.2.1, (f3 b hb).1.2.1, (f3 b hb).1.2.2.2.2.1, (f3 b hb).1.2.2.2.2.2⟩
    have nC : H5 s3.heap.objs.size = none := by
      have z : H5 ce.locals = none := I6.free
      rwa [locC] at z
    obtain ⟨m, hn, _⟩ := I6.loc
    have hn1 : s6.heap.Ns ce.locals m := hn
    rw [locC] at hn1
    exact back D s3.heap.objs.size s6 m H5 I7 qq hn1 (I3.fpOk (Nat.le_refl _) nC)
  · refine thnF (T.item (X.blk s3 H3 scope ce fp) rfl rfl rfl i [] s5 _ H5 (fun _ _ => False) (warm I5) I5 (stat I5 n5) st5 go) fun r s6 ⟨u, hr, h6⟩ => ?_
    subst hr
    refine thnF h6 fun _ s7 ⟨x, H7, I7, r7, y7, st7, n7⟩ => ?_
    have P7 := I7.pinned (stat I7 n7) (T.obj _ _ st7)
    refine thnF (pg.run _ s7 _ H7 x u _ P7 r7 (step x H7 y7)) fun _ s8 ⟨σ8, H8, I8, hw8, q8⟩ => ?_
    refine thnF (pt.run _ s8 σ8 H8 _ I8 q8) fun b s9 ⟨H9, I9, q9⟩ => ?_
    have fin : ∀ {s1 : Shared} {H1 : Hp}, Inv (X.blk s3 H3 scope ce fp) ([] ++ pinsAt fp s7.heap) σ8 H1 s1 → Nx H1 → ∃ m, m < n ∧
        ∃ i H1, Inv (X.blk s3 H3 scope ce fp) [] (wipe σ (own.map (·.2))) H1 s1 ∧ tn i s1.heap ∧ (∀ b ∈ fp, H1 b = none) ∧ W i m H1 := by
      intro s1 H1 J nx
      obtain ⟨m1, hm, w1⟩ := hNx H1 nx
      have kept : ∀ b ∈ fp, ∀ o, s7.heap.get? b = some o → s1.heap.get? b = some o ∧ H1 b = none := by
        intro b hb o e
        have z := J.pin (b, o) (List.mem_append_right _ (List.mem_append_right _ (mem_pinsAt hb e)))
        exact ⟨z.1, z.2.1⟩
      have hl : (wipe σ (own.map (·.2))).length = σ8.length := by
        rw [← hw8, wipe_length]
      refine ⟨m1, hm, i + 1, H1, (J.unpinned (pins := [])).weak hl (fun j v e => ?_), ?_, fun b hb => ?_, w1⟩
      · rw [← hw8] at e
        exact (wipe_some e).1
      · exact T.keep _ _ _ st7 fun b hb o e => (kept b hb o e).1
      · obtain ⟨o, e, _⟩ := T.obj _ _ st7 b hb
        exact (kept b hb o e).2
    cases b with
    | false =>
      simp only [Bool.false_eq_true, if_false] at q9 ⊢
      exact fin I9 q9
    | true =>
      simp only [if_true] at q9 ⊢
      refine thnF (pe.run _ s9 σ8 H9 _ I9 q9) fun z s10 ⟨yv, H10, I10, r10, acc, hD10, hz10, nx⟩ => ?_
      exact app_ok (X := X.blk s3 H3 scope ce fp) I10 hD10 hz10 r10 fun s11 I11 => fin I11 nx
/-- as a value -/
theorem pe_lcW {elt tg iter : Expr} {ifs : List Expr} {scope : Scope} {own : List (Str × Nat)} {pos : Pos} {wi : TI} {g : TG} {tt : TT} {te : TE} (wc : WarmC X p)
    (hN : X.N.Nodup) (hi : PIW X tg iter wi) (ok : BlkOk X.N X.env.scope scope own)
    (hg : ∀ (s : Shared) (H : Hp) (C : Addr) (cl : List (Str × Addr)) (fp : List Addr), PG (X.blk s H scope (compEnvC scope cl C X.env) fp) tg g)
    (ht : ∀ (s : Shared) (H : Hp) (C : Addr) (cl : List (Str × Addr)) (fp : List Addr), PTs (X.blk s H scope (compEnvC scope cl C X.env) fp) ifs tt)
    (he : ∀ (s : Shared) (H : Hp) (C : Addr) (cl : List (Str × Addr)) (fp : List Addr), PE (X.blk s H scope (compEnvC scope cl C X.env) fp) elt te)
    (hs : ∀ x, foldedSetIterable iter X.env x = pure x := by intro _; rfl) :
    PE X (.ListComp elt [⟨tg, iter, ifs, 0⟩] scope pos) (tLc wi g tt te (own.map (·.2))) := by
  refine ⟨fun pins s σ H Q I h => ?_⟩
  rw [eval_ListComp]
  refine lcW_core wc hN I hi ok hg ht he hs h fun D C s1 m H1 J q hn f => ⟨m, hn, fun h2 sb => ?_⟩
  obtain ⟨f0, f1, f2, f3, f4, f5⟩ := f
  exact ⟨.ref D, H1, J.turned (t' := s1.toks) (fun b o hb e => (sb.2 b hb).trans e) f0 f1 f3 f4 f5, rfl, q⟩
end
end L2

/-! repr of what is made of None, bools, ints, texts, lists, tuples, dicts -/
namespace L2
open PySem PySem.Spec PyProof.Rows
mutual
/-- the value v is the data d, all of whose objects are tracked -/
inductive Rdd (H : Hp) : V → PyData → Prop
  | non : Rdd H .non .none
  | bl (b) : Rdd H (.bl b) (.bool b)
  | int (i) : Rdd H (.int i) (.int i)
  | str (x) : Rdd H (.str x) (.str x)
  | lst {a xs ds} : H a = some (.lst xs) → RddAll H xs ds → Rdd H (.ref a) (.list ds)
  | tup {a xs ds} : H a = some (.tup xs) → RddAll H xs ds → Rdd H (.ref a) (.tuple ds)
  | dK {a kvs ds} : H a = some (.dK kvs) → RddAll H (kvs.map fun p => kV p.1) (ds.map (·.1)) → RddAll H (kvs.map (·.2)) (ds.map (·.2)) → Rdd H (.ref a) (.dict ds)
inductive RddAll (H : Hp) : List V → List PyData → Prop
  | nil : RddAll H [] []
  | cons {v d vs ds} : Rdd H v d → RddAll H vs ds → RddAll H (v :: vs) (d :: ds)
end
mutual
theorem Rdd.mono {H H' : Hp} (k : ∀ b o, H b = some o → H' b = some o) : ∀ {v : V} {d : PyData}, Rdd H v d → Rdd H' v d
  | _, _, .non => .non
  | _, _, .bl b => .bl b
  | _, _, .int i => .int i
  | _, _, .str x => .str x
  | _, _, .lst h r => .lst (k _ _ h) (RddAll.mono k r)
  | _, _, .tup h r => .tup (k _ _ h) (RddAll.mono k r)
  | _, _, .dK h r q => .dK (k _ _ h) (RddAll.mono k r) (RddAll.mono k q)
theorem RddAll.mono {H H' : Hp} (k : ∀ b o, H b = some o → H' b = some o) : ∀ {vs : List V} {ds : List PyData}, RddAll H vs ds → RddAll H' vs ds
  | _, _, .nil => .nil
  | _, _, .cons r t => .cons (Rdd.mono k r) (RddAll.mono k t)
end
section
variable {P : Program} {w : World} {H : Hp} {h : Heap}
theorem kv_rel {k : Key} {u : Value} (e : keyIs k u = true) : RelV (kV k) u := by
  rcases keyIs_shape e with ⟨i, t, rfl, rfl⟩ | ⟨x, t, rfl, rfl⟩
  · exact ⟨t, rfl⟩
  · exact ⟨t, rfl⟩
theorem pairs_keys {es : List DictEntry} {vs : List (Key × Value)} (h : Pairs (mixKind P w) es vs) :
    Vals (vs.map fun p => kV p.1) (es.map (·.key)) ∧ es.map (·.val) = vs.map (·.2) := by
  induction h with
  | nil => exact ⟨.nil, rfl⟩
  | cons h1 h2 _ ih =>
    refine ⟨.cons (kv_rel h1) ih.1, ?_⟩
    rw [List.map_cons, List.map_cons, h2, ih.2]
theorem kv_keys : ∀ {kvs : List (Key × V)} {vs : List (Key × Value)}, KV kvs vs → (kvs.map fun p => kV p.1) = (vs.map fun p => kV p.1) ∧ Vals (kvs.map (·.2)) (vs.map (·.2))
  | _, _, .nil => ⟨rfl, .nil⟩
  | _, _, .cons r t => by
    obtain ⟨h1, h2⟩ := kv_keys t
    refine ⟨?_, .cons r.2 h2⟩
    rw [List.map_cons, List.map_cons, h1, r.1]
mutual
theorem Rdd.reads (ok : HOk P w H h) : ∀ {v : V} {d : PyData} {u : Value}, Rdd H v d → RelV v u → ∃ as, Reads h u d as ∧ ∀ a ∈ as, ∃ o, H a = some o
  | _, _, u, .non, r => by
    obtain rfl : u = Value.none := r
    exact ⟨[], .none, fun a z => nomatch z⟩
  | _, _, u, .bl b, r => by
    obtain rfl : u = Value.bool b := r
    exact ⟨[], .bool b, fun a z => nomatch z⟩
  | _, _, u, .int i, r => by
    obtain ⟨t, rfl⟩ : ∃ t, u = Value.int i t := r
    exact ⟨[], .int i t, fun a z => nomatch z⟩
  | _, _, u, .str x, r => by
    obtain ⟨t, rfl⟩ : ∃ t, u = Value.str x t := r
    exact ⟨[], .str x t, fun a z => nomatch z⟩
  | _, _, u, .lst (a := a) (xs := xs) e q, r => by
    obtain rfl : u = Value.ref a := r
    obtain ⟨_, its, n, rv, g⟩ := (show ObjOk P w H h a (.lst xs) from ok a _ e)
    obtain ⟨as, z, k⟩ := RddAll.reads ok q rv
    refine ⟨a :: as, .list g rfl rfl z, fun b hb => ?_⟩
    rcases List.mem_cons.mp hb with rfl | hb
    · exact ⟨_, e⟩
    · exact k b hb
  | _, _, u, .tup (a := a) (xs := xs) e q, r => by
    obtain rfl : u = Value.ref a := r
    obtain ⟨_, its, rv, o, g, c, n, hd⟩ := (show ObjOk P w H h a (.tup xs) from ok a _ e)
    obtain ⟨as, z, k⟩ := RddAll.reads ok q rv
    exact ⟨as, .tuple g c hd z, k⟩
  | _, _, u, .dK (a := a) (kvs := kvs) e q1 q2, r => by
    obtain rfl : u = Value.ref a := r
    obtain ⟨_, _, vs, rk, o, es, ep, g, ex, hd, _, pr, _⟩ := (show ObjOk P w H h a (.dK kvs) from ok a _ e)
    obtain ⟨k1, k2⟩ := pairs_keys pr
    obtain ⟨k3, k4⟩ := kv_keys rk
    rw [← k3] at k1
    obtain ⟨as, z1, t1⟩ := RddAll.reads ok q1 k1
    rw [← k2] at k4
    obtain ⟨bs, z2, t2⟩ := RddAll.reads ok q2 k4
    refine ⟨a :: as ++ bs, .dict g ex.1 hd z1 z2, fun b hb => ?_⟩
    rcases List.mem_append.mp hb with hb | hb
    · rcases List.mem_cons.mp hb with rfl | hb
      · exact ⟨_, e⟩
      · exact t1 b hb
    · exact t2 b hb
theorem RddAll.reads (ok : HOk P w H h) : ∀ {vs : List V} {ds : List PyData} {us : List Value}, RddAll H vs ds → Vals vs us →
    ∃ as, ReadsAll h us ds as ∧ ∀ a ∈ as, ∃ o, H a = some o
  | _, _, _, .nil, r => by
    cases r
    exact ⟨[], .nil, fun a z => nomatch z⟩
  | _, _, _, .cons q t, r => by
    cases r with
    | cons r1 r2 =>
      obtain ⟨as, z, k⟩ := Rdd.reads ok q r1
      obtain ⟨bs, z2, k2⟩ := RddAll.reads ok t r2
      refine ⟨as ++ bs, .cons z z2, fun b hb => ?_⟩
      rcases List.mem_append.mp hb with hb | hb
      · exact k b hb
      · exact k2 b hb
end
end
def rRepr : List V → Hp → VK → Prop := fun xs H Q => ∃ (v : V) (d : PyData), xs = [v] ∧ Rdd H v d ∧ d.showable = true ∧ d.depth ≤ 32 ∧
  d.shown.length ≤ sizeLine ∧ Q (.str d.shown) H
theorem call_repr {X : Cx} (hgd : X.A.guards = some []) (hu : X.A.units + 64 < cLine) (hsy : ∃ o, X.K.lookup sysModules = some o) :
    CallR X (.builtin "repr") rRepr := by
  intro pins s σ H xs us Q I r h
  obtain ⟨v, d, rfl, q, hs, hd, hz, hq⟩ := h
  obtain ⟨u, rfl, ru⟩ := vals1 r
  obtain ⟨o, ho⟩ := hsy
  have free : H sysModules = none := (I.bs _ _ (I.ok.mod.kin _ _ ho)).2
  have ref : ∀ a as, Reads s.heap (.ref a) d as → (∀ b ∈ as, ∃ o, H b = some o) → wpAny (model X.prog X.w) X.A (call (.builtin "repr") [.ref a]) (EP X pins σ Q) X.xe s := by
    intro a as z k
    refine repr_of_reads' z hs (fun _ hm => ?_) hgd (by omega) (fun _ _ e => e) (fun h1 u1 tk hk => ?_) hz
    · obtain ⟨o1, e1⟩ := k _ hm
      rw [free] at e1
      cases e1
    · exact ⟨.str d.shown, H, I.kept (t' := tk) hk, ⟨_, rfl⟩, hq⟩
  have val : ∀ tk, EP X pins σ Q (.str d.shown s.toks) { s with toks := tk } := fun tk => ⟨.str d.shown, H, I.tok _, ⟨_, rfl⟩, hq⟩
  obtain ⟨as, z, k⟩ := q.reads I.hok ru
  cases q with
  | non =>
    obtain rfl : u = Value.none := ru
    exact PySem.P.repr_of_none (val _)
  | bl b =>
    obtain rfl : u = Value.bool b := ru
    exact PySem.P.repr_of_bool (val _)
  | int i =>
    obtain ⟨t, rfl⟩ : ∃ t, u = Value.int i t := ru
    exact PySem.P.repr_of_int (of_decide_eq_true hs) (val _)
  | str x =>
    obtain ⟨t, rfl⟩ : ∃ t, u = Value.str x t := ru
    exact PySem.P.repr_of_str (val _) hz
  | lst e _ =>
    obtain rfl : u = _ := ru
    exact ref _ _ z k
  | tup e _ =>
    obtain rfl : u = _ := ru
    exact ref _ _ z k
  | dK e _ _ =>
    obtain rfl : u = _ := ru
    exact ref _ _ z k
end L2

namespace L2
open PySem PySem.Spec PyProof.Rows
theorem PE.mono {X : Cx} {e : Expr} {t t1 : TE} (h : PE X e t) (k : ∀ σ H Q, t1 σ H Q → t σ H Q) : PE X e t1 :=
  ⟨fun pins s σ H Q I q => h.run pins s σ H Q I (k σ H Q q)⟩
theorem PA.mono {X : Cx} {es : List Expr} {t t1 : TA} (h : PA X es t) (k : ∀ σ H Q, t1 σ H Q → t σ H Q) : PA X es t1 :=
  ⟨fun pos pins s σ H Q I q => h.run pos pins s σ H Q I (k σ H Q q)⟩
/-- exceptions, one a class, with the fields f alike v -/
inductive Evs (H : Hp) (v : V) : List V → List (Addr × Str) → Prop
  | nil : Evs H v [] []
  | cons {a C d : Addr} {f : Str} {xs : List V} {cs : List (Addr × Str)} : EvP [] H a C d [(f, v)] → Evs H v xs cs → Evs H v (.ref a :: xs) ((C, f) :: cs)
theorem Evs.mono {H H' : Hp} (k : Same H H') {v : V} {xs : List V} {cs : List (Addr × Str)} (e : Evs H v xs cs) : Evs H' v xs cs := by
  induction e with
  | nil => exact .nil
  | cons h _ ih => exact .cons (h.mono (fun _ z => z) k) ih
theorem Evs.append {H : Hp} {v : V} {xs ys : List V} {cs ds : List (Addr × Str)} (e : Evs H v xs cs) (g : Evs H v ys ds) : Evs H v (xs ++ ys) (cs ++ ds) := by
  induction e with
  | nil => exact g
  | cons h _ ih => exact .cons h ih
theorem Evs.length {H : Hp} {v : V} {xs : List V} {cs : List (Addr × Str)} (e : Evs H v xs cs) : xs.length = cs.length := by
  induction e with
  | nil => rfl
  | cons _ _ ih => rw [List.length_cons, List.length_cons, ih]
theorem Evs.get {H : Hp} {v : V} {xs : List V} {cs : List (Addr × Str)} (e : Evs H v xs cs) : ∀ {i : Nat} {C : Addr} {f : Str}, cs[i]? = some (C, f) →
    ∃ a d, xs[i]? = some (.ref a) ∧ EvP [] H a C d [(f, v)] := by
  induction e with
  | nil => intro i C f h; simp at h
  | cons h _ ih =>
    intro i C f hi
    cases i with
    | zero =>
      simp at hi
      obtain ⟨rfl, rfl⟩ := hi
      exact ⟨_, _, rfl, h⟩
    | succ i => exact ih (by simpa using hi)
/-- with two fields -/
inductive Evs2 (H : Hp) (v w : V) : List V → List (Addr × Str × Str) → Prop
  | nil : Evs2 H v w [] []
  | cons {a C d : Addr} {f g : Str} {xs : List V} {cs : List (Addr × Str × Str)} : EvP [] H a C d [(g, w), (f, v)] → Evs2 H v w xs cs → Evs2 H v w (.ref a :: xs) ((C, f, g) :: cs)
theorem Evs2.mono {H H' : Hp} (k : Same H H') {v w : V} {xs : List V} {cs : List (Addr × Str × Str)} (e : Evs2 H v w xs cs) : Evs2 H' v w xs cs := by
  induction e with
  | nil => exact .nil
  | cons h _ ih => exact .cons (h.mono (fun _ z => z) k) ih
theorem Evs2.append {H : Hp} {v w : V} {xs ys : List V} {cs ds : List (Addr × Str × Str)} (e : Evs2 H v w xs cs) (g : Evs2 H v w ys ds) : Evs2 H v w (xs ++ ys) (cs ++ ds) := by
  induction e with
  | nil => exact g
  | cons h _ ih => exact .cons h ih
theorem Evs2.length {H : Hp} {v w : V} {xs : List V} {cs : List (Addr × Str × Str)} (e : Evs2 H v w xs cs) : xs.length = cs.length := by
  induction e with
  | nil => rfl
  | cons _ _ ih => rw [List.length_cons, List.length_cons, ih]
theorem Evs2.get {H : Hp} {v w : V} {xs : List V} {cs : List (Addr × Str × Str)} (e : Evs2 H v w xs cs) : ∀ {i : Nat} {C : Addr} {f g : Str}, cs[i]? = some (C, f, g) →
    ∃ a d, xs[i]? = some (.ref a) ∧ EvP [] H a C d [(g, w), (f, v)] := by
  induction e with
  | nil => intro i C f g h; simp at h
  | cons h _ ih =>
    intro i C f g hi
    cases i with
    | zero =>
      simp at hi
      obtain ⟨rfl, rfl, rfl⟩ := hi
      exact ⟨_, _, rfl, h⟩
    | succ i => exact ih (by simpa using hi)
theorem withEv_same {H : Hp} {a C d : Addr} {fs : List (Str × V)} (ha : H a = none) (hd : H d = none) : Same H (withEv H a C d fs) := fun b o e => by
  unfold withEv
  rw [upd_ne (ne_of_none e ha), upd_ne (ne_of_none e hd)]
  exact e
theorem withEv_ev {H : Hp} {a C d : Addr} {fs : List (Str × V)} (h : d ≠ a) : EvP [] (withEv H a C d fs) a C d fs where
  at_ := .inl upd_same
  tab := .inl (by unfold withEv; rw [upd_ne h, upd_same])
theorem upd_withEv {H : Hp} {a C d : Addr} {o : HO} {fs : List (Str × V)} : withEv (upd H a o) a C d fs = withEv H a C d fs := by
  funext b
  unfold withEv
  by_cases h : b = a
  · rw [h, upd_same, upd_same]
  · rw [upd_ne h, upd_ne h]
    by_cases h2 : b = d
    · rw [h2, upd_same, upd_same]
    · rw [upd_ne h2, upd_ne h2, upd_ne h]
/-! ### the classes -/
structure One (P : Program) (w : World) (K : PySem.W.Frag) (mg : Str → Option Value) (base : Heap) (x f : Str) : Prop where
  mgx : mg x = some (.ref (He.ga K x))
  T : OexC K (He.ga K x)
  iC : PySem.W.findIn K (.ref (He.ga K x)) "__init__" = some (some (.ref (He.ma K (He.ga K x) "__init__")))
  tI : PySem.W.typeIn K (.ref (He.ma K (He.ga K x) "__init__")) = some (.type "function")
  ini : ∃ fd, FnOk P w K mg base CX0 1 (He.ma K (He.ga K x) "__init__") fd ["self", f] (spI1 (He.ga K x) f) ∧
    KBn K fd ["self", f] 2 [] (fun us _ => us) (fun vs _ => vs) ∧ KBn K fd ["self", f] 1 [f] (fun us ws => us ++ ws) (fun vs zs => vs ++ zs)
structure Two (P : Program) (w : World) (K : PySem.W.Frag) (mg : Str → Option Value) (base : Heap) (x f g : Str) : Prop where
  mgx : mg x = some (.ref (He.ga K x))
  T : OexC K (He.ga K x)
  iC : PySem.W.findIn K (.ref (He.ga K x)) "__init__" = some (some (.ref (He.ma K (He.ga K x) "__init__")))
  tI : PySem.W.typeIn K (.ref (He.ma K (He.ga K x) "__init__")) = some (.type "function")
  ini : ∃ fd, FnOk P w K mg base CX0 1 (He.ma K (He.ga K x) "__init__") fd ["self", f, g] (spI2 (He.ga K x) f g) ∧
    KBn K fd ["self", f, g] 3 [] (fun us _ => us) (fun vs _ => vs) ∧ KBn K fd ["self", f, g] 1 [f, g] (fun us ws => us ++ ws) (fun vs zs => vs ++ zs) ∧
    KBn K fd ["self", f, g] 1 [g, f] (fun us ws => us ++ ws.reverse) (fun vs zs => vs ++ zs.reverse) ∧
    KBn K fd ["self", f, g] 2 [g] (fun us ws => us ++ ws) (fun vs zs => vs ++ zs)
/-- X(v), v in slot i: the new exception -/
def tMk1 (i : Nat) (C : Addr) (f : Str) : TE := fun σ H Q => ∃ v, σ[i]? = some (some v) ∧ ∀ a d H', Same H H' → EvP [] H' a C d [(f, v)] → Q (.ref a) H'
def tMk2 (i j : Nat) (C : Addr) (f g : Str) : TE := fun σ H Q => ∃ v w, σ[i]? = some (some v) ∧ σ[j]? = some (some w) ∧ ∀ a d H', Same H H' → EvP [] H' a C d [(g, w), (f, v)] → Q (.ref a) H'
section
variable {X : Cx} {x f g : Str} {i j : Nat} {v u : Expr} {p pos kp kp2 : Pos}
theorem pe_e1 (O : One X.prog X.w X.K X.mg X.base x f) (hr : Room 2 X.A) (hv : PE X v (tVar i)) (hg : Gl X x) (hdb : (x == ("__debug__" : Str)) = false := by decide)
    (he : starEach [v] X.env = (false, eval v X.env) :: starEach [] X.env := by rfl) (hpl : (backTo pos (starEach [] X.env)).any (·.1) = false := by rfl) :
    PE X (.Call (.Name x p) [v] [] pos) (tMk1 i (He.ga X.K x) f) := by
  obtain ⟨fd, F, b1, b2⟩ := O.ini
  refine (pe_mkEv O.T O.iC O.tI F hr b1 pass0 (by decide) hg O.mgx (pa_cons hv pa_nil he) hdb he hpl).mono fun σ H Q h => ?_
  obtain ⟨y, hy, q⟩ := h
  refine ⟨y, hy, rfl, rfl, fun a ha => ⟨a, y, rfl, upd_same, fun dx n ne => ⟨rfl, ?_⟩⟩⟩
  rw [upd_withEv]
  exact q a dx _ (withEv_same ha (by rwa [upd_ne ne] at n)) (withEv_ev ne)
theorem pe_e1K (O : One X.prog X.w X.K X.mg X.base x f) (hr : Room 2 X.A) (hv : PE X v (tVar i)) (hg : Gl X x) (hdb : (x == ("__debug__" : Str)) = false := by decide)
    (hall : (backToKw pos (keywordEach [⟨some f, v, kp⟩] X.env)).all (·.1.isSome) = true := by rfl)
    (hks : (backToKw pos (keywordEach [⟨some f, v, kp⟩] X.env)).filterMap (·.1) = [f] := by rfl)
    (hpl : ((backTo pos (starEach [] X.env)).any (·.1) || (backToKw pos (keywordEach [⟨some f, v, kp⟩] X.env)).any (·.1.isNone)) = false := by rfl) :
    PE X (.Call (.Name x p) [] [⟨some f, v, kp⟩] pos) (tMk1 i (He.ga X.K x) f) := by
  obtain ⟨fd, F, b1, b2⟩ := O.ini
  refine (pe_mkEvK O.T O.iC O.tI F hr b2 pass0 hg O.mgx (pk_cons hv pk_nil) hall hks hdb hpl).mono fun σ H Q h => ?_
  obtain ⟨y, hy, q⟩ := h
  refine ⟨y, hy, rfl, rfl, fun a ha => ⟨a, y, rfl, upd_same, fun dx n ne => ⟨rfl, ?_⟩⟩⟩
  rw [upd_withEv]
  exact q a dx _ (withEv_same ha (by rwa [upd_ne ne] at n)) (withEv_ev ne)
theorem pe_e2 (O : Two X.prog X.w X.K X.mg X.base x f g) (hr : Room 2 X.A) (hv : PE X v (tVar i)) (hu : PE X u (tVar j)) (hg : Gl X x) (hdb : (x == ("__debug__" : Str)) = false := by decide)
    (he : starEach [v, u] X.env = (false, eval v X.env) :: starEach [u] X.env := by rfl) (he2 : starEach [u] X.env = (false, eval u X.env) :: starEach [] X.env := by rfl)
    (hpl : (backTo pos (starEach [u] X.env)).any (·.1) = false := by rfl) : PE X (.Call (.Name x p) [v, u] [] pos) (tMk2 i j (He.ga X.K x) f g) := by
  obtain ⟨fd, F, b1, b2, b3, b4⟩ := O.ini
  refine (pe_mkEv O.T O.iC O.tI F hr b1 pass0 (by decide) hg O.mgx (pa_cons hv (pa_cons hu pa_nil he2) he) hdb he hpl).mono fun σ H Q h => ?_
  obtain ⟨y, z, hy, hz, q⟩ := h
  refine ⟨y, hy, z, hz, rfl, rfl, fun a ha => ⟨a, y, z, rfl, upd_same, fun dx n ne => ⟨rfl, ?_⟩⟩⟩
  rw [upd_withEv]
  exact q a dx _ (withEv_same ha (by rwa [upd_ne ne] at n)) (withEv_ev ne)
theorem pe_e2K (O : Two X.prog X.w X.K X.mg X.base x f g) (hr : Room 2 X.A) (hv : PE X v (tVar i)) (hu : PE X u (tVar j)) (hg : Gl X x) (hdb : (x == ("__debug__" : Str)) = false := by decide)
    (hall : (backToKw pos (keywordEach [⟨some f, v, kp⟩, ⟨some g, u, kp2⟩] X.env)).all (·.1.isSome) = true := by rfl)
    (hks : (backToKw pos (keywordEach [⟨some f, v, kp⟩, ⟨some g, u, kp2⟩] X.env)).filterMap (·.1) = [f, g] := by rfl)
    (hpl : ((backTo pos (starEach [] X.env)).any (·.1) || (backToKw pos (keywordEach [⟨some f, v, kp⟩, ⟨some g, u, kp2⟩] X.env)).any (·.1.isNone)) = false := by rfl) :
    PE X (.Call (.Name x p) [] [⟨some f, v, kp⟩, ⟨some g, u, kp2⟩] pos) (tMk2 i j (He.ga X.K x) f g) := by
  obtain ⟨fd, F, b1, b2, b3, b4⟩ := O.ini
  refine (pe_mkEvK O.T O.iC O.tI F hr b2 pass0 hg O.mgx (pk_cons hv (pk_cons hu pk_nil)) hall hks hdb hpl).mono fun σ H Q h => ?_
  obtain ⟨y, z, hy, hz, q⟩ := h
  refine ⟨y, hy, z, hz, rfl, rfl, fun a ha => ⟨a, y, z, rfl, upd_same, fun dx n ne => ⟨rfl, ?_⟩⟩⟩
  rw [upd_withEv]
  exact q a dx _ (withEv_same ha (by rwa [upd_ne ne] at n)) (withEv_ev ne)
theorem pe_e2R (O : Two X.prog X.w X.K X.mg X.base x f g) (hr : Room 2 X.A) (hv : PE X v (tVar i)) (hu : PE X u (tVar j)) (hg : Gl X x) (hdb : (x == ("__debug__" : Str)) = false := by decide)
    (hall : (backToKw pos (keywordEach [⟨some g, u, kp⟩, ⟨some f, v, kp2⟩] X.env)).all (·.1.isSome) = true := by rfl)
    (hks : (backToKw pos (keywordEach [⟨some g, u, kp⟩, ⟨some f, v, kp2⟩] X.env)).filterMap (·.1) = [g, f] := by rfl)
    (hpl : ((backTo pos (starEach [] X.env)).any (·.1) || (backToKw pos (keywordEach [⟨some g, u, kp⟩, ⟨some f, v, kp2⟩] X.env)).any (·.1.isNone)) = false := by rfl) :
    PE X (.Call (.Name x p) [] [⟨some g, u, kp⟩, ⟨some f, v, kp2⟩] pos) (tMk2 i j (He.ga X.K x) f g) := by
  obtain ⟨fd, F, b1, b2, b3, b4⟩ := O.ini
  refine (pe_mkEvK O.T O.iC O.tI F hr b3 pass0 hg O.mgx (pk_cons hu (pk_cons hv pk_nil)) hall hks hdb hpl).mono fun σ H Q h => ?_
  obtain ⟨y, z, hy, hz, q⟩ := h
  refine ⟨z, hz, y, hy, rfl, rfl, fun a ha => ⟨a, y, z, rfl, upd_same, fun dx n ne => ⟨rfl, ?_⟩⟩⟩
  rw [upd_withEv]
  exact q a dx _ (withEv_same ha (by rwa [upd_ne ne] at n)) (withEv_ev ne)
theorem pe_e2M (O : Two X.prog X.w X.K X.mg X.base x f g) (hr : Room 2 X.A) (hv : PE X v (tVar i)) (hu : PE X u (tVar j)) (hg : Gl X x) (hdb : (x == ("__debug__" : Str)) = false := by decide)
    (he : starEach [v] X.env = (false, eval v X.env) :: starEach [] X.env := by rfl) (hall : (backToKw pos (keywordEach [⟨some g, u, kp⟩] X.env)).all (·.1.isSome) = true := by rfl)
    (hks : (backToKw pos (keywordEach [⟨some g, u, kp⟩] X.env)).filterMap (·.1) = [g] := by rfl)
    (hpl : ((backTo pos (starEach [v] X.env)).any (·.1) || (backToKw pos (keywordEach [⟨some g, u, kp⟩] X.env)).any (·.1.isNone)) = false := by rfl) :
    PE X (.Call (.Name x p) [v] [⟨some g, u, kp⟩] pos) (tMk2 i j (He.ga X.K x) f g) := by
  obtain ⟨fd, F, b1, b2, b3, b4⟩ := O.ini
  refine (pe_mkEvM O.T O.iC O.tI F hr b4 pass0 (by decide) hg O.mgx (pa_cons hv pa_nil he) (pk_cons hu pk_nil) hall hks hdb he hpl).mono fun σ H Q h => ?_
  obtain ⟨y, z, hy, hz, q⟩ := h
  refine ⟨y, hy, z, hz, rfl, rfl, fun a ha => ⟨a, y, z, rfl, upd_same, fun dx n ne => ⟨rfl, ?_⟩⟩⟩
  rw [upd_withEv]
  exact q a dx _ (withEv_same ha (by rwa [upd_ne ne] at n)) (withEv_ev ne)
end
/-- rows of such calls -/
def tMks (i : Nat) (cs : List (Addr × Str)) : TA := fun σ H Q => ∃ v, σ[i]? = some (some v) ∧ ∀ xs H', Same H H' → Evs H' v xs cs → Q xs H'
def tMks2 (i j : Nat) (cs : List (Addr × Str × Str)) : TA := fun σ H Q => ∃ v w, σ[i]? = some (some v) ∧ σ[j]? = some (some w) ∧ ∀ xs H', Same H H' → Evs2 H' v w xs cs → Q xs H'
section
variable {X : Cx} {i j : Nat} {e : Expr} {es : List Expr} {C : Addr} {f g : Str} {cs : List (Addr × Str)} {ds : List (Addr × Str × Str)}
theorem pa_m0 : PA X [] (tMks i []) := pa_nil.mono fun σ H Q ⟨v, hv, q⟩ => q [] H (Same.refl H) .nil
theorem pa_m1 (he : PE X e (tMk1 i C f)) (h : PA X es (tMks i cs)) (hs : starEach (e :: es) X.env = (false, eval e X.env) :: starEach es X.env := by rfl) : PA X (e :: es) (tMks i ((C, f) :: cs)) := by
  refine (pa_cons he h hs).mono fun σ H Q ⟨v, hv, q⟩ => ?_
  exact ⟨v, hv, fun a d H1 k1 e1 => ⟨v, hv, fun xs H2 k2 e2 => q _ H2 (k1.trans k2) (.cons (e1.mono (fun _ z => z) k2) e2)⟩⟩
theorem pa_n0 : PA X [] (tMks2 i j []) := pa_nil.mono fun σ H Q ⟨v, w, hv, hw, q⟩ => q [] H (Same.refl H) .nil
theorem pa_n1 (he : PE X e (tMk2 i j C f g)) (h : PA X es (tMks2 i j ds)) (hs : starEach (e :: es) X.env = (false, eval e X.env) :: starEach es X.env := by rfl) : PA X (e :: es) (tMks2 i j ((C, f, g) :: ds)) := by
  refine (pa_cons he h hs).mono fun σ H Q ⟨v, w, hv, hw, q⟩ => ?_
  exact ⟨v, w, hv, hw, fun a d H1 k1 e1 => ⟨v, w, hv, hw, fun xs H2 k2 e2 => q _ H2 (k1.trans k2) (.cons (e1.mono (fun _ z => z) k2) e2)⟩⟩
end
end L2

/-! calls by keywords alone, C(..) whose __init__ may raise, several clauses with names -/
namespace L2
open PySem PySem.Spec PyProof.Rows
/-- C(..), what is raised is wished for at the slots -/
def tMakeS (C : Addr) (n m : Nat) (sp : Sp) (gV : List V → List V → List V) (E : St → XK) (t tk : TA) : TE := fun σ H Q => t σ H fun vs H1 => tk σ H1 fun zs H2 => vs.length = n ∧ zs.length = m ∧
  ∀ x dx, H2 x = none → H2 dx = none → dx ≠ x → sp (gV (.ref x :: vs) zs) (upd (upd H2 dx (.own x)) x (.ins C dx [])) (fun v H3 => v = .non ∧ Q (.ref x) H3) (E σ)
/-- f(..) by values and keywords -/
def tCallKS (n m : Nat) (sp : Sp) (gV : List V → List V → List V) (E : St → XK) (t tk : TA) : TE := fun σ H Q => t σ H fun vs H1 => tk σ H1 fun zs H2 => vs.length = n ∧ zs.length = m ∧ sp (gV vs zs) H2 Q (E σ)
section
variable {X : Cx} {CX : CXT} {k n : Nat} {f C : Addr} {fd : FuncData} {ps ks : List Str} {sp : Sp} {E : St → XK} {x : Str} {p pos : Pos} {e : Expr} {es : List Expr} {kws : List Keyword} {t tk : TA} {g : List Value → List Value → List Value} {gV : List V → List V → List V}
theorem run_makeS {pins : List (Addr × Obj)} {σ : St} {H : Hp} {s : Shared} {Q : VK} {E : XK} {us ws : List Value} {vs zs : List V} (M : Mk X.K C f) (F : FnOk X.prog X.w X.K X.mg X.base CX k f fd ps sp) (hr : Room (k + 1) X.A) (hb : KBn X.K fd ps (n + 1) ks g gV)
    (hx : PassesAt CX X σ E) (I : Inv X pins σ H s) (r : Vals vs us) (rz : Vals zs ws) (l1 : vs.length = n) (l2 : zs.length = ks.length)
    (h : ∀ x dx, H x = none → H dx = none → dx ≠ x → sp (gV (.ref x :: vs) zs) (upd (upd H dx (.own x)) x (.ins C dx [])) (fun v H2 => v = .non ∧ Q (.ref x) H2) E) :
    wpAny (model X.prog X.w) X.A (call (.ref C) us (ks.zip ws)) (EP X pins σ Q) X.xe s := by
  have hq := h (s.heap.objs.size + 1) s.heap.objs.size (I.hok.fresh (Nat.le_succ _)) (I.hok.fresh (Nat.le_refl _)) (Nat.ne_of_lt (Nat.lt_succ_self _))
  have I2 := Inv.made (C := C) I
  have r1 : Vals (V.ref (s.heap.objs.size + 1) :: vs) (Value.ref (s.heap.objs.size + 1) :: us) := .cons rfl r
  have r2 := hb.rel r1 rz
  have e1 : (Value.ref (s.heap.objs.size + 1) :: us).length = n + 1 := r1.length.symm.trans (congrArg Nat.succ l1)
  have e2 : ws.length = ks.length := rz.length.symm.trans l2
  refine wpAny_call (make_map (f := f) I.kIn M.makes M.init (beq_iff_eq.mp M.fn) (codeAny_mono (F.run _ X.stack _ _ ⟨Value.ref (s.heap.objs.size + 1) :: us, ks.zip ws⟩ (g (Value.ref (s.heap.objs.size + 1) :: us) ws) _ _ E (hr.make C us (ks.zip ws))
    (I2.env0.make C us (ks.zip ws)) (hb.to _ (Value.ref (s.heap.objs.size + 1) :: us) ws I2.kIn e1 e2) r2 hq) fun r s' hq' => ?_))
  cases r with
  | error e => exact hx pins _ _ e s' I2 hq'
  | ok fl =>
    cases fl with
    | ret u =>
      obtain ⟨v, H', I3, rv, ev, q3⟩ := I2.after hq'
      subst ev
      exact ⟨rv, ⟨V.ref (s.heap.objs.size + 1), H', I3, rfl, q3⟩⟩
    | next => exact False.elim hq'
    | brk => exact False.elim hq'
    | cont => exact False.elim hq'
theorem pe_makeS (M : Mk X.K C f) (F : FnOk X.prog X.w X.K X.mg X.base CX k f fd ps sp) (hr : Room (k + 1) X.A) (hg : Gl X x) (hm : X.mg x = some (.ref C)) (hb : KBn X.K fd ps (n + 1) [] g gV) (hx : ∀ σ, PassesAt CX X σ (E σ))
    (ha : PA X (e :: es) t) (hdb : (x == ("__debug__" : Str)) = false := by decide) (he : starEach (e :: es) X.env = (false, eval e X.env) :: starEach es X.env := by rfl) (hpl : (backTo pos (starEach es X.env)).any (·.1) = false := by rfl) :
    PE X (.Call (.Name x p) (e :: es) [] pos) (tMakeS C n 0 sp gV E t tNil) := by
  refine ⟨fun pins s σ H Q I h => ?_⟩
  refine wpAny_Call_Name_kw (ld_glob I hg hm ?_ hdb)
  refine PySem.W.callWith_K (h₀ := X.base) I.ok.mod.kin M.kp (thn (ha.run pos pins s σ H _ I h) fun us s1 ⟨vs, H1, I1, r, l1, l2, q⟩ => ⟨I1.kIn, ?_⟩) he hpl
  exact run_makeS (ks := []) (ws := []) (zs := []) M F hr hb (hx σ) I1 r .nil l1 rfl q
theorem pe_makeSK (M : Mk X.K C f) (F : FnOk X.prog X.w X.K X.mg X.base CX k f fd ps sp) (hr : Room (k + 1) X.A) (hg : Gl X x) (hm : X.mg x = some (.ref C)) (hb : KBn X.K fd ps 1 ks g gV) (hx : ∀ σ, PassesAt CX X σ (E σ)) (hkw : PK X kws tk)
    (hall : (backToKw pos (keywordEach kws X.env)).all (·.1.isSome) = true := by rfl) (hks : (backToKw pos (keywordEach kws X.env)).filterMap (·.1) = ks := by rfl) (hdb : (x == ("__debug__" : Str)) = false := by decide)
    (hpl : ((backTo pos (starEach [] X.env)).any (·.1) || (backToKw pos (keywordEach kws X.env)).any (·.1.isNone)) = false := by rfl) :
    PE X (.Call (.Name x p) [] kws pos) (tMakeS C 0 ks.length sp gV E tNil tk) := by
  refine ⟨fun pins s σ H Q I h => ?_⟩
  refine wpAny_Call_Name_kw (ld_glob I hg hm ?_ hdb)
  refine PySem.W.callWith_KW0 (h₀ := X.base) I.ok.mod.kin M.kp hall ?_ hpl
  refine thn (hkw.run pos pins s σ H _ I h) fun ws s2 ⟨zs, H2, I2, rz, l1, l2, q2⟩ => ⟨I2.kIn, ?_⟩
  rw [hks]
  exact run_makeS (us := []) (vs := []) M F hr hb (hx σ) I2 .nil rz rfl l2 q2
theorem run_fnKS {pins : List (Addr × Obj)} {σ : St} {H : Hp} {s : Shared} {Q : VK} {E : XK} {us ws : List Value} {vs zs : List V} (F : FnOk X.prog X.w X.K X.mg X.base CX k f fd ps sp) (hr : Room k X.A) (hb : KBn X.K fd ps n ks g gV)
    (hx : PassesAt CX X σ E) (I : Inv X pins σ H s) (r : Vals vs us) (rz : Vals zs ws) (l1 : vs.length = n) (l2 : zs.length = ks.length) (h : sp (gV vs zs) H Q E) :
    wpAny (model X.prog X.w) X.A (call (.ref f) us (ks.zip ws)) (EP X pins σ Q) X.xe s := by
  have r2 := hb.rel r rz
  have e1 : us.length = n := r.length.symm.trans l1
  have e2 : ws.length = ks.length := rz.length.symm.trans l2
  refine wpAny_call (codeAny_mono (F.run X.A X.stack s H ⟨us, ks.zip ws⟩ (g us ws) (gV vs zs) Q E hr I.env0 (hb.to s us ws I.kIn e1 e2) r2 h) fun r s2 h2 => ?_)
  cases r with
  | error er => exact hx pins H s er s2 I h2
  | ok fl =>
    cases fl with
    | ret u => exact I.after h2
    | next => exact h2.elim
    | brk => exact h2.elim
    | cont => exact h2.elim
/-- f(k = v, ..) -/
theorem pe_callKS0 (F : FnOk X.prog X.w X.K X.mg X.base CX k f fd ps sp) (hr : Room k X.A) (hg : Gl X x) (hm : X.mg x = some (.ref f)) (hk : PySem.W.keepIn X.K (.ref f) = true) (hb : KBn X.K fd ps 0 ks g gV) (hx : ∀ σ, PassesAt CX X σ (E σ)) (hkw : PK X kws tk)
    (hall : (backToKw pos (keywordEach kws X.env)).all (·.1.isSome) = true := by rfl) (hks : (backToKw pos (keywordEach kws X.env)).filterMap (·.1) = ks := by rfl) (hdb : (x == ("__debug__" : Str)) = false := by decide)
    (hpl : ((backTo pos (starEach [] X.env)).any (·.1) || (backToKw pos (keywordEach kws X.env)).any (·.1.isNone)) = false := by rfl) :
    PE X (.Call (.Name x p) [] kws pos) (tCallKS 0 ks.length sp gV E tNil tk) := by
  refine ⟨fun pins s σ H Q I h => ?_⟩
  refine wpAny_Call_Name_kw (ld_glob I hg hm ?_ hdb)
  refine PySem.W.callWith_KW0 (h₀ := X.base) I.ok.mod.kin hk hall ?_ hpl
  refine thn (hkw.run pos pins s σ H _ I h) fun ws s2 ⟨zs, H2, I2, rz, l1, l2, q2⟩ => ⟨I2.kIn, ?_⟩
  rw [hks]
  exact run_fnKS (us := []) (vs := []) F hr hb (hx σ) I2 .nil rz l1 l2 q2
/-- f(e, .., k = v, ..) -/
theorem pe_callKS (F : FnOk X.prog X.w X.K X.mg X.base CX k f fd ps sp) (hr : Room k X.A) (hg : Gl X x) (hm : X.mg x = some (.ref f)) (hk : PySem.W.keepIn X.K (.ref f) = true) (hb : KBn X.K fd ps n ks g gV) (hx : ∀ σ, PassesAt CX X σ (E σ)) (ha : PA X (e :: es) t) (hkw : PK X kws tk)
    (hall : (backToKw pos (keywordEach kws X.env)).all (·.1.isSome) = true := by rfl) (hks : (backToKw pos (keywordEach kws X.env)).filterMap (·.1) = ks := by rfl) (hdb : (x == ("__debug__" : Str)) = false := by decide)
    (he : starEach (e :: es) X.env = (false, eval e X.env) :: starEach es X.env := by rfl) (hpl : ((backTo pos (starEach (e :: es) X.env)).any (·.1) || (backToKw pos (keywordEach kws X.env)).any (·.1.isNone)) = false := by rfl) :
    PE X (.Call (.Name x p) (e :: es) kws pos) (tCallKS n ks.length sp gV E t tk) := by
  refine ⟨fun pins s σ H Q I h => ?_⟩
  refine wpAny_Call_Name_kw (ld_glob I hg hm ?_ hdb)
  refine PySem.W.callWith_KW (h₀ := X.base) I.ok.mod.kin hk hall (thn (ha.run pos pins s σ H _ I h) fun us s1 ⟨vs, H1, I1, r, q⟩ => ?_) hpl he
  refine thn (hkw.run pos pins s1 σ H1 _ I1 q) fun ws s2 ⟨zs, H2, I2, rz, l1, l2, q2⟩ => ⟨I2.kIn, ?_⟩
  rw [hks]
  exact run_fnKS F hr hb (hx σ) I2 r rz l1 l2 q2
end
end L2
namespace L2N
open PySem PySem.Spec PyProof.Rows L2
/-- what the clauses wish, each with its name's slot -/
def wManyAs (K : PySem.W.Frag) (Wout : WX) (D : Ends) : List (Value × Nat × (Addr → Value → Option Addr → TS)) → WX
  | [] => Wout
  | (c, i, ts) :: r => wAs K c i ts (wManyAs K Wout D r) D
inductive HdsAs (X : Cx) : List ExceptHandler → List (Value × Nat × (Addr → Value → Option Addr → TS)) → Prop
  | nil : HdsAs X [] []
  | cons {x n : Str} {c : Value} {i : Nat} {ts : Addr → Value → Option Addr → TS} {b₀ : Stmt} {suite : List Stmt} {np pos' : Pos} {hds : List ExceptHandler} {l : List (Value × Nat × (Addr → Value → Option Addr → TS))} (hc : Names X x c)
      (hi : X.N[i]? = some n) (hln : X.env.kindOf n = some .local)
      (hsu : ∀ (a : Addr) (oe : Obj) (cls : Value) (d : Option Addr) (pn : List (Addr × Obj)), Zn cls d oe → (∃ vs, oe.data = .fields vs) → PSs (X.suite a ((a, oe) :: pn)) (b₀ :: suite) (ts a cls d)) (r : HdsAs X hds l) :
      HdsAs X (.ExceptHandler (some (.Name x np)) (some n) (b₀ :: suite) pos' :: hds) ((c, i, ts) :: l)
section
variable {X : Cx} {body : List Stmt} {h₀ : ExceptHandler} {hds : List ExceptHandler} {l : List (Value × Nat × (Addr → Value → Option Addr → TS))} {pos : Pos} {tb : WX → TS} {Wout : WX}
theorem ps_try_manyAs (hs : X.stack = X.env :: X.outer) (hf : X.env.frame = some X.env.locals) (hN : X.N.Nodup) (tk : Takes X Wout)
    (hb : ∀ (W : WX) (pn : List (Addr × Obj)) (xe : Value → Shared → Prop), Takes (X.tr pn xe) W → PassesOwn (model X.prog X.w) X.A X.env xe → PSs (X.tr pn xe) body (tb W))
    (hh : HdsAs X (h₀ :: hds) l) : PS X (.Try body (h₀ :: hds) [] [] pos) (fun D σ H => tb (wManyAs X.K Wout D l) D σ H) := by
  refine ⟨fun pins s σ H D I h => ?_⟩
  have ok := I.ok
  have hfr : X.A.frames = some (X.env :: X.outer) := by rw [ok.frames, hs]
  refine wpAny_Try_except ?_
  refine wpAny_mono ((hb (wManyAs X.K Wout D l) (X.pn ++ pins) (fun e s₁ => wpAny (model X.prog X.w) X.A (noteFrame e X.env) (fun _ s₂ => wpAny (model X.prog X.w) X.A (setFlight e none) (fun _ s₃ =>
    wpAny (model X.prog X.w) X.A (handleBy e X.env (h₀ :: hds)) (SP X pins D) X.xe s₃) X.xe s₂) X.xe s₁) (fun u s' xx => ?_) PassesOwn.looking).run [] s σ H D (I.toTry _) h) (fun f s1 hsp => ?_) (fun e s1 he => he)
  · -- the catch
    obtain ⟨a, B, sI, pins', σ', H', cls, d, rfl, J', nb, up, sky, na, os, ag, w⟩ := xx
    have J : Inv X pins σ' H' sI := J'.ofTry ok
    have sky' : Sky B (X.env :: X.outer) a (Zn cls d) X.env.locals s'.heap := by rw [← hs]; exact sky
    show wpAny (model X.prog X.w) X.A (noteFrame (.ref a) X.env) _ _ _
    refine Sky.land Zn.steady hfr hf sky' fun h3 fl3 up3 => ?_
    have J3 : Inv X pins σ' H' { s' with heap := h3 } := J.landed nb fl3.1 (up.trans up3) os ag
    obtain ⟨oe3, vs3, he3, hz3, hd3⟩ := fl3.there
    have notFr : ∀ {h : Heap} {o : Obj} {vs : Array Value}, h.FunFrames B (X.env :: X.outer) → h.get? a = some o → o.data = .fields vs → a ∉ frs (X.env :: X.outer) := fun {h o vs} ff e dd hm => by
      obtain ⟨_, o', e', hnf⟩ := ff.mem hm
      rw [e] at e'; cases e'
      exact hnf _ dd
    have nfr := notFr fl3.2.2.1 he3 hd3
    have nL : a ≠ X.env.locals := fun z => nfr (List.mem_filterMap.mpr ⟨X.env, List.mem_cons_self, by rw [hf, z]⟩)
    have nF : a ∉ X.fs := fun hm => by
      obtain ⟨e, he, q⟩ := List.mem_filterMap.mp hm
      exact nfr (List.mem_filterMap.mpr ⟨e, List.mem_cons_of_mem _ he, q⟩)
    have S3 := J3.suite he3 hd3 na nL nF
    have go : ∀ {hds' : List ExceptHandler} {l' : List (Value × Nat × (Addr → Value → Option Addr → TS))}, HdsAs X hds' l' → wManyAs X.K Wout D l' cls d σ' H' →
        wpAny (model X.prog X.w) X.A (handleBy (.ref a) X.env hds') (SP X pins D) X.xe { s' with heap := h3 } := by
      intro hds' l' hk
      induction hk with
      | nil =>
        intro w
        refine wpAny_handleBy_nil ?_
        obtain ⟨k1, k2, k3, oe, vs, T, oT, ts', he, hz, hd, h1, hr⟩ := id fl3
        unfold PySem.passOn
        refine wpAny_bind (wpAny_field he hd h1 ?_)
        rw [if_neg (show ¬ ((Value.ref T == Value.none) = true) from by simp)]
        have fin : wpAny (model X.prog X.w) X.A (setFlight (.ref a) X.env.frame) (fun _ s4 => wpAny (model X.prog X.w) X.A (throw (.ref a) : Sem Flow) (SP X pins D) X.xe s4) X.xe { s' with heap := h3 } := by
          rw [hf]
          refine HandSPX.setFlight_upZ fl3 fun h4 hh4 up4 => wpAny_throw (tk _ _ ?_)
          exact ⟨a, B, sI, pins, σ', H', cls, d, rfl, J, nb, (up.trans up3).trans up4, .inr (.inr (by rw [hs]; exact hh4)), na, os, ag, w⟩
        first
          | exact wpAny_bind (wpAny_pure (wpAny_bind fin))
          | exact wpAny_bind fin
      | @cons x n c i ts b₀ suite np pos' hds2 l2 hc hi hln hsu r ih =>
        intro w
        obtain ⟨b, hb1, hyes, hno⟩ := w
        have hloc : Loc X.env.scope n := .inl hln
        refine wpAny_handleBy_cons (codeAny_handlers_test ?_) (by intro q; cases q)
        have LT : PySem.W.Looks (model X.prog X.w) h3 (typeOf (.ref a)) cls := fun A Q E s k q => wpAny_typeOf_ref (k _ _ he3) (by rw [hz3.1]; exact q)
        have LM := PySem.W.exm_one (M := model X.prog X.w) (J3.kIn) LT hb1
        have test : ∀ {Q : Value → Shared → Prop} {E : Value → Shared → Prop}, Q c { s' with heap := h3 } → wpAny (model X.prog X.w) (X.A.mark (some (.ref a))) (eval (.Name x np) X.env) Q E { s' with heap := h3 } := fun {Q E} q => by
          obtain ⟨hg, hdbg, hm | ⟨hm, hv, hnn⟩⟩ := hc
          · exact ld_glob (X := X.suite a ((a, oe3) :: (X.pn ++ pins))) S3 hg hm q hdbg
          · exact ld_blt (X := X.suite a ((a, oe3) :: (X.pn ++ pins))) S3 hg hm hv q hnn hdbg
        refine test (LM.here ?_)
        cases b with
        | true =>
          refine codeAny_handlers_suite_as ?_
          refine HandSPX.lands_againZ fl3 fun h4 fl4 up4 => ?_
          have J4 : Inv X pins σ' H' { s' with heap := h4 } := J.landed nb fl4.1 ((up.trans up3).trans up4) os ag
          obtain ⟨oe4, vs4, he4, hz4, hd4⟩ := fl4.there
          have S4 := J4.suite he4 hd4 na nL nF
          refine store_ok (X := X.suite a ((a, oe4) :: (X.pn ++ pins))) (v := .ref a) S4 hN hi hloc rfl (fun s5 S5 => ?_) (.inr hln)
          refine wpAny_mono ((hsu a oe4 cls d (X.pn ++ pins) hz4 ⟨_, hd4⟩).run [] s5 _ H' _ S5 (hyes rfl a na)) (fun f s6 hsp => ?_) (fun _ _ z => False.elim z)
          have end_ : ∀ {σ6 : St} {H6 : Hp} {Q : Shared → Prop}, Inv (X.suite a ((a, oe4) :: (X.pn ++ pins))) [] σ6 H6 s6 → (∀ s7, Inv X pins (σ6.set i none) H6 s7 → Q s7) →
              wpAny (model X.prog X.w) X.A (do bindName X.env n .none; unbindBehindTheSuite X.env n pos') (fun _ s7 => Q s7) X.xe s6 := fun {σ6 H6 Q} S6 hq => gone_ok (S6.unsuite ok) hN hi hln hq
          cases f with
          | next =>
            obtain ⟨σ6, H6, S6, q6⟩ := hsp
            exact end_ S6 fun s7 J7 => ⟨_, _, J7, q6⟩
          | brk =>
            obtain ⟨σ6, H6, S6, q6⟩ := hsp
            exact end_ S6 fun s7 J7 => ⟨_, _, J7, q6⟩
          | cont =>
            obtain ⟨σ6, H6, S6, q6⟩ := hsp
            exact end_ S6 fun s7 J7 => ⟨_, _, J7, q6⟩
          | ret u =>
            obtain ⟨v6, σ6, H6, S6, r6, q6⟩ := hsp
            exact end_ S6 fun s7 J7 => ⟨_, _, _, J7, r6, q6⟩
        | false =>
          show wpAny _ X.A (handleBy (.ref a) X.env hds2) _ _ _
          exact ih (hno rfl)
    exact go hh w
  · cases f with
    | next =>
      obtain ⟨σ', H', J', q⟩ := hsp
      exact wpAny_execs_nil ⟨σ', H', J'.ofTry ok, q⟩
    | brk =>
      obtain ⟨σ', H', J', q⟩ := hsp
      exact ⟨σ', H', J'.ofTry ok, q⟩
    | cont =>
      obtain ⟨σ', H', J', q⟩ := hsp
      exact ⟨σ', H', J'.ofTry ok, q⟩
    | ret u =>
      obtain ⟨v, σ', H', J', r, q⟩ := hsp
      exact ⟨v, σ', H', J'.ofTry ok, r, q⟩
end
end L2N

/-! raise C(..), a class with an __init__ of its own, values by name too -/
namespace L2
open PySem PySem.Spec PyProof.Rows
/-- what is asked of C(..) that is raised -/
def tMkN (C : Addr) (n m : Nat) (sp : Sp) (gV : List V → List V → List V) (t tk : TA) : St → Hp → XK → Prop := fun σ H Q =>
  t σ H fun vs H1 => tk σ H1 fun zs H2 => vs.length = n ∧ zs.length = m ∧ ∀ a, H2 a = none → sp (gV (.ref a :: vs) zs) (upd H2 a (exo a C none))
    (fun v H3 => v = .non ∧ ∃ (d : Addr) (fs : List (Str × V)), H3 a = some (exo a C (some d)) ∧ H3 d = some (exd d fs) ∧ H2 d = none ∧ Q (.ref C) (some d) (upd (del H3 a) d (.xd fs))) fun _ _ _ => False
section
variable {X : Cx} {CX : CXT} {k n : Nat} {C fI : Addr} {fd : FuncData} {ps ks : List Str} {sp : Sp} {x : Str} {p pos : Pos}
variable {e : Expr} {es : List Expr} {kws : List Keyword} {t tk : TA} {g : List Value → List Value → List Value} {gV : List V → List V → List V}
theorem run_mkN {pins : List Pin} {σ : St} {H : Hp} {s : Shared} {Q : XK} {us ws : List Value} {vs zs : List V} (T : OexC X.K C)
    (iC : PySem.W.findIn X.K (.ref C) "__init__" = some (some (.ref fI))) (tI : PySem.W.typeIn X.K (.ref fI) = some (.type "function"))
    (F : FnOk X.prog X.w X.K X.mg X.base CX k fI fd ps sp) (hr : Room (k + 1) X.A) (hb : KBn X.K fd ps (n + 1) ks g gV)
    (hx : Passes CX X fun _ _ _ => False) (I : Inv X pins σ H s) (r : Vals vs us) (rz : Vals zs ws) (l1 : vs.length = n)
    (l2 : zs.length = ks.length) (hn : n ≤ 1000)
    (h : ∀ a, H a = none → sp (gV (.ref a :: vs) zs) (upd H a (exo a C none)) (fun v H3 => v = .non ∧ ∃ (d : Addr) (fs : List (Str × V)), H3 a = some (exo a C (some d)) ∧ H3 d = some (exd d fs) ∧ H d = none ∧ Q (.ref C) (some d) (upd (del H3 a) d (.xd fs))) fun _ _ _ => False) :
    wpAny (model X.prog X.w) X.A (call (.ref C) us (ks.zip ws)) (L2N.MkP X pins σ Q) X.xe s := by
  obtain ⟨nm, q, N, bs, bm, sn, sub, ab, col, dd, k0, k1, k2, k3, k5, hC, hbm⟩ := T.cls
  obtain ⟨hp, gs, dr, tk0, os⟩ := s
  have le1 : hp.objs.size ≤ hp.objs.size + 1 := Nat.le_succ _
  have hq := h (hp.objs.size + 1) (I.hok.fresh le1)
  have up : ∀ b o, hp.get? b = some o → (PySem.MlE.withNew hp C us).get? b = some o :=
    fun b o e => Heap.get?_push_of_some _ (Heap.get?_push_of_some _ e)
  have atE : (PySem.MlE.withNew hp C us).get? (hp.objs.size + 1) = some (PySem.HandSPX.excO C hp.objs.size) := by heap_get
  have I2 : Inv X pins σ (upd H (hp.objs.size + 1) (exo (hp.objs.size + 1) C none)) ⟨PySem.MlE.withNew hp C us, gs, dr, tk0, os⟩ :=
    I.laid (t' := tk0) (a := hp.objs.size + 1) (o := exo (hp.objs.size + 1) C none) (h' := PySem.MlE.withNew hp C us) up le1 (exo_ok atE)
  have r1 : Vals (V.ref (hp.objs.size + 1) :: vs) (Value.ref (hp.objs.size + 1) :: us) := .cons rfl r
  have r2 := hb.rel r1 rz
  have e1 : (Value.ref (hp.objs.size + 1) :: us).length = n + 1 := r1.length.symm.trans (congrArg Nat.succ l1)
  have e2 : ws.length = ks.length := rz.length.symm.trans l2
  have hus : us.length ≤ sizeLine := by
    have z := r.length
    rw [sizeLine_eq]
    omega
  refine wpAny_call (PySem.MlE.callK PySem.F.excBase_ValueError (fun Y => PySem.HandSPX.refsVE_contains Y bm hbm)
    (I.kIn _ _ hC) (PySem.W.looks_findIn I.kIn iC) (fun self => PySem.W.bind_fn I.kIn self tI) hus ?_)
  refine codeAny_mono (F.run _ X.stack _ _ ⟨Value.ref (hp.objs.size + 1) :: us, ks.zip ws⟩ (g (Value.ref (hp.objs.size + 1) :: us) ws)
    _ _ (fun _ _ _ => False) (hr.make C us (ks.zip ws)) (I2.env0.make C us (ks.zip ws))
    (hb.to _ (Value.ref (hp.objs.size + 1) :: us) ws I2.kIn e1 e2) r2 hq) fun r s1 h1 => ?_
  cases r with
  | error er => exact hx pins σ _ _ er s1 I2 h1
  | ok fl =>
    cases fl with
    | ret u =>
      obtain ⟨v, H3, os2, bare2, un2, hok2, rv, ev, d, fs, ea, ed, hd1, q2⟩ := h1
      subst ev
      obtain ⟨h2, g2, d2, t2, os'⟩ := s1
      obtain ⟨t0, G, J, kG, ge, hoe, na⟩ := mk_end0 (d2 := d2) (t2 := t2) I le1 up un2 hok2 os2 bare2 ea ed hd1
      refine ⟨rv, ⟨hp.objs.size + 1, _, _, ⟨G, g2, d2, t2, os'⟩, _, .ref C, some d, rfl, J, kG, ge, hoe, ⟨rfl, rfl, fun vs hv => ?_⟩, rfl, rfl, na, rfl, bare2, raises_own T.exC T.tyC, q2⟩⟩
      cases hv
      rfl
    | next => exact False.elim h1
    | brk => exact False.elim h1
    | cont => exact False.elim h1
theorem pmk_mkN (T : OexC X.K C) (iC : PySem.W.findIn X.K (.ref C) "__init__" = some (some (.ref fI)))
    (tI : PySem.W.typeIn X.K (.ref fI) = some (.type "function")) (FI : FnOk X.prog X.w X.K X.mg X.base CX k fI fd ps sp) (hr : Room (k + 1) X.A)
    (hb : KBn X.K fd ps (n + 1) [] g gV) (hx : Passes CX X fun _ _ _ => False) (hn : n ≤ 1000) (hg : Gl X x) (hm : X.mg x = some (.ref C)) (ha : PA X (e :: es) t)
    (hdb : (x == ("__debug__" : Str)) = false := by decide) (he : starEach (e :: es) X.env = (false, eval e X.env) :: starEach es X.env := by rfl)
    (hpl : (backTo pos (starEach es X.env)).any (·.1) = false := by rfl) : L2N.PMk X (.Call (.Name x p) (e :: es) [] pos) (tMkN C n 0 sp gV t tNil) := by
  intro pins s σ H Q I h
  refine wpAny_Call_Name_kw (ld_glob I hg hm ?_ hdb)
  refine PySem.W.callWith_K (h₀ := X.base) I.ok.mod.kin T.kC ?_ he hpl
  refine thn (ha.run pos pins s σ H _ I h) fun us s1 ⟨vs, H1, I1, r, l1, l2, q⟩ => ⟨I1.kIn, ?_⟩
  exact run_mkN (ks := []) (ws := []) (zs := []) T iC tI FI hr hb hx I1 r .nil l1 rfl hn q
theorem pmk_mkNK (T : OexC X.K C) (iC : PySem.W.findIn X.K (.ref C) "__init__" = some (some (.ref fI)))
    (tI : PySem.W.typeIn X.K (.ref fI) = some (.type "function")) (FI : FnOk X.prog X.w X.K X.mg X.base CX k fI fd ps sp) (hr : Room (k + 1) X.A)
    (hb : KBn X.K fd ps 1 ks g gV) (hx : Passes CX X fun _ _ _ => False) (hg : Gl X x) (hm : X.mg x = some (.ref C)) (hkw : PK X kws tk)
    (hall : (backToKw pos (keywordEach kws X.env)).all (·.1.isSome) = true := by rfl)
    (hks : (backToKw pos (keywordEach kws X.env)).filterMap (·.1) = ks := by rfl) (hdb : (x == ("__debug__" : Str)) = false := by decide)
    (hpl : ((backTo pos (starEach [] X.env)).any (·.1) || (backToKw pos (keywordEach kws X.env)).any (·.1.isNone)) = false := by rfl) :
    L2N.PMk X (.Call (.Name x p) [] kws pos) (tMkN C 0 ks.length sp gV tNil tk) := by
  intro pins s σ H Q I h
  refine wpAny_Call_Name_kw (ld_glob I hg hm ?_ hdb)
  refine PySem.W.callWith_KW0 (h₀ := X.base) I.ok.mod.kin T.kC hall ?_ hpl
  refine thn (hkw.run pos pins s σ H _ I h) fun ws s2 ⟨zs, H2, I2, rz, l1, l2, q2⟩ => ⟨I2.kIn, ?_⟩
  rw [hks]
  exact run_mkN (us := []) (vs := []) T iC tI FI hr hb hx I2 .nil rz rfl l2 (Nat.zero_le _) q2
end
theorem pmk_mono {X : Cx} {e : Expr} {t u : St → Hp → XK → Prop} (h : L2N.PMk X e t) (k : ∀ σ H Q, u σ H Q → t σ H Q) : L2N.PMk X e u := fun pins s σ H Q I q => h pins s σ H Q I (k _ _ _ q)
/-- X(v), v in slot i, that is raised -/
def tRs1 (i : Nat) (C : Addr) (f : Str) : St → Hp → XK → Prop := fun σ H Q => ∃ v, σ[i]? = some (some v) ∧ ∀ d H', Same H H' → H' d = some (.xd [(f, v)]) → Q (.ref C) (some d) H'
def tRs2 (i j : Nat) (C : Addr) (f g : Str) : St → Hp → XK → Prop := fun σ H Q => ∃ v w, σ[i]? = some (some v) ∧ σ[j]? = some (some w) ∧ ∀ d H', Same H H' → H' d = some (.xd [(g, w), (f, v)]) → Q (.ref C) (some d) H'
theorem raised_at {H : Hp} {a C d : Addr} {fs : List (Str × V)} {Q : XK} (ha : H a = none) (n : upd H a (exo a C none) d = none) (ne : d ≠ a) (q : ∀ d H', Same H H' → H' d = some (.xd fs) → Q (.ref C) (some d) H') :
    ∃ (d' : Addr) (fs' : List (Str × V)), withEv (upd H a (exo a C none)) a C d fs a = some (exo a C (some d')) ∧ withEv (upd H a (exo a C none)) a C d fs d' = some (exd d' fs') ∧ H d' = none ∧
      Q (.ref C) (some d') (upd (del (withEv (upd H a (exo a C none)) a C d fs) a) d' (.xd fs')) := by
  rw [upd_withEv]
  have n2 : H d = none := by rwa [upd_ne ne] at n
  refine ⟨d, fs, by unfold withEv; rw [upd_same], by unfold withEv; rw [upd_ne ne, upd_same], n2, q _ _ (fun b o z => ?_) upd_same⟩
  have hb : b ≠ a := ne_of_none z ha
  have hd : b ≠ d := ne_of_none z n2
  unfold withEv
  rw [upd_ne hd, del_ne hb, upd_ne hb, upd_ne hd]
  exact z
section
variable {X : Cx} {x f g : Str} {i j : Nat} {v u : Expr} {p pos kp kp2 : Pos}
theorem pmk_e1 (O : One X.prog X.w X.K X.mg X.base x f) (hr : Room 2 X.A) (hv : PE X v (tVar i)) (hg : Gl X x) (hdb : (x == ("__debug__" : Str)) = false := by decide)
    (he : starEach [v] X.env = (false, eval v X.env) :: starEach [] X.env := by rfl) (hpl : (backTo pos (starEach [] X.env)).any (·.1) = false := by rfl) :
    L2N.PMk X (.Call (.Name x p) [v] [] pos) (tRs1 i (He.ga X.K x) f) := by
  obtain ⟨fd, F, b1, b2⟩ := O.ini
  refine pmk_mono (pmk_mkN O.T O.iC O.tI F hr b1 pass0 (by decide) hg O.mgx (pa_cons hv pa_nil he) hdb he hpl) fun σ H Q h => ?_
  obtain ⟨y, hy, q⟩ := h
  exact ⟨y, hy, rfl, rfl, fun a ha => ⟨a, y, rfl, upd_same, fun dx n ne => ⟨rfl, raised_at ha n ne q⟩⟩⟩
theorem pmk_e1K (O : One X.prog X.w X.K X.mg X.base x f) (hr : Room 2 X.A) (hv : PE X v (tVar i)) (hg : Gl X x) (hdb : (x == ("__debug__" : Str)) = false := by decide)
    (hall : (backToKw pos (keywordEach [⟨some f, v, kp⟩] X.env)).all (·.1.isSome) = true := by rfl)
    (hks : (backToKw pos (keywordEach [⟨some f, v, kp⟩] X.env)).filterMap (·.1) = [f] := by rfl)
    (hpl : ((backTo pos (starEach [] X.env)).any (·.1) || (backToKw pos (keywordEach [⟨some f, v, kp⟩] X.env)).any (·.1.isNone)) = false := by rfl) :
    L2N.PMk X (.Call (.Name x p) [] [⟨some f, v, kp⟩] pos) (tRs1 i (He.ga X.K x) f) := by
  obtain ⟨fd, F, b1, b2⟩ := O.ini
  refine pmk_mono (pmk_mkNK O.T O.iC O.tI F hr b2 pass0 hg O.mgx (pk_cons hv pk_nil) hall hks hdb hpl) fun σ H Q h => ?_
  obtain ⟨y, hy, q⟩ := h
  exact ⟨y, hy, rfl, rfl, fun a ha => ⟨a, y, rfl, upd_same, fun dx n ne => ⟨rfl, raised_at ha n ne q⟩⟩⟩
theorem pmk_e2 (O : Two X.prog X.w X.K X.mg X.base x f g) (hr : Room 2 X.A) (hv : PE X v (tVar i)) (hu : PE X u (tVar j)) (hg : Gl X x) (hdb : (x == ("__debug__" : Str)) = false := by decide)
    (he : starEach [v, u] X.env = (false, eval v X.env) :: starEach [u] X.env := by rfl) (he2 : starEach [u] X.env = (false, eval u X.env) :: starEach [] X.env := by rfl)
    (hpl : (backTo pos (starEach [u] X.env)).any (·.1) = false := by rfl) : L2N.PMk X (.Call (.Name x p) [v, u] [] pos) (tRs2 i j (He.ga X.K x) f g) := by
  obtain ⟨fd, F, b1, b2, b3, b4⟩ := O.ini
  refine pmk_mono (pmk_mkN O.T O.iC O.tI F hr b1 pass0 (by decide) hg O.mgx (pa_cons hv (pa_cons hu pa_nil he2) he) hdb he hpl) fun σ H Q h => ?_
  obtain ⟨y, z, hy, hz, q⟩ := h
  exact ⟨y, hy, z, hz, rfl, rfl, fun a ha => ⟨a, y, z, rfl, upd_same, fun dx n ne => ⟨rfl, raised_at ha n ne q⟩⟩⟩
theorem pmk_e2R (O : Two X.prog X.w X.K X.mg X.base x f g) (hr : Room 2 X.A) (hv : PE X v (tVar i)) (hu : PE X u (tVar j)) (hg : Gl X x) (hdb : (x == ("__debug__" : Str)) = false := by decide)
    (hall : (backToKw pos (keywordEach [⟨some g, u, kp⟩, ⟨some f, v, kp2⟩] X.env)).all (·.1.isSome) = true := by rfl)
    (hks : (backToKw pos (keywordEach [⟨some g, u, kp⟩, ⟨some f, v, kp2⟩] X.env)).filterMap (·.1) = [g, f] := by rfl)
    (hpl : ((backTo pos (starEach [] X.env)).any (·.1) || (backToKw pos (keywordEach [⟨some g, u, kp⟩, ⟨some f, v, kp2⟩] X.env)).any (·.1.isNone)) = false := by rfl) :
    L2N.PMk X (.Call (.Name x p) [] [⟨some g, u, kp⟩, ⟨some f, v, kp2⟩] pos) (tRs2 i j (He.ga X.K x) f g) := by
  obtain ⟨fd, F, b1, b2, b3, b4⟩ := O.ini
  refine pmk_mono (pmk_mkNK O.T O.iC O.tI F hr b3 pass0 hg O.mgx (pk_cons hu (pk_cons hv pk_nil)) hall hks hdb hpl) fun σ H Q h => ?_
  obtain ⟨y, z, hy, hz, q⟩ := h
  exact ⟨z, hz, y, hy, rfl, rfl, fun a ha => ⟨a, y, z, rfl, upd_same, fun dx n ne => ⟨rfl, raised_at ha n ne q⟩⟩⟩
end
end L2

/-! a string's signs, whether or not an exception is handled -/
namespace L2
open PySem PySem.Spec PyProof.Rows
open HotX (HotAt)
section
variable {prog : Program} {w : World} {A : Around} {E : Value → Shared → Prop} {s : Shared} {it x1 : Addr} {x : Str} {t : Tok} {i : Nat} {Q : Option Value → Shared → Prop}
/-- the handled exception is no string's iterator -/
theorem hot_ne {ty : String} (hot : HotAt A x1 s.heap) (hit : s.heap.IsStrIter it ty x t i) : x1 ≠ it := by
  obtain ⟨_, o1, vs1, h1, d1, c1⟩ := hot
  obtain ⟨o, ho, hc, hd⟩ := hit
  intro z
  rw [z, ho] at h1
  cases h1
  rw [hd] at d1
  cases d1
  cases c1
theorem end_ascii_hot (hot : HotAt A x1 s.heap) (hit : s.heap.IsStrIter it "str_ascii_iterator" x t i) (hx : x.cps[i]? = none)
    (hQ : ∀ h1, (∀ b o, b ≠ it → s.heap.get? b = some o → h1.get? b = some o) → Q none { s with heap := h1 }) :
    wpAny (model prog w) A (pyNext (.ref it)) Q E s := by
  have ne := hot_ne hot hit
  obtain ⟨hh, o1, vs1, g1, d1, c1⟩ := hot
  have hT := hit.typeIs
  obtain ⟨o, ho, hc, hd⟩ := hit
  unfold pyNext
  refine wpAny_bind (wpAny_attempt (wpAny_callSpecial?_slot (name := Str.ofString "__next__") hT F.slot_str_ascii_iterator_next (wpAny_call_entry F.slot_str_ascii_iterator_next hT F.entry_str_ascii_iterator_next ?_
    (F.args_str_ascii_iterator_next_1 _))))
  show wpAny _ _ (field (.ref it) 0 >>= _) _ _ s
  refine wpAny_bind (wpAny_field ho hd (x := .str x t) rfl ?_)
  show wpAny _ _ (field (.ref it) 1 >>= _) _ _ s
  refine wpAny_bind (wpAny_field ho hd (x := .int i 0) rfl ?_)
  simp only [Int.toNat_natCast, hx]
  refine wpAny_bind (wpAny_rule (wpAny_bind (wpAny_setField ho hd (by simp) (wpAny_bind (wpAny_letGo ?_)))))
  show wpAny _ _ (newExc (.type "StopIteration") [] >>= _) _ _ _
  generalize hU : s.heap.update it _ = U
  have up : ∀ b u, b ≠ it → s.heap.get? b = some u → U.get? b = some u := fun b u n e => by
    rw [← hU, Heap.get?_update_other _ _ n.symm]
    exact e
  refine wpAny_bind ?_
  simp only [newExc, newTuple]
  refine wpAny_bind (wpAny_newObj_type ?_ (by size_fits))
  refine wpAny_bind (m := firstArgMember _ _) (wpAny_of_eq (a := Value.none) (by first | rfl | (simp only [firstArgMember]; rfl)) ?_)
  refine wpAny_newObj_type ?_ (by size_fits)
  have p1 := up _ _ ne g1
  refine HotX.raiseNew_hot ⟨hh, o1, vs1, Heap.get?_push_of_some _ (Heap.get?_push_of_some _ p1), d1, c1⟩ (Nat.ne_of_lt (Heap.lt_size (Heap.get?_push_of_some _ p1))) (Heap.get?_push_size _ rfl) rfl (by first | (simp; done) | (simp; omega)) ?_
  refine wpAny_bind (wpAny_isInstance (T := "StopIteration") (b := true) ⟨_, Heap.get?_update_self _ (Heap.get?_push_size _ rfl) rfl, rfl⟩ isSubtype_stop ?_)
  refine wpAny_pure (hQ _ fun b u n e => ?_)
  have e2 := up _ _ n e
  rw [Heap.get?_update_other _ _ (Nat.ne_of_gt (Heap.lt_size (Heap.get?_push_of_some _ e2)))]
  exact Heap.get?_push_of_some _ (Heap.get?_push_of_some _ e2)
theorem end_wide_hot (hot : HotAt A x1 s.heap) (hit : s.heap.IsStrIter it "str_iterator" x t i) (hx : x.cps[i]? = none)
    (hQ : ∀ h1, (∀ b o, b ≠ it → s.heap.get? b = some o → h1.get? b = some o) → Q none { s with heap := h1 }) :
    wpAny (model prog w) A (pyNext (.ref it)) Q E s := by
  have ne := hot_ne hot hit
  obtain ⟨hh, o1, vs1, g1, d1, c1⟩ := hot
  have hT := hit.typeIs
  obtain ⟨o, ho, hc, hd⟩ := hit
  unfold pyNext
  refine wpAny_bind (wpAny_attempt (wpAny_callSpecial?_slot (name := Str.ofString "__next__") hT F.slot_str_iterator_next (wpAny_call_entry F.slot_str_iterator_next hT F.entry_str_iterator_next ?_
    (F.args_str_iterator_next_1 _))))
  show wpAny _ _ (field (.ref it) 0 >>= _) _ _ s
  refine wpAny_bind (wpAny_field ho hd (x := .str x t) rfl ?_)
  show wpAny _ _ (field (.ref it) 1 >>= _) _ _ s
  refine wpAny_bind (wpAny_field ho hd (x := .int i 0) rfl ?_)
  simp only [Int.toNat_natCast, hx]
  refine wpAny_bind (wpAny_rule (wpAny_bind (wpAny_setField ho hd (by simp) (wpAny_bind (wpAny_letGo ?_)))))
  show wpAny _ _ (newExc (.type "StopIteration") [] >>= _) _ _ _
  generalize hU : s.heap.update it _ = U
  have up : ∀ b u, b ≠ it → s.heap.get? b = some u → U.get? b = some u := fun b u n e => by
    rw [← hU, Heap.get?_update_other _ _ n.symm]
    exact e
  refine wpAny_bind ?_
  simp only [newExc, newTuple]
  refine wpAny_bind (wpAny_newObj_type ?_ (by size_fits))
  refine wpAny_bind (m := firstArgMember _ _) (wpAny_of_eq (a := Value.none) (by first | rfl | (simp only [firstArgMember]; rfl)) ?_)
  refine wpAny_newObj_type ?_ (by size_fits)
  have p1 := up _ _ ne g1
  refine HotX.raiseNew_hot ⟨hh, o1, vs1, Heap.get?_push_of_some _ (Heap.get?_push_of_some _ p1), d1, c1⟩ (Nat.ne_of_lt (Heap.lt_size (Heap.get?_push_of_some _ p1))) (Heap.get?_push_size _ rfl) rfl (by first | (simp; done) | (simp; omega)) ?_
  refine wpAny_bind (wpAny_isInstance (T := "StopIteration") (b := true) ⟨_, Heap.get?_update_self _ (Heap.get?_push_size _ rfl) rfl, rfl⟩ isSubtype_stop ?_)
  refine wpAny_pure (hQ _ fun b u n e => ?_)
  have e2 := up _ _ n e
  rw [Heap.get?_update_other _ _ (Nat.ne_of_gt (Heap.lt_size (Heap.get?_push_of_some _ e2)))]
  exact Heap.get?_push_of_some _ (Heap.get?_push_of_some _ e2)
end
theorem turn_strW {P : Program} {w : World} {K : PySem.W.Frag} {tg : Expr} (it : Addr) (x : Str) (t : Tok) (ty : String) (hty : ty = "str_ascii_iterator" ∨ ty = "str_iterator") :
    TurnW P w K tg (Its x) [it] it (fun i h => h.IsStrIter it ty x t i) where
  obj := fun i h st b hb => by
    obtain rfl : b = it := by simpa using hb
    obtain ⟨o, e, c, d⟩ := st
    refine ⟨o, e, fun v z => ?_⟩
    rw [d] at z
    cases z
  keep := fun i h h1 st k => by
    obtain ⟨o, ho, r⟩ := st
    exact ⟨o, k it (by simp) o ho, r⟩
  item := by
    rintro X rfl rfl rfl i pins s σ H E hw I hf st hg
    obtain ⟨f0, f1, f2, f3, f4, f5⟩ := hf it (by simp)
    have lt : i < x.cps.size := hg
    have hx : x.cps[i]? = some x.cps[i] := Array.getElem?_eq_getElem lt
    have key : ∀ h1 : Heap, h1.IsStrIter it ty x t (i + 1) → Heap.SameBut it s.heap h1 → wpAny (model X.prog X.w) X.A (letOwnedTupleGo tg (.ref it) (.str ⟨#[x.cps[i]]⟩ s.toks))
        (fun _ s2 => ∃ y H1, Inv X pins σ H1 s2 ∧ RelV y (.str ⟨#[x.cps[i]]⟩ s.toks) ∧ (Its x).yld i H y H1 ∧ s2.heap.IsStrIter it ty x t (i + 1) ∧ ∀ b ∈ [it], H1 b = none) E { s with heap := h1, toks := s.toks + 1 } := by
      intro h1 st1 sb
      have I1 : Inv X pins σ H { s with heap := h1, toks := s.toks + 1 } := I.turned (fun b o hb e => (sb.2 b hb).trans e) f0 f1 f3 f4 f5
      obtain ⟨oi, e, cc, dd⟩ := id st1
      have hno : ["enumerate", "zip", "dict_itemiterator", "dict_reverseitemiterator", "odict_iterator", "itertools.zip_longest", "itertools.pairwise"].contains ty = false := by
        rcases hty with z | z
        · rw [z]; decide
        · rw [z]; decide
      exact go_of (s := { s with heap := h1, toks := s.toks + 1 }) e cc dd hno ⟨.str ⟨#[x.cps[i]]⟩, H, I1, ⟨s.toks, rfl⟩, ⟨rfl, _, hx, rfl⟩, st1, fun b hb => (hf b hb).1⟩
    rcases hty with z | z
    · subst z
      exact wpAny_pyNext_ascii_item st hx fun h1 st1 sb => ⟨_, rfl, key h1 st1 sb⟩
    · subst z
      exact wpAny_pyNext_wide_item st hx fun h1 st1 sb => ⟨_, rfl, key h1 st1 sb⟩
  done := by
    rintro X rfl rfl rfl i pins s σ H E hw I hf st hg
    obtain ⟨f0, f1, f2, f3, f4, f5⟩ := hf it (by simp)
    have hx : x.cps[i]? = none := Array.getElem?_eq_none hg
    rcases hty with z | z
    · subst z
      rcases hw with hw | ⟨x1, hot⟩
      · exact wpAny_pyNext_ascii_end hw st hx fun h1 eb => ⟨rfl, I.turned (t' := s.toks) (fun b o hb e => eb b o hb e) f0 f1 f3 f4 f5⟩
      · exact end_ascii_hot hot st hx fun h1 eb => ⟨rfl, I.turned (t' := s.toks) (fun b o hb e => eb b o hb e) f0 f1 f3 f4 f5⟩
    · subst z
      rcases hw with hw | ⟨x1, hot⟩
      · exact wpAny_pyNext_wide_end hw st hx fun h1 eb => ⟨rfl, I.turned (t' := s.toks) (fun b o hb e => eb b o hb e) f0 f1 f3 f4 f5⟩
      · exact end_wide_hot hot st hx fun h1 eb => ⟨rfl, I.turned (t' := s.toks) (fun b o hb e => eb b o hb e) f0 f1 f3 f4 f5⟩
  self := fun A i s Q E st h => by
    rcases hty with z | z
    · subst z
      exact wpAny_pyIter_striter_ascii st h
    · subst z
      exact wpAny_pyIter_striter_wide st h
theorem one_itW {X : Cx} {tg : Expr} {pins : List Pin} {σ : St} {H : Hp} {s : Shared} {R : It → Hp → Prop} {x : Str} {t : Tok} {ty : String} {o : Obj} {tk : Nat} (I : Inv X pins σ H s) (hty : ty = "str_ascii_iterator" ∨ ty = "str_iterator")
    (st : (s.heap.push o).IsStrIter s.heap.objs.size ty x t 0) (q : R (Its x) H) : PIEW X pins σ tg R (.ref s.heap.objs.size) { s with heap := s.heap.push o, toks := tk } := by
  refine ⟨s.heap.objs.size, [s.heap.objs.size], _, _, H, rfl, I.kept (t' := tk) fun b o e => Heap.get?_push_of_some _ e, turn_strW _ x t ty hty, st, fun b hb => ?_, q⟩
  obtain rfl : b = s.heap.objs.size := by simpa using hb
  exact I.fpOk (Nat.le_refl _) (I.hok.fresh (Nat.le_refl _))
theorem pi_strW {X : Cx} {tg e : Expr} {te : TE} (he : PE X e te) : PIW X tg e (iStr te) := by
  refine ⟨fun pins s σ H R I h => ?_⟩
  refine thn (he.run pins s σ H _ I h) fun v s1 ⟨y, H1, I1, r1, x, ex, q⟩ => ?_
  subst ex
  obtain ⟨t, rfl⟩ := r1
  cases ha : x.cps.all (· < 128)
  · exact wpAny_pyIter_wide ha (one_itW I1 (.inr rfl) ⟨_, Heap.get?_push_size _ rfl, rfl, rfl⟩ q)
  · exact wpAny_pyIter_ascii ha (one_itW I1 (.inl rfl) ⟨_, Heap.get?_push_size _ rfl, rfl, rfl⟩ q)
end L2

namespace L2
open PySem PySem.Spec PyProof.Rows
section
variable {X : Cx} {ps : List Pin}
/-- type(e), e an exception -/
theorem call_typeEv (hps : ∀ p ∈ ps, p ∈ X.pn) : CallR X (.type "type") (fun xs H Q => ∃ (a C d : Addr) (fs : List (Str × V)), xs = [.ref a] ∧ EvP ps H a C d fs ∧ Q (.ref C) H) := by
  intro pins s σ H xs us Q I r h
  obtain ⟨a, C, d, fs, rfl, ev, q⟩ := h
  obtain ⟨u, rfl, ru⟩ := vals1 r
  obtain rfl : u = Value.ref a := ru
  obtain ⟨oe, od, mA, J, _⟩ := ev.look I hps
  obtain ⟨hh, g, d2, t, os⟩ := s
  refine call_type_obj J.at_ (by rw [J.cls]; rfl) ?_
  rw [J.cls]
  exact ⟨.ref C, H, I, rfl, q⟩
theorem op_isRT : OpR X (compareOp .Is) (fun x y H Q => ∃ a b, x = .ref a ∧ y = .ty b ∧ Q (.bl false) H) := by
  intro pins s σ H x y v u Q I rx ry h
  obtain ⟨a, b, rfl, rfl, q⟩ := h
  obtain rfl : v = Value.ref a := rx
  obtain rfl : u = Value.type b := ry
  exact wpAny_is_other rfl (fun z => nomatch z) ⟨.bl false, H, I, rfl, q⟩
theorem op_notRT : OpR X (compareOp .IsNot) (fun x y H Q => ∃ a b, x = .ref a ∧ y = .ty b ∧ Q (.bl true) H) := by
  intro pins s σ H x y v u Q I rx ry h
  obtain ⟨a, b, rfl, rfl, q⟩ := h
  obtain rfl : v = Value.ref a := rx
  obtain rfl : u = Value.type b := ry
  exact wpAny_isNot_plain rfl (fin_bl I q rfl)
end
/-- data as in Rdd: its type's name -/
theorem Rdd.tyb {K : PySem.W.Frag} {H : Hp} {v : V} {d : PyData} (r : Rdd H v d) : ∃ T : String, TyB K H v T ∧ TyX K H v (.type T) ∧ (T = "str" → ∃ z, v = .str z ∧ d = .str z) ∧ (T = "tuple" → ∃ p xs ds, v = .ref p ∧ d = .tuple ds ∧ H p = some (.tup xs) ∧ RddAll H xs ds) := by
  cases r with
  | non => exact ⟨_, .non, .base .non, (fun z => absurd z (by decide)), fun z => absurd z (by decide)⟩
  | bl b => exact ⟨_, .bl b, .base (.bl b), (fun z => absurd z (by decide)), fun z => absurd z (by decide)⟩
  | int i => exact ⟨_, .int i, .base (.int i), (fun z => absurd z (by decide)), fun z => absurd z (by decide)⟩
  | str x => exact ⟨_, .str x, .base (.str x), (fun _ => ⟨_, rfl, rfl⟩), fun z => absurd z (by decide)⟩
  | lst h r => exact ⟨_, .lst (SqL.of h), .base (.lst h), (fun z => absurd z (by decide)), fun z => absurd z (by decide)⟩
  | tup h r => exact ⟨_, .tup (SqT.of h), .base (.tup h), (fun z => absurd z (by decide)), fun _ => ⟨_, _, _, rfl, rfl, h, r⟩⟩
  | dK h r1 r2 => exact ⟨_, .dK h, .base (.dK h), (fun z => absurd z (by decide)), fun z => absurd z (by decide)⟩
end L2

/-! how long the text of data can be -/
namespace L2
open PySem PySem.Spec PyProof.Rows
open PySem.PyData
mutual
/-- its text is at most so long -/
def wt : PyData → Nat
  | .none => 4
  | .bool _ => 5
  | .int i => (PyData.shown (.int i)).length
  | .str x => 10 * x.length + 2
  | .list xs => wtAll xs + 2
  | .tuple xs => wtAll xs + 3
  | .dict kvs => wtKv kvs + 2
def wtAll : List PyData → Nat
  | [] => 0
  | x :: xs => wt x + 2 + wtAll xs
def wtKv : List (PyData × PyData) → Nat
  | [] => 0
  | q :: r => wt q.1 + wt q.2 + 4 + wtKv r
end
mutual
/-- all signs of it are plain ones -/
def asc : PyData → Bool
  | .str x => x.cps.toList.all fun c => decide (c < 128)
  | .list xs => ascAll xs
  | .tuple xs => ascAll xs
  | .dict kvs => ascKv kvs
  | _ => true
def ascAll : List PyData → Bool
  | [] => true
  | x :: xs => asc x && ascAll xs
def ascKv : List (PyData × PyData) → Bool
  | [] => true
  | q :: r => asc q.1 && (asc q.2 && ascKv r)
end
theorem from_le : ∀ (ts : List Str) (k : Nat) (acc : Str), (textFrom k acc ts).length ≤ acc.length + piled ts
  | [], k, acc => by
    show acc.length ≤ _
    omega
  | t :: r, k, acc => by
    have h := from_le r (k + 1) (acc ++ (if k > 0 then ", " else "" : String) ++ t)
    have e : (acc ++ (if k > 0 then ", " else "" : String) ++ t).length ≤ acc.length + 2 + t.length := by
      rw [strLen_append, strLen_append]
      have e2 : ((", " : String) : Str).length = 2 := rfl
      have e0 : (("" : String) : Str).length = 0 := rfl
      split
      · rw [e2] <;> omega
      · rw [e0] <;> omega
    have p : piled (t :: r) = t.length + 2 + piled r := by simp [piled]
    show (textFrom (k + 1) _ r).length ≤ _
    omega
theorem list_le (ts : List Str) : (listText ts).length ≤ piled ts + 2 := by
  unfold listText
  rw [strLen_append]
  have h := from_le ts 0 "["
  have e1 : (("[" : String) : Str).length = 1 := rfl
  have e2 : (("]" : String) : Str).length = 1 := rfl
  omega
theorem join_le (ts : List Str) : (Str.join ", " ts).length ≤ piled ts := by
  by_cases h : ts = []
  · subst h
    exact Nat.zero_le _
  · have z := join_length_add ts h
    omega
theorem tuple_le (ts : List Str) : (tupleText ts).length ≤ piled ts + 3 := by
  unfold tupleText
  rw [strLen_append, strLen_append]
  have h := join_le ts
  have e1 : (("(" : String) : Str).length = 1 := rfl
  have e2 : ((",)" : String) : Str).length = 2 := rfl
  have e3 : ((")" : String) : Str).length = 1 := rfl
  split
  · rw [e2] <;> omega
  · rw [e3] <;> omega
theorem dict_le (ts : List Str) : (dictText ts).length ≤ piled ts + 2 := by
  unfold dictText
  rw [strLen_append, strLen_append]
  have h := join_le ts
  have e1 : (("{" : String) : Str).length = 1 := rfl
  have e2 : (("}" : String) : Str).length = 1 := rfl
  omega
mutual
theorem shown_le : ∀ d : PyData, asc d = true → (PyData.shown d).length ≤ wt d
  | .none, _ => by simp only [PyData.shown, wt]; decide
  | .bool b, _ => by cases b <;> (simp only [PyData.shown, wt]; decide)
  | .int i, _ => by simp only [wt]; exact Nat.le_refl _
  | .str x, h => by
    simp only [PyData.shown, wt]
    refine PySem.StrLaws.reprText_len x fun c hc => ?_
    simp only [asc] at h
    have z := of_decide_eq_true (List.all_eq_true.mp h c hc)
    exact Nat.lt_of_lt_of_le z (by decide)
  | .list xs, h => by
    simp only [PyData.shown, wt]
    simp only [asc] at h
    have z := shownAll_le xs h
    have y := list_le (PyData.shownAll xs)
    omega
  | .tuple xs, h => by
    simp only [PyData.shown, wt]
    simp only [asc] at h
    have z := shownAll_le xs h
    have y := tuple_le (PyData.shownAll xs)
    omega
  | .dict kvs, h => by
    simp only [PyData.shown, wt]
    simp only [asc] at h
    have z := shownKv_le kvs h
    have y := dict_le (PyData.shownKv kvs)
    omega
theorem shownAll_le : ∀ xs : List PyData, ascAll xs = true → piled (PyData.shownAll xs) ≤ wtAll xs
  | [], _ => by simp [PyData.shownAll, piled, wtAll]
  | x :: xs, h => by
    simp only [ascAll, Bool.and_eq_true] at h
    have z := shown_le x h.1
    have y := shownAll_le xs h.2
    simp only [PyData.shownAll, wtAll]
    have p : piled (PyData.shown x :: PyData.shownAll xs) = (PyData.shown x).length + 2 + piled (PyData.shownAll xs) := by simp [piled]
    omega
theorem shownKv_le : ∀ kvs : List (PyData × PyData), ascKv kvs = true → piled (PyData.shownKv kvs) ≤ wtKv kvs
  | [], _ => by simp [PyData.shownKv, piled, wtKv]
  | q :: r, h => by
    obtain ⟨k, v⟩ := q
    simp only [ascKv, Bool.and_eq_true] at h
    have z := shown_le k h.1
    have y := shown_le v h.2.1
    have x := shownKv_le r h.2.2
    simp only [PyData.shownKv, wtKv]
    have p : piled ((PyData.shown k ++ (": " : Str) ++ PyData.shown v) :: PyData.shownKv r) = (PyData.shown k ++ (": " : Str) ++ PyData.shown v).length + 2 + piled (PyData.shownKv r) := by simp [piled]
    rw [p, strLen_append, strLen_append]
    have e2 : ((": " : String) : Str).length = 2 := rfl
    omega
end
/-- data whose text is told -/
structure Tame (d : PyData) : Prop where
  a : asc d = true
  s : d.showable = true
  h : d.depth ≤ 32
  w : wt d ≤ 1000000
theorem Tame.len {d : PyData} (t : Tame d) : d.shown.length ≤ sizeLine := by
  have z := shown_le d t.a
  have y := t.w
  rw [sizeLine_eq]
  omega
end L2

/-! != of two lists whose items are equal, whatever these are -/
namespace PySem.SeqAt
open AutoSeq1 (wpAny_loadPart')
open MeetsSeq MeetsSeq2 MeetsSeq3
section
variable {prog : Program} {w : World}
theorem ne_loopE (l r : Addr) (xs ys : Array Value) (n m : Nat) (d1 d2 : Option Addr) (s1 s2 : Array (Option Value)) (hsz : xs.size = ys.size) (k : Nat) :
    ∀ i : Nat, xs.size - i = k → MeetsIn prog w (Builtin.«list.__eq__.loop» ⟨[.ref l, .ref r, rawInt i, rawInt 3], []⟩)
      (fun A R s => s.heap.get? l = some { cls := .type "list", dict := d1, data := .seq xs n, slots := s1 } ∧
        s.heap.get? r = some { cls := .type "list", dict := d2, data := .seq ys m, slots := s2 } ∧
        (∀ j (h1 : j < xs.size) (h2 : j < ys.size), EqP prog w A.in1 s xs[j] ys[j] true) ∧ R (.ok (.ret (.bool false))) s) := by
  induction k with
  | zero =>
    intro i hk A R s h
    obtain ⟨hp, gs, dr, tk, os⟩ := s
    obtain ⟨hl, hr, he, h⟩ := h
    wp_walk using wpAny_loadPart' hl, wpAny_loadPart' hr
    have z1 : xs[((i : Nat) : Int).toNat]? = none := by simp; omega
    have z2 : ys[((i : Nat) : Int).toNat]? = none := by simp; omega
    rw [z1, z2]
    wp_walk using wpAny_loadPart' hl, wpAny_loadPart' hr
    show R (.ok (.ret (.bool (xs.size != ys.size)))) _
    rw [hsz]
    simpa using h
  | succ k ih =>
    intro i hk A R s h
    obtain ⟨hp, gs, dr, tk, os⟩ := s
    obtain ⟨hl, hr, he, h⟩ := h
    wp_walk using wpAny_loadPart' hl, wpAny_loadPart' hr
    have l1 : i < xs.size := by omega
    have l2 : i < ys.size := by omega
    have z1 : xs[((i : Nat) : Int).toNat]? = some xs[i] := by simp [l1]
    have z2 : ys[((i : Nat) : Int).toNat]? = some ys[i] := by simp [l2]
    have up : ((i : Int) + 1) = ((i + 1 : Nat) : Int) := by omega
    rw [z1, z2]
    refine wpAny_bind (he i l1 l2 _ _ ?_)
    wp_walk
    rw [up]
    refine ⟨plainId_quiet plain_eq_loop _, codeAny_builtin entry_eq_loop ?_⟩
    rw [Around.under_plainId plain_eq_loop _]
    exact ih (i + 1) (by omega) A R _ ⟨hl, hr, he, h⟩
theorem list_neE (l r : Addr) (xs ys : Array Value) (n m : Nat) (d1 d2 : Option Addr) (s1 s2 : Array (Option Value)) (hsz : xs.size = ys.size) :
    MeetsIn prog w (Builtin.«list.__ne__» ⟨[.ref l, .ref r], []⟩)
      (fun A R s => s.heap.get? l = some { cls := .type "list", dict := d1, data := .seq xs n, slots := s1 } ∧
        s.heap.get? r = some { cls := .type "list", dict := d2, data := .seq ys m, slots := s2 } ∧
        (∀ j (h1 : j < xs.size) (h2 : j < ys.size), EqP prog w A.in1 s xs[j] ys[j] true) ∧ R (.ok (.ret (.bool false))) s) := by
  intro A R s h
  obtain ⟨hp, gs, dr, tk, os⟩ := s
  obtain ⟨hl, hr, he, h⟩ := h
  have f3 := AutoSeq1.sub_list_list
  have same : ¬ (xs.size != ys.size) = true := by simp [hsz]
  wp_walk using wpAny_loadPart' hl, wpAny_loadPart' hr
  refine ⟨plainId_quiet plain_eq_loop _, codeAny_builtin entry_eq_loop ?_⟩
  rw [Around.under_plainId plain_eq_loop _]
  exact ne_loopE l r xs ys n m d1 d2 s1 s2 hsz _ 0 rfl A R _ ⟨hl, hr, he, h⟩
theorem rcNe_lists {A : Around} {s : Shared} {l r : Addr} {xs ys : Array Value} (hl : s.heap.IsList l xs) (hr : s.heap.IsList r ys) (hsz : xs.size = ys.size) (hu : A.units < cLine)
    (he : ∀ j (h1 : j < xs.size) (h2 : j < ys.size), EqP prog w A.in1 s xs[j] ys[j] true) (E Q : Value → Shared → Prop) (h : Q (.bool false) s) :
    wpAny (model prog w) A (richCompare .NotEq (.ref l) (.ref r)) Q E s := by
  obtain ⟨⟨c1, e1, f1, g1⟩, o1, hc1, n, hd1⟩ := id hl
  obtain ⟨⟨c2, e2, f2, g2⟩, o2, hc2, m, hd2⟩ := id hr
  simp only at hc1 hd1 hc2 hd2
  subst hc1 hd1 hc2 hd2
  have t1 : s.TypeIs (.ref l) "list" := ⟨_, o1, rfl⟩
  have t2 : s.TypeIs (.ref r) "list" := ⟨_, o2, rfl⟩
  refine wpAny_richCompare_same_room (op := .NotEq) t1 t2 F.slot_list_ne ?_ hu
  refine call_meetsIn F.slot_list_ne t1 F.entry_list_ne (F.args_list_ne_2 _ _) (list_neE l r xs ys n m e1 e2 g1 g2 hsz) ?_
  exact ⟨o1, o2, he, show Value.bool false ≠ Value.notImplemented ∧ Q (.bool false) s from ⟨(fun x => nomatch x), h⟩⟩
end
end PySem.SeqAt
namespace L2
open PySem PySem.Spec PyProof.Rows
/-- a != b, two lists of equal items -/
def rNeV (K : PySem.W.Frag) : R2 := fun x y H Q => ∃ (n : Nat) (a b : Addr) (xs ys : List V), n ≤ 60 ∧ x = .ref a ∧ y = .ref b ∧ SqL K H a xs ∧ SqL K H b ys ∧ Paired (EqV K H n) xs ys ∧ Q (.bl false) H
theorem op_neV {X : Cx} (hu : X.A.units + 64 < cLine) : OpR X (compareOp .NotEq) (rNeV X.K) := by
  intro pins s σ H x y v u Q I rx ry h
  obtain ⟨n, a, b, xs, ys, hn, rfl, rfl, ha, hb, hp, q⟩ := h
  obtain rfl : v = Value.ref a := rx
  obtain rfl : u = Value.ref b := ry
  obtain ⟨us, r1, p1, _⟩ := I.list ha
  obtain ⟨ws, r2, p2, _⟩ := I.list hb
  have hsz : us.toArray.size = ws.toArray.size := by
    rw [List.size_toArray, List.size_toArray, ← r1.length, ← r2.length]
    exact Paired.length hp
  refine SeqAt.rcNe_lists p1.isList p2.isList hsz (by omega) (fun j h1 h2 => ?_) _ _ ⟨.bl false, H, I, rfl, q⟩
  have k := items_run (fun x y v u => eqV_run I n X.A.in1 (by show X.A.units + 1 + n < cLine; omega) x y v u) hp r1 r2 j (by simpa using h1) (by simpa using h2)
  simpa using k
end L2

/-! a def of the text with its promise; small lemmas -/
namespace L2
open PySem PySem.Spec PyProof.Rows
abbrev Fd (K : PySem.W.Frag) (x : Str) (st : Stmt) (f : Addr) (fd : FuncData) : Prop := FunD K x x (defArgs st) (defBody st) (defScope st) [] [] f fd
/-- the def st of the text, called x, keeps sp -/
structure Ok (P : Program) (w : World) (K : PySem.W.Frag) (mg : Str → Option Value) (base : Heap) (CX : CXT) (k : Nat) (x : Str) (st : Stmt) (ps : List Str) (sp : Sp) : Prop where
  ex : ∃ f fd, mg x = some (.ref f) ∧ Fd K x st f fd ∧ Binds K fd ps [] ∧ FnOk P w K mg base CX k f fd ps sp
theorem Ok.mono {P : Program} {w : World} {K : PySem.W.Frag} {mg : Str → Option Value} {base : Heap} {CX : CXT} {j k : Nat} {x : Str} {st : Stmt} {ps : List Str} {sp : Sp} (O : Ok P w K mg base CX j x st ps sp) (h : j ≤ k) : Ok P w K mg base CX k x st ps sp :=
  let ⟨f, fd, g, F, b, o⟩ := O.ex
  ⟨f, fd, g, F, b, o.mono h⟩
theorem Ok.imp {P : Program} {w : World} {K : PySem.W.Frag} {mg : Str → Option Value} {base : Heap} {CX : CXT} {k : Nat} {x : Str} {st : Stmt} {ps : List Str} {sp sp' : Sp} (O : Ok P w K mg base CX k x st ps sp) (h : ∀ vs H Q E, sp' vs H Q E → sp vs H Q E) : Ok P w K mg base CX k x st ps sp' :=
  let ⟨f, fd, g, F, b, o⟩ := O.ex
  ⟨f, fd, g, F, b, o.imp h⟩
/-- .. that is called where no repr is under way -/
structure OkG (P : Program) (w : World) (K : PySem.W.Frag) (mg : Str → Option Value) (base : Heap) (k : Nat) (x : Str) (st : Stmt) (ps : List Str) (sp : Sp) : Prop where
  ex : ∃ f fd, mg x = some (.ref f) ∧ Fd K x st f fd ∧ Binds K fd ps [] ∧ FnG P w K mg base k f fd ps sp
/-- names of the machine that the text does not hide -/
structure Blts (mg : Str → Option Value) (us : List Str) : Prop where
  u : ∀ x, x ∈ us → mg x = none
theorem pass_none {X : Cx} (σ : St) : PassesAt CX0 X σ fun _ _ _ => False := fun _ _ _ _ _ _ h => h.elim
theorem takes_none {X : Cx} : L2N.Takes X fun _ _ _ _ => False := fun _ _ ⟨_, _, _, _, _, _, _, _, _, _, _, _, _, _, _, _, w⟩ => w.elim
theorem pass_noneN {X : Cx} (σ : St) : PassesAt (L2N.CX X.prog X.w) X σ fun _ _ _ => False := fun _ _ _ _ _ _ ⟨_, _, _, _, _, _, _, _, _, _, _, _, h⟩ => h.elim
section
variable {X : Cx} {CX : CXT} {j k n : Nat} {x : Str} {st : Stmt} {ps ks : List Str} {sp : Sp} {E : St → XK} {np pos : Pos} {e : Expr} {es : List Expr} {kws : List Keyword} {t tk : TA} {g : List Value → List Value → List Value} {gV : List V → List V → List V}
theorem pe_o (O : Ok X.prog X.w X.K X.mg X.base CX0 k x st ps sp) (hr : Room k X.A) (hg : Gl X x) (ha : PA X (e :: es) t) (hdb : (x == ("__debug__" : Str)) = false := by decide)
    (he : starEach (e :: es) X.env = (false, eval e X.env) :: starEach es X.env := by rfl) (hpl : (backTo pos (starEach es X.env)).any (·.1) = false := by rfl) : PE X (.Call (.Name x np) (e :: es) [] pos) (tCallS sp (fun _ => noE) t) := by
  obtain ⟨f, fd, gm, F, b, o⟩ := O.ex
  exact pe_callS o hr hg gm F.kp b pass_none ha hdb he hpl
theorem pe_oS (O : Ok X.prog X.w X.K X.mg X.base CX k x st ps sp) (hr : Room k X.A) (hg : Gl X x) (hx : ∀ σ, PassesAt CX X σ (E σ)) (ha : PA X (e :: es) t) (hdb : (x == ("__debug__" : Str)) = false := by decide)
    (he : starEach (e :: es) X.env = (false, eval e X.env) :: starEach es X.env := by rfl) (hpl : (backTo pos (starEach es X.env)).any (·.1) = false := by rfl) : PE X (.Call (.Name x np) (e :: es) [] pos) (tCallS sp E t) := by
  obtain ⟨f, fd, gm, F, b, o⟩ := O.ex
  exact pe_callS o hr hg gm F.kp b hx ha hdb he hpl
theorem pe_oG (O : OkG X.prog X.w X.K X.mg X.base k x st ps sp) (hgd : X.A.guards = some []) (hr : Room k X.A) (hg : Gl X x) (ha : PA X (e :: es) t) (hdb : (x == ("__debug__" : Str)) = false := by decide)
    (he : starEach (e :: es) X.env = (false, eval e X.env) :: starEach es X.env := by rfl) (hpl : (backTo pos (starEach es X.env)).any (·.1) = false := by rfl) : PE X (.Call (.Name x np) (e :: es) [] pos) (tCall sp [] noE t) := by
  obtain ⟨f, fd, gm, F, b, o⟩ := O.ex
  exact pe_callG o hgd hr hg gm F.kp b ha hdb he hpl
/-- f(k = v, ..) -/
theorem pe_oK0 (O : Ok X.prog X.w X.K X.mg X.base CX k x st ps sp) (hr : Room k X.A) (hg : Gl X x) (hb : ∀ f fd, Fd X.K x st f fd → KBn X.K fd ps 0 ks g gV) (hx : ∀ σ, PassesAt CX X σ (E σ)) (hkw : PK X kws tk)
    (hall : (backToKw pos (keywordEach kws X.env)).all (·.1.isSome) = true := by rfl) (hks : (backToKw pos (keywordEach kws X.env)).filterMap (·.1) = ks := by rfl) (hdb : (x == ("__debug__" : Str)) = false := by decide)
    (hpl : ((backTo pos (starEach [] X.env)).any (·.1) || (backToKw pos (keywordEach kws X.env)).any (·.1.isNone)) = false := by rfl) : PE X (.Call (.Name x np) [] kws pos) (tCallKS 0 ks.length sp gV E tNil tk) := by
  obtain ⟨f, fd, gm, F, b, o⟩ := O.ex
  exact pe_callKS0 o hr hg gm F.kp (hb f fd F) hx hkw hall hks hdb hpl
/-- f(e, .., k = v, ..) -/
theorem pe_oK (O : Ok X.prog X.w X.K X.mg X.base CX k x st ps sp) (hr : Room k X.A) (hg : Gl X x) (hb : ∀ f fd, Fd X.K x st f fd → KBn X.K fd ps n ks g gV) (hx : ∀ σ, PassesAt CX X σ (E σ)) (ha : PA X (e :: es) t) (hkw : PK X kws tk)
    (hall : (backToKw pos (keywordEach kws X.env)).all (·.1.isSome) = true := by rfl) (hks : (backToKw pos (keywordEach kws X.env)).filterMap (·.1) = ks := by rfl) (hdb : (x == ("__debug__" : Str)) = false := by decide)
    (he : starEach (e :: es) X.env = (false, eval e X.env) :: starEach es X.env := by rfl) (hpl : ((backTo pos (starEach (e :: es) X.env)).any (·.1) || (backToKw pos (keywordEach kws X.env)).any (·.1.isNone)) = false := by rfl) :
    PE X (.Call (.Name x np) (e :: es) kws pos) (tCallKS n ks.length sp gV E t tk) := by
  obtain ⟨f, fd, gm, F, b, o⟩ := O.ex
  exact pe_callKS o hr hg gm F.kp (hb f fd F) hx ha hkw hall hks hdb he hpl
end
/-! ### type(x) in (A, B) -/
theorem meta_ty {T : String} (h : T ∈ ["NoneType", "bool", "int", "str", "list", "tuple", "dict"]) (s : Shared) : s.TypeIs (.type T) "type" := by
  simp only [List.mem_cons, List.not_mem_nil, or_false] at h
  rcases h with rfl | rfl | rfl | rfl | rfl | rfl | rfl
  · exact TypeEq.meta_NoneType s
  · exact TypeEq.meta_bool s
  · exact TypeEq.meta_int s
  · exact TypeEq.meta_str s
  · exact TypeEq.meta_list s
  · exact TypeEq.meta_tuple s
  · exact TypeEq.meta_dict s
theorem eqAt_ty {A : Around} {s : Shared} {a b : String} (ha : a ∈ ["NoneType", "bool", "int", "str", "list", "tuple", "dict"]) (hb : b ∈ ["NoneType", "bool", "int", "str", "list", "tuple", "dict"]) : SeqAt.EqAt A s (.type a) (.type b) (decide (a = b)) := fun prog w E Q h => by
  by_cases e : a = b
  · subst e
    rw [decide_eq_true rfl] at h
    exact SeqAt.EqAt.same (.type a) prog w E Q h
  · rw [decide_eq_false e] at h
    have ne : (Value.type a == Value.type b) = false := by rw [ty_beq, decide_eq_false e]
    unfold eqBool
    refine wpAny_holding ?_
    refine wpAny_ite_split (fun hab => absurd hab (by rw [ne]; exact Bool.false_ne_true)) (fun _ => ?_)
    refine wpAny_bind ?_
    exact TypeEq.eq_type_other (fun s' => meta_ty ha s') (fun s' => meta_ty hb s') ne (wpAny_truthy_bool h)
def rInTy (K : PySem.W.Frag) : R2 := fun x y H Q => ∃ (p : Addr) (T : String) (Us : List String), x = .ty T ∧ y = .ref p ∧ SqT K H p (Us.map V.ty) ∧ T ∈ ["NoneType", "bool", "int", "str", "list", "tuple", "dict"] ∧ (∀ U ∈ Us, U ∈ ["NoneType", "bool", "int", "str", "list", "tuple", "dict"]) ∧ Q (.bl (decide (T ∈ Us))) H
theorem vals_ty : ∀ {Us : List String} {its : List Value}, Vals (Us.map V.ty) its → its = Us.map Value.type
  | [], _, .nil => rfl
  | U :: Us, _, .cons r t => by rw [show _ = Value.type U from r, vals_ty t]; rfl
theorem op_inTy {X : Cx} : OpR X (compareOp .In) (rInTy X.K) := by
  intro pins s σ H x y v u Q I rx ry h
  obtain ⟨p, T, Us, rfl, rfl, hp, hT, hU, q⟩ := h
  obtain rfl : v = Value.type T := rx
  obtain rfl : u = Value.ref p := ry
  obtain ⟨its, r, pl, hz⟩ := I.tuple hp
  have e := vals_ty r
  subst e
  refine SeqAt.in_tupleAt (fun w => match w with | .type U => decide (U = T) | _ => false) pl (fun w hw => ?_) ⟨.bl _, H, I, rfl, ?_⟩
  · obtain ⟨U, hm, rfl⟩ := List.mem_map.mp (show w ∈ Us.map Value.type by simpa using hw)
    exact eqAt_ty (hU U hm) hT
  · have : ((Us.map Value.type).toArray.any fun w => match w with | .type U => decide (U = T) | _ => false) = decide (T ∈ Us) := by
      rw [List.any_toArray, List.any_map]
      clear hU r pl hz q hp
      induction Us with
      | nil => rfl
      | cons U Us ih =>
        rw [List.any_cons, ih]
        show (decide (U = T) || decide (T ∈ Us)) = _
        by_cases e : U = T
        · subst e; simp
        · have e2 : ¬ T = U := fun z => e z.symm
          simp [e, e2]
    rw [this]
    exact q
abbrev rTupOf (K : PySem.W.Frag) : List V → Hp → VK → Prop := fun xs H Q => ∃ p ys, xs = [V.ref p] ∧ ((SqL K H p ys ∧ ∀ (l : Addr), H l = none → Q (V.ref l) (upd H l (HO.tup ys))) ∨ SqT K H p ys ∧ Q (V.ref p) H)
abbrev rLstOf (K : PySem.W.Frag) : List V → Hp → VK → Prop := fun xs H Q => ∃ p ys, xs = [.ref p] ∧ (SqL K H p ys ∨ SqT K H p ys) ∧ ∀ l, H l = none → Q (.ref l) (upd H l (.lst ys))
/-! ### small words -/
theorem pss_mono {X : Cx} {st : List Stmt} {t u : TS} (h : PSs X st t) (k : ∀ D σ H, u D σ H → t D σ H) : PSs X st u := ⟨fun pins s σ H D I q => h.run pins s σ H D I (k _ _ _ q)⟩
theorem two_ln {n : Nat} (h : n ≤ 16777216) : n ≤ sizeLine := by
  rw [sizeLine_eq]
  exact h
theorem lt_ln {n : Nat} (h : n < 16777216) : n < sizeLine := by
  rw [sizeLine_eq]
  exact h
theorem upd_grow {H : Hp} {p : Addr} {o : HO} (h : H p = none) : Same H (upd H p o) := fun b u e => by
  rw [upd_ne (ne_of_none e h)]
  exact e
theorem iteB {c : Bool} {A B : Prop} (h1 : c = true → A) (h2 : c = false → B) : if c = true then A else B := by
  cases c with
  | true => exact iteT (h1 rfl)
  | false => exact iteF (h2 rfl)
/-- all but what stands at p is kept -/
def But (p : Addr) (H H' : Hp) : Prop := ∀ b o, b ≠ p → H b = some o → H' b = some o
theorem But.of {p : Addr} {H H' : Hp} (k : Same H H') : But p H H' := fun b o _ e => k b o e
theorem But.trans {p : Addr} {H H1 H2 : Hp} (a : But p H H1) (b : But p H1 H2) : But p H H2 := fun c o hc e => b c o hc (a c o hc e)
theorem But.upd {p : Addr} {H : Hp} {o : HO} : But p H (L2.upd H p o) := fun b u hb e => by
  rw [upd_ne hb]
  exact e
theorem del_mono {p : Addr} {H H' : Hp} (k : Same H H') : Same (del H p) (del H' p) := fun b o e => by
  by_cases z : b = p
  · rw [z, del_same] at e
    cases e
  · rw [del_ne z] at e ⊢
    exact k b o e
theorem del_upd {p : Addr} {H : Hp} {o : HO} : Same (del H p) (L2.upd H p o) := fun b u e => by
  by_cases z : b = p
  · rw [z, del_same] at e
    cases e
  · rw [upd_ne z]
    rwa [del_ne z] at e
theorem del_le {p : Addr} {H : Hp} : Same (del H p) H := fun b o e => by
  by_cases z : b = p
  · rw [z, del_same] at e
    cases e
  · rwa [del_ne z] at e
theorem but_del {p : Addr} {H H' : Hp} (k : But p H H') : Same (del H p) (del H' p) := fun b o e => by
  by_cases z : b = p
  · rw [z, del_same] at e
    cases e
  · rw [del_ne z] at e ⊢
    exact k b o z e
theorem fresh_same {l : Addr} {H H' : Hp} {o : HO} (hl : H l = none) (k : But l (L2.upd H l o) H') : Same H H' := fun b u e => k b u (ne_of_none e hl) (by rw [upd_ne (ne_of_none e hl)]; exact e)
theorem ixAt {K : PySem.W.Frag} {H : Hp} {p : Addr} {xs : List V} {i : Int} {v : V} {Q : VK} (h : H p = some (.lst xs)) (e : atI xs i = some v) (q : Q v H) : rIx K (.ref p) (.int i) H Q :=
  .inl ⟨p, xs, i, v, rfl, rfl, SqL.of h, e, q⟩
theorem ixTup {K : PySem.W.Frag} {H : Hp} {p : Addr} {xs : List V} {i : Int} {v : V} {Q : VK} (h : SqT K H p xs) (e : atI xs i = some v) (q : Q v H) : rIx K (.ref p) (.int i) H Q :=
  .inr (.inl ⟨p, xs, i, v, rfl, rfl, h, e, q⟩)
theorem not_t {b : Bool} (h : (!b) = true) : b = false := by simpa using h
theorem not_f {b : Bool} (h : (!b) = false) : b = true := by simpa using h
theorem rdds_len {H : Hp} : ∀ {xs : List V} {ds : List PyData}, RddAll H xs ds → xs.length = ds.length
  | _, _, .nil => rfl
  | _, _, .cons _ t => congrArg Nat.succ (rdds_len t)
theorem rdds_two {H : Hp} {xs : List V} {a b : PyData} : RddAll H xs [a, b] → ∃ x y, xs = [x, y] ∧ Rdd H x a ∧ Rdd H y b
  | .cons r1 (.cons r2 .nil) => ⟨_, _, rfl, r1, r2⟩
theorem rdds_add {H : Hp} {v : V} {d : PyData} (h : Rdd H v d) : ∀ {xs : List V} {ds : List PyData}, RddAll H xs ds → RddAll H (xs ++ [v]) (ds ++ [d])
  | _, _, .nil => .cons h .nil
  | _, _, .cons r t => .cons r (rdds_add h t)
theorem rdds_get {H : Hp} : ∀ {xs : List V} {ds : List PyData} {i : Nat} {d : PyData}, RddAll H xs ds → ds[i]? = some d → ∃ x, xs[i]? = some x ∧ Rdd H x d
  | _, _, _, _, .nil, e => by simp at e
  | _, _, 0, _, .cons r _, e => by simp at e; subst e; exact ⟨_, rfl, r⟩
  | _, _, i + 1, _, .cons _ t, e => rdds_get (i := i) t (by simpa using e)
theorem rdds_of {H : Hp} : ∀ {xs : List V} {ds : List PyData}, xs.length = ds.length → (∀ (i : Nat) (x : V) (d : PyData), xs[i]? = some x → ds[i]? = some d → Rdd H x d) → RddAll H xs ds
  | [], [], _, _ => .nil
  | x :: xs, d :: ds, l, h => by
    refine .cons (h 0 x d rfl rfl) (rdds_of (by simpa using l) fun i y e h1 h2 => h (i + 1) y e ?_ ?_)
    · rw [List.getElem?_cons_succ]; exact h1
    · rw [List.getElem?_cons_succ]; exact h2
  | [], _ :: _, l, _ => nomatch l
  | _ :: _, [], l, _ => nomatch l
theorem rdds_app {H : Hp} : ∀ {xs ys : List V} {ds es : List PyData}, RddAll H xs ds → RddAll H ys es → RddAll H (xs ++ ys) (ds ++ es)
  | _, _, _, _, .nil, s => s
  | _, _, _, _, .cons r t, s => .cons r (rdds_app t s)
theorem str_eq {a b : Str} (h : a.cps.toList = b.cps.toList) : a = b := by
  cases a; cases b
  simp at h
  rw [h]
theorem same_del {H H' : Hp} {D : Addr} (k : Same H H') (h : H D = none) : Same H (del H' D) := fun b o e => by
  rw [del_ne (ne_of_none e h)]
  exact k b o e
theorem del_new {b p : Addr} {H : Hp} {o u : HO} (hb : H b = some o) (hp : H p = none) : del (upd H p u) b p = some u := by
  rw [del_ne (ne_of_none hb hp).symm]
  exact upd_same
/-- a comprehension over what is walked, its test p, its items as R tells; the new list at D is no part of what R speaks of -/
theorem lc_gen {J : It} {n : Nat} {G : Hp → Prop} {Y : Nat → Hp → V → Hp → Prop} (w : Walk J n G Y) {g : TG} {tt : TT} {te : TE} {vs : List Nat} {σ : St} {H : Hp} {D : Addr} {Qd : Hp → Prop} (p : Nat → Bool) (R : Nat → V → Hp → Prop)
    (Rm : ∀ i y H1 H2, Same H1 H2 → R i y H1 → R i y H2) (hD : H D = none) (hn : n ≤ 16777215) (hG : ∀ H', Same H (del H' D) → G H')
    (he : ∀ i x H1 H2 (K : V → Hp → Prop) (N : Hp → Prop), i < n → Same H (del H1 D) → (∃ o, H1 D = some o) → Y i H1 x H2 → (p i = true → ∀ y H4, Same H1 H4 → R i y (del H4 D) → K y H4) → (p i = false → ∀ H4, Same H1 H4 → N H4) →
      g x (wipe σ vs) H2 fun σ2 H2' => wipe σ2 vs = wipe σ vs ∧ tt σ2 H2' fun b H3 => if b = true then te σ2 H3 K else N H3)
    (q : ∀ (ys : List V) (H' : Hp), Same H (del H' D) → H' D = some (.lst ys) → ys.length = ((List.range n).filter p).length → (∀ (k i : Nat) (y : V), ((List.range n).filter p)[k]? = some i → ys[k]? = some y → R i y (del H' D)) → Qd H') :
    ∃ W : Nat → Nat → Hp → Prop, (∃ m, W 0 m (upd H D (.lst []))) ∧ ∀ i m H, W i m H →
      (J.stop i H ∧ Qd H) ∨ (J.go i H ∧ ∃ Nx : Hp → Prop, (∀ H', Nx H' → ∃ m', m' < m ∧ W (i + 1) m' H') ∧ ∀ x H', J.yld i H x H' → g x (wipe σ vs) H' fun σ2 H2 => wipe σ2 vs = wipe σ vs ∧ tt σ2 H2 fun b H3 =>
        if b = true then te σ2 H3 fun y H4 => ∃ acc, H4 D = some (.lst acc) ∧ acc.length < sizeLine ∧ Nx (upd H4 D (.lst (acc ++ [y]))) else Nx H3) := by
  have step : ∀ i, (List.range (i + 1)).filter p = (List.range i).filter p ++ (if p i = true then [i] else []) := fun i => by
    rw [List.range_succ, List.filter_append]
    by_cases e : p i = true
    · rw [if_pos e, List.filter_cons_of_pos e] <;> rfl
    · rw [if_neg e, List.filter_cons_of_neg e] <;> rfl
  refine lc_it w (fun i H' => Same H (del H' D) ∧ ∃ ys, H' D = some (.lst ys) ∧ ys.length = ((List.range i).filter p).length ∧ ∀ (k j : Nat) (y : V), ((List.range i).filter p)[k]? = some j → ys[k]? = some y → R j y (del H' D)) ?_ (fun i H' _ h => hG H' h.1) ?_ ?_
  · refine ⟨fun b o e => ?_, [], upd_same, rfl, fun k j y h => by simp at h⟩
    rw [del_ne (ne_of_none e hD), upd_ne (ne_of_none e hD)]
    exact e
  · rintro i x H1 H2 hi ⟨k1, ys, h1, l1, r1⟩ hy
    have bound : ((List.range i).filter p).length ≤ i := by
      have := List.length_filter_le p (List.range i)
      rwa [List.length_range] at this
    refine he i x H1 H2 _ _ hi k1 ⟨_, h1⟩ hy (fun e y H4 k4 r4 => ?_) (fun e H4 k4 => ?_)
    · refine ⟨ys, k4 _ _ h1, by rw [l1]; exact lt_ln (by omega), (fun b o z => ?_), _, upd_same, ?_, ?_⟩
      · have z1 := k1 b o z
        have nb : b ≠ D := ne_of_none z hD
        rw [del_ne nb] at z1 ⊢
        rw [upd_ne nb]
        exact k4 _ _ z1
      · rw [step, if_pos e, List.length_append, List.length_append, l1] <;> rfl
      · intro k j y2 hk hy2
        have dd : del (upd H4 D (.lst (ys ++ [y]))) D = del H4 D := by
          funext b
          by_cases nb : b = D
          · rw [nb, del_same, del_same]
          · rw [del_ne nb, del_ne nb, upd_ne nb]
        rw [dd]
        rw [step, if_pos e] at hk
        by_cases c : k < ys.length
        · rw [List.getElem?_append_left (by omega)] at hk
          rw [List.getElem?_append_left c] at hy2
          exact Rm _ _ _ _ (del_mono k4) (r1 k j y2 hk hy2)
        · have lt := (List.getElem?_eq_some_iff.mp hy2).1
          rw [List.length_append] at lt
          have ek : k = ys.length := by
            have : ([y] : List V).length = 1 := rfl
            omega
          subst ek
          rw [List.getElem?_append_right (by omega)] at hk
          rw [List.getElem?_append_right (Nat.le_refl _)] at hy2
          rw [← l1, Nat.sub_self] at hk
          rw [Nat.sub_self] at hy2
          obtain rfl : i = j := by simpa using hk
          obtain rfl : y = y2 := by simpa using hy2
          exact r4
    · refine ⟨(fun b o z => ?_), ys, k4 _ _ h1, ?_, ?_⟩
      · have z1 := k1 b o z
        have nb : b ≠ D := ne_of_none z hD
        rw [del_ne nb] at z1 ⊢
        exact k4 _ _ z1
      · rw [step, if_neg (by rw [e]; exact Bool.false_ne_true), List.append_nil, l1]
      · intro k j y2 hk hy2
        rw [step, if_neg (by rw [e]; exact Bool.false_ne_true), List.append_nil] at hk
        exact Rm _ _ _ _ (del_mono k4) (r1 k j y2 hk hy2)
  · rintro H1 ⟨k1, ys, h1, l1, r1⟩
    exact q ys H1 k1 h1 l1 r1
theorem map_of {F : Nat → V} : ∀ {is : List Nat} {ys : List V}, ys.length = is.length → (∀ (k i : Nat) (y : V), is[k]? = some i → ys[k]? = some y → y = F i) → ys = is.map F
  | [], [], _, _ => rfl
  | i :: is, y :: ys, l, h => by
    have e0 := h 0 i y rfl rfl
    have e1 : ys = is.map F := map_of (by simpa using l) fun k j z h1 h2 => h (k + 1) j z (by rw [List.getElem?_cons_succ]; exact h1) (by rw [List.getElem?_cons_succ]; exact h2)
    rw [e0, e1]
    rfl
  | [], _ :: _, l, _ => nomatch l
  | _ :: _, [], l, _ => nomatch l
/-- what is a list or a tuple, walked -/
def iSeq (K : PySem.W.Frag) (tl : TE) : TI := fun σ H R => tl σ H fun x H1 => ∃ a xs, x = .ref a ∧ (SqL K H1 a xs ∨ SqT K H1 a xs) ∧ ∀ J, Walk J xs.length (fun H => H a = H1 a) (YAt xs) → R J H1
theorem sqL_at {K : PySem.W.Frag} {H H' : Hp} {a : Addr} {xs : List V} (e : H' a = H a) (h : SqL K H a xs) : SqL K H' a xs :=
  h.elim (fun h => .inl (h.elim (fun h => .inl (e.trans h)) fun ⟨o, h⟩ => .inr ⟨o, e.trans h⟩)) fun h => .inr h
theorem sqT_at {K : PySem.W.Frag} {H H' : Hp} {a : Addr} {xs : List V} (e : H' a = H a) (h : SqT K H a xs) : SqT K H' a xs :=
  h.elim (fun h => .inl (h.elim (fun h => .inl (e.trans h)) fun ⟨o, h⟩ => .inr ⟨o, e.trans h⟩)) fun h => .inr h
theorem pi_seq {X : Cx} {tg l : Expr} {tl : TE} (hl : PE X l tl) : PI X tg l (iSeq X.K tl) := by
  refine ⟨fun pins s σ H R I h => ?_⟩
  refine thn (hl.run pins s σ H _ I h) fun v s1 ⟨x, H1, I1, r1, q1⟩ => ?_
  obtain ⟨a, xs, e, hq, q⟩ := q1
  subst e
  cases r1
  rcases hq with hq | hq
  · have q := q (Itl X.K a) (walk_list.mono (fun H e => sqL_at e hq) fun _ _ _ _ _ _ y => y)
    obtain ⟨its, rv, p, hz⟩ := I1.list hq
    refine wpAny_pyIter_list p.isList ?_
    refine ⟨s1.heap.objs.size, [s1.heap.objs.size], _, _, H1, rfl, I1.kept (t' := s1.toks) fun b o e => Heap.get?_push_of_some _ e, turn_list a _, ⟨_, Heap.get?_push_size _ rfl, rfl, rfl⟩, fun b hb => ?_, q⟩
    have e : b = s1.heap.objs.size := by simpa using hb
    subst e
    exact I1.fpOk (Nat.le_refl _) (I1.hok.fresh (Nat.le_refl _))
  · have q := q (Itt X.K a) (walk_tup.mono (fun H e => sqT_at e hq) fun _ _ _ _ _ _ y => y)
    obtain ⟨its, rv, p, hz⟩ := I1.tuple hq
    refine wpAny_pyIter_tuple (show s1.heap.IsTuple a its.toArray from p) ?_
    refine ⟨s1.heap.objs.size, [s1.heap.objs.size], _, _, H1, rfl, I1.kept (t' := s1.toks) fun b o e => Heap.get?_push_of_some _ e, turn_tuple a _, ⟨_, Heap.get?_push_size _ rfl, rfl, rfl⟩, fun b hb => ?_, q⟩
    have e : b = s1.heap.objs.size := by simpa using hb
    subst e
    exact I1.fpOk (Nat.le_refl _) (I1.hok.fresh (Nat.le_refl _))
theorem filt_all (n : Nat) : (List.range n).filter (fun _ => true) = List.range n := by
  rw [List.filter_eq_self]
  exact fun _ _ => rfl
theorem sqL_same {K : PySem.W.Frag} {H H' : Hp} {a : Addr} {xs : List V} (k : Same H H') (h : SqL K H a xs) : SqL K H' a xs := SqL.ext h k
theorem sqT_same {K : PySem.W.Frag} {H H' : Hp} {a : Addr} {xs : List V} (k : Same H H') (h : SqT K H a xs) : SqT K H' a xs := SqT.ext h k
theorem del_sub {H H' : Hp} {D : Addr} (k : Same H (del H' D)) : Same H H' := fun b o e => del_le b o (k b o e)
theorem rel_app {vs zs : List V} {us ws : List Value} (r : Vals vs us) (q : Vals zs ws) : Vals (vs ++ zs) (us ++ ws) := r.append q
end L2

/-! trees: their roads, their walks -/
namespace Tm
abbrev Road := Nat × Nat
/-- the order of two roads -/
def ltR (a b : Road) : Bool := decide (a.1 < b.1) || (decide (a.1 = b.1) && decide (a.2 < b.2))
structure RoadsOk (n : Nat) (rs : List Road) : Prop where
  len : rs.length + 1 = n
  bnd : ∀ r ∈ rs, r.1 < r.2 ∧ r.2 < n
  asc : rs.Pairwise (fun a b => ltR a b = true)
/-- the other end of a road at a house -/
def nb (h : Nat) (r : Road) : Option Nat := if r.1 = h then some r.2 else if r.2 = h then some r.1 else none
def near (rs : List Road) (h : Nat) : List Nat := rs.filterMap (nb h)
theorem near_snoc (rs : List Road) (r : Road) (h : Nat) : near (rs ++ [r]) h = near rs h ++ (nb h r).toList := by
  unfold near
  rw [List.filterMap_append]
  cases e : nb h r with
  | none => simp [e]
  | some x => simp [e]
theorem mem_near {rs : List Road} {h x : Nat} (H : x ∈ near rs h) : (h, x) ∈ rs ∨ (x, h) ∈ rs := by
  obtain ⟨r, hr, e⟩ := List.mem_filterMap.mp H
  unfold nb at e
  obtain ⟨a, b⟩ := r
  by_cases h1 : a = h
  · simp [h1] at e
    subst h1 e
    exact .inl hr
  · by_cases h2 : b = h
    · simp [h1, h2] at e
      subst h2 e
      exact .inr hr
    · simp [h1, h2] at e
theorem near_of {rs : List Road} {h x : Nat} (ne : ∀ r ∈ rs, r.1 < r.2) (H : (h, x) ∈ rs ∨ (x, h) ∈ rs) : x ∈ near rs h := by
  rcases H with H | H
  · exact List.mem_filterMap.mpr ⟨_, H, by simp [nb]⟩
  · have := ne _ H
    refine List.mem_filterMap.mpr ⟨_, H, ?_⟩
    have h1 : ¬ x = h := by
      intro e
      subst e
      exact absurd this (Nat.lt_irrefl _)
    simp [nb, h1]
theorem near_sym {rs : List Road} {h x : Nat} (ne : ∀ r ∈ rs, r.1 < r.2) (H : x ∈ near rs h) : h ∈ near rs x := near_of ne (mem_near H).symm
theorem near_lt {n : Nat} {rs : List Road} (ok : ∀ r ∈ rs, r.1 < r.2 ∧ r.2 < n) {h x : Nat} (H : x ∈ near rs h) : x < n ∧ h < n ∧ x ≠ h := by
  rcases mem_near H with H | H
  · have := ok _ H
    simp only at this
    omega
  · have := ok _ H
    simp only at this
    omega
/-- ascending -/
theorem near_asc {rs : List Road} (ne : ∀ r ∈ rs, r.1 < r.2) (asc : rs.Pairwise (fun a b => ltR a b = true)) (h : Nat) : (near rs h).Pairwise (· < ·) := by
  unfold near
  refine List.Pairwise.filterMap (R := fun a b => ltR a b = true ∧ a.1 < a.2 ∧ b.1 < b.2) (nb h) ?_ ?_
  · rintro ⟨a, b⟩ ⟨c, d⟩ ⟨l, l1, l2⟩ x hx y hy
    simp only [ltR, Bool.or_eq_true, Bool.and_eq_true, decide_eq_true_eq] at l
    simp only at l1 l2
    unfold nb at hx hy
    simp only at hx hy
    split at hx
    · split at hy
      · cases hx; cases hy; omega
      · split at hy
        · cases hx; cases hy; omega
        · cases hy
    · split at hx
      · split at hy
        · cases hx; cases hy; omega
        · split at hy
          · cases hx; cases hy; omega
          · cases hy
      · cases hx
  · exact asc.imp_of_mem fun ha hb e => ⟨e, ne _ ha, ne _ hb⟩
/-! ### the walk over all houses -/
abbrev B := List (Nat × Nat)
def keys (b : B) : List Nat := b.map (·.1)
/-- one neighbour o of h is looked at; the stack's top is its head -/
def visit (bar : Option Nat) (h : Nat) (s : B × List Nat) (o : Nat) : B × List Nat :=
  if some o = bar ∨ o ∈ keys s.1 then s else (s.1 ++ [(o, h)], o :: s.2)
abbrev visits (nr : Nat → List Nat) (bar : Option Nat) (h : Nat) (b : B) (st : List Nat) : B × List Nat := (nr h).foldl (visit bar h) (b, st)
inductive Dfs (nr : Nat → List Nat) (bar : Option Nat) : B → List Nat → B → Prop
  | done {b : B} : Dfs nr bar b [] b
  | step {b : B} {h : Nat} {st : List Nat} {r : B} : Dfs nr bar (visits nr bar h b st).1 (visits nr bar h b st).2 r → Dfs nr bar b (h :: st) r
theorem Dfs.det {nr : Nat → List Nat} {bar : Option Nat} {b : B} {st : List Nat} {r r' : B} (h : Dfs nr bar b st r) : Dfs nr bar b st r' → r = r' := by
  induction h with
  | done => intro k; cases k; rfl
  | step _ ih => intro k; cases k with | step k => exact ih k
/-- what has grown from the start -/
inductive Grown (nr : Nat → List Nat) (bar : Option Nat) (s : Nat) : B → Prop
  | base : Grown nr bar s [(s, s)]
  | grow {b : B} {x p : Nat} : Grown nr bar s b → p ∈ keys b → x ∈ nr p → some x ≠ bar → x ∉ keys b → Grown nr bar s (b ++ [(x, p)])
section
variable {nr : Nat → List Nat} {bar : Option Nat} {s : Nat}
theorem keys_snoc (b : B) (x p : Nat) : keys (b ++ [(x, p)]) = keys b ++ [x] := by simp [keys]
theorem Grown.nodup {b : B} (g : Grown nr bar s b) : (keys b).Nodup := by
  induction g with
  | base => simp [keys]
  | grow _ _ _ _ hx ih =>
    rw [keys_snoc]
    refine List.nodup_append.mpr ⟨ih, by simp, ?_⟩
    intro a ha c hc e
    simp at hc
    subst e hc
    exact hx ha
theorem Grown.start {b : B} (g : Grown nr bar s b) : s ∈ keys b := by
  induction g with
  | base => simp [keys]
  | grow _ _ _ _ _ ih => rw [keys_snoc]; exact List.mem_append_left _ ih
theorem Grown.bound {b : B} {n : Nat} (g : Grown nr bar s b) (hs : s < n) (hn : ∀ h, ∀ x ∈ nr h, x < n) : ∀ x ∈ keys b, x < n := by
  induction g with
  | base => intro x hx; simp [keys] at hx; omega
  | grow _ _ hx _ _ ih =>
    intro y hy
    rw [keys_snoc] at hy
    rcases List.mem_append.mp hy with hy | hy
    · exact ih y hy
    · simp at hy
      subst hy
      exact hn _ _ hx
theorem Grown.nobar {b : B} (g : Grown nr bar s b) (hs : some s ≠ bar) : ∀ x ∈ keys b, some x ≠ bar := by
  induction g with
  | base => intro x hx; simp [keys] at hx; subst hx; exact hs
  | grow _ _ _ hb _ ih =>
    intro y hy
    rw [keys_snoc] at hy
    rcases List.mem_append.mp hy with hy | hy
    · exact ih y hy
    · simp at hy
      subst hy
      exact hb
/-- a list of different numbers below n is no longer than n -/
theorem nodup_len : ∀ {n : Nat} {l : List Nat}, l.Nodup → (∀ x ∈ l, x < n) → l.length ≤ n
  | 0, [], _, _ => Nat.le_refl 0
  | 0, x :: l, _, h => absurd (h x List.mem_cons_self) (Nat.not_lt_zero _)
  | n + 1, l, d, h => by
    by_cases m : n ∈ l
    · have d2 := d.erase n
      have z := nodup_len (n := n) d2 fun x hx => by
        have h1 := h x (List.mem_of_mem_erase hx)
        have h2 : x ≠ n := fun e => by
          subst e
          exact (List.Nodup.mem_erase_iff d).mp hx |>.1 rfl
        omega
      have l1 := List.length_erase_of_mem m
      have l2 := List.length_pos_of_mem m
      omega
    · have z := nodup_len (n := n) d fun x hx => by
        have h1 := h x hx
        have h2 : x ≠ n := fun e => by
          subst e
          exact m hx
        omega
      omega
/-- what the neighbours of h leave -/
theorem visit_grown {h : Nat} : ∀ {os : List Nat} {b : B} {st : List Nat}, Grown nr bar s b → h ∈ keys b → (∀ o ∈ os, o ∈ nr h) →
    Grown nr bar s (os.foldl (visit bar h) (b, st)).1 ∧ (∀ x ∈ keys b, x ∈ keys (os.foldl (visit bar h) (b, st)).1) ∧ (∀ o ∈ os, some o ≠ bar → o ∈ keys (os.foldl (visit bar h) (b, st)).1) ∧
    (∀ x ∈ keys (os.foldl (visit bar h) (b, st)).1, x ∈ keys b ∨ x ∈ (os.foldl (visit bar h) (b, st)).2) ∧ (∀ x ∈ st, x ∈ (os.foldl (visit bar h) (b, st)).2) ∧
    (∀ x ∈ (os.foldl (visit bar h) (b, st)).2, x ∈ st ∨ x ∈ keys (os.foldl (visit bar h) (b, st)).1) ∧
    (os.foldl (visit bar h) (b, st)).1.length + st.length = b.length + (os.foldl (visit bar h) (b, st)).2.length
  | [], b, st, g, hh, ho => ⟨g, fun x hx => hx, (fun o ho => nomatch ho), fun x hx => .inl hx, fun x hx => hx, fun x hx => .inl hx, by simp⟩
  | o :: os, b, st, g, hh, ho => by
    rw [List.foldl_cons]
    by_cases c : some o = bar ∨ o ∈ keys b
    · have e : visit bar h (b, st) o = (b, st) := by simp [visit, c]
      rw [e]
      obtain ⟨h1, h2, h3, h4, h5, h6, h7⟩ := visit_grown (os := os) (st := st) g hh fun x hx => ho x (List.mem_cons_of_mem _ hx)
      refine ⟨h1, h2, fun x hx nb => ?_, h4, h5, h6, h7⟩
      rcases List.mem_cons.mp hx with rfl | hx
      · rcases c with c | c
        · exact absurd c nb
        · exact h2 _ c
      · exact h3 x hx nb
    · have e : visit bar h (b, st) o = (b ++ [(o, h)], o :: st) := by simp [visit, c]
      rw [e]
      have c1 : ¬ some o = bar := fun z => c (.inl z)
      have c2 : ¬ o ∈ keys b := fun z => c (.inr z)
      have g2 : Grown nr bar s (b ++ [(o, h)]) := .grow g hh (ho o List.mem_cons_self) c1 c2
      have up : ∀ x ∈ keys b, x ∈ keys (b ++ [(o, h)]) := fun x hx => by rw [keys_snoc]; exact List.mem_append_left _ hx
      obtain ⟨h1, h2, h3, h4, h5, h6, h7⟩ := visit_grown (os := os) (st := o :: st) g2 (up _ hh) fun x hx => ho x (List.mem_cons_of_mem _ hx)
      have ok : o ∈ keys (b ++ [(o, h)]) := by rw [keys_snoc]; simp
      refine ⟨h1, fun x hx => h2 _ (up _ hx), fun x hx nb => ?_, fun x hx => ?_, fun x hx => h5 x (List.mem_cons_of_mem _ hx), fun x hx => ?_, ?_⟩
      · rcases List.mem_cons.mp hx with rfl | hx
        · exact h2 _ ok
        · exact h3 x hx nb
      · rcases h4 x hx with h | h
        · rw [keys_snoc] at h
          rcases List.mem_append.mp h with h | h
          · exact .inl h
          · simp at h
            subst h
            exact .inr (h5 _ List.mem_cons_self)
        · exact .inr h
      · rcases h6 x hx with h | h
        · rcases List.mem_cons.mp h with rfl | h
          · exact .inr (h2 _ ok)
          · exact .inl h
        · exact .inr h
      · simp only [List.length_append, List.length_cons, List.length_nil] at h7 ⊢
        omega
/-- all neighbours of what is done are there -/
def Closed (nr : Nat → List Nat) (bar : Option Nat) (b : B) (st : List Nat) : Prop := ∀ x ∈ keys b, x ∉ st → ∀ o ∈ nr x, some o ≠ bar → o ∈ keys b
structure Going (nr : Nat → List Nat) (bar : Option Nat) (s : Nat) (b : B) (st : List Nat) : Prop where
  g : Grown nr bar s b
  c : Closed nr bar b st
  sub : ∀ x ∈ st, x ∈ keys b
theorem Going.start : Going nr bar s [(s, s)] [s] := ⟨.base, fun x hx nx => absurd (by simpa [keys] using hx) (by simpa using nx), fun x hx => by simpa [keys] using hx⟩
theorem Going.next {b : B} {h : Nat} {st : List Nat} (G : Going nr bar s b (h :: st)) : Going nr bar s (visits nr bar h b st).1 (visits nr bar h b st).2 ∧
    (visits nr bar h b st).1.length + st.length = b.length + (visits nr bar h b st).2.length := by
  obtain ⟨h1, h2, h3, h4, h5, h6, h7⟩ := visit_grown (os := nr h) (st := st) G.g (G.sub h List.mem_cons_self) fun o ho => ho
  refine ⟨⟨h1, fun x hx nx o ho nb => ?_, fun x hx => ?_⟩, h7⟩
  · rcases h4 x hx with hb | hb
    · by_cases e : x = h
      · subst e
        exact h3 o ho nb
      · refine h2 _ (G.c x hb (fun hm => ?_) o ho nb)
        rcases List.mem_cons.mp hm with rfl | hm
        · exact e rfl
        · exact nx (h5 _ hm)
    · exact absurd hb nx
  · rcases h6 x hx with h | h
    · exact h2 _ (G.sub x (List.mem_cons_of_mem _ h))
    · exact h
theorem Dfs.going {b : B} {st : List Nat} {r : B} (d : Dfs nr bar b st r) (G : Going nr bar s b st) : Going nr bar s r [] := by
  induction d with
  | done => exact G
  | step _ ih => exact ih G.next.1
/-- how many houses are still to be looked at -/
theorem Going.room {b : B} {st : List Nat} {n : Nat} (G : Going nr bar s b st) (hs : s < n) (hn : ∀ h, ∀ x ∈ nr h, x < n) : b.length ≤ n := by
  have z := nodup_len G.g.nodup (G.g.bound hs hn)
  simpa [keys] using z
theorem Dfs.ex {n : Nat} (hs : s < n) (hn : ∀ h, ∀ x ∈ nr h, x < n) : ∀ (k : Nat) {b : B} {st : List Nat}, Going nr bar s b st → st.length + (n - b.length) ≤ k → ∃ r, Dfs nr bar b st r := by
  intro k
  induction k with
  | zero =>
    intro b st G h
    cases st with
    | nil => exact ⟨b, .done⟩
    | cons x st => simp at h
  | succ k ih =>
    intro b st G h
    cases st with
    | nil => exact ⟨b, .done⟩
    | cons x st =>
      obtain ⟨G2, e⟩ := G.next
      have l1 := G2.room hs hn
      have l0 := G.room hs hn
      rw [List.length_cons] at h
      obtain ⟨r, d⟩ := ih G2 (by omega)
      exact ⟨r, .step d⟩
theorem dfs_all {n : Nat} (hs : s < n) (hn : ∀ h, ∀ x ∈ nr h, x < n) : ∃ r, Dfs nr bar [(s, s)] [s] r ∧ Going nr bar s r [] := by
  obtain ⟨r, d⟩ := Dfs.ex hs hn _ (b := [(s, s)]) (st := [s]) .start (Nat.le_refl _)
  exact ⟨r, d, d.going .start⟩
end
end Tm

namespace Tm
/-! ### ways -/
/-- from x upward to the start s -/
inductive Up (b : B) (s : Nat) : Nat → List Nat → Prop
  | here : Up b s s [s]
  | step {x p : Nat} {l : List Nat} : x ≠ s → (x, p) ∈ b → Up b s p l → Up b s x (x :: l)
theorem key_mem {b : B} {x p : Nat} (h : (x, p) ∈ b) : x ∈ keys b := List.mem_map.mpr ⟨_, h, rfl⟩
theorem key_one {b : B} {x p q : Nat} (d : (keys b).Nodup) (h : (x, p) ∈ b) (k : (x, q) ∈ b) : p = q := by
  induction b with
  | nil => cases h
  | cons y b ih =>
    have d' : y.1 ∉ keys b ∧ (keys b).Nodup := by simpa [keys] using d
    rcases List.mem_cons.mp h with h | h
    · rcases List.mem_cons.mp k with k | k
      · rw [← h] at k
        exact (Prod.mk.inj k).2.symm
      · rw [← h] at d'
        exact absurd (key_mem k) d'.1
    · rcases List.mem_cons.mp k with k | k
      · rw [← k] at d'
        exact absurd (key_mem h) d'.1
      · exact ih d'.2 h k
theorem Up.det {b : B} {s x : Nat} {l l' : List Nat} (d : (keys b).Nodup) (h : Up b s x l) : Up b s x l' → l = l' := by
  induction h generalizing l' with
  | here =>
    intro k
    cases k with
    | here => rfl
    | step ne _ _ => exact absurd rfl ne
  | step ne m _ ih =>
    intro k
    cases k with
    | here => exact absurd rfl ne
    | step _ m' k =>
      have e := key_one d m m'
      subst e
      rw [ih k]
theorem Up.mono {b b' : B} {s x : Nat} {l : List Nat} (h : Up b s x l) (k : ∀ y ∈ b, y ∈ b') : Up b' s x l := by
  induction h with
  | here => exact .here
  | step ne m _ ih => exact .step ne (k _ m) ih
/-- y lies next to the one ahead of it -/
def Adj (nr : Nat → List Nat) : List Nat → Prop
  | [] => True
  | [_] => True
  | x :: y :: l => x ∈ nr y ∧ Adj nr (y :: l)
/-- a way from x to y -/
structure Path (nr : Nat → List Nat) (x y : Nat) (l : List Nat) : Prop where
  hd : l.head? = some x
  la : l.getLast? = some y
  nd : l.Nodup
  ad : Adj nr l
section
variable {nr : Nat → List Nat} {bar : Option Nat} {s : Nat}
theorem Grown.up {b : B} (g : Grown nr bar s b) : ∀ x ∈ keys b, ∃ l, Up b s x l ∧ Path nr x s l ∧ ∀ y ∈ l, y ∈ keys b := by
  induction g with
  | base =>
    intro x hx
    simp [keys] at hx
    subst hx
    exact ⟨[x], .here, ⟨rfl, rfl, by simp, True.intro⟩, fun y hy => by simpa [keys] using hy⟩
  | @grow b x p g hp hx nb nk ih =>
    intro z hz
    rw [keys_snoc] at hz
    have mo : ∀ y ∈ b, y ∈ b ++ [(x, p)] := fun y hy => List.mem_append_left _ hy
    have mk : ∀ y ∈ keys b, y ∈ keys (b ++ [(x, p)]) := fun y hy => by rw [keys_snoc]; exact List.mem_append_left _ hy
    rcases List.mem_append.mp hz with hz | hz
    · obtain ⟨l, u, pa, sub⟩ := ih z hz
      exact ⟨l, u.mono mo, pa, fun y hy => mk y (sub y hy)⟩
    · simp at hz
      subst hz
      obtain ⟨l, u, pa, sub⟩ := ih p hp
      have ns : z ≠ s := fun e => by
        subst e
        exact nk g.start
      refine ⟨z :: l, .step ns (by simp) (u.mono mo), ⟨rfl, ?_, ?_, ?_⟩, fun y hy => ?_⟩
      · have h1 := pa.hd
        cases l with
        | nil => cases h1
        | cons a l =>
          rw [List.getLast?_cons_cons]
          exact pa.la
      · exact List.nodup_cons.mpr ⟨fun m => nk (sub _ m), pa.nd⟩
      · have h1 := pa.hd
        cases l with
        | nil => cases h1
        | cons a l =>
          simp at h1
          subst h1
          exact ⟨hx, pa.ad⟩
      · rcases List.mem_cons.mp hy with rfl | hy
        · rw [keys_snoc]
          simp
        · exact mk y (sub y hy)
end
/-! ### a tree's roads are the steps of its walk -/
theorem erase_sub {α : Type} [DecidableEq α] : ∀ {l m : List α}, l.Nodup → (∀ x ∈ l, x ∈ m) → m.length ≤ l.length → ∀ x ∈ m, x ∈ l
  | [], m, _, _, h, x, hx => by
    cases m with
    | nil => cases hx
    | cons y m => simp at h
  | a :: l, m, d, s, h, x, hx => by
    have d' := List.nodup_cons.mp d
    have ha := s a List.mem_cons_self
    by_cases e : x = a
    · subst e
      exact List.mem_cons_self
    · refine List.mem_cons_of_mem _ (erase_sub (m := m.erase a) d'.2 (fun y hy => ?_) ?_ x ?_)
      · have ne : y ≠ a := fun q => by
          subst q
          exact d'.1 hy
        exact (List.mem_erase_of_ne ne).mpr (s y (List.mem_cons_of_mem _ hy))
      · have l1 := List.length_erase_of_mem ha
        rw [List.length_cons] at h
        omega
      · exact (List.mem_erase_of_ne e).mpr hx
/-- the road between two -/
def mkR (x p : Nat) : Road := (min x p, max x p)
/-- the steps upward, the first left out -/
def stepsR (b : B) : List Road := b.tail.map fun y => mkR y.1 y.2
/-- its place in the walk -/
def idx (b : B) (x : Nat) : Nat := (keys b).findIdx (· == x)
theorem idx_snoc_old {b : B} {x p y : Nat} (h : y ∈ keys b) : idx (b ++ [(x, p)]) y = idx b y := by
  unfold idx
  rw [keys_snoc, List.findIdx_append]
  have : (keys b).findIdx (· == y) < (keys b).length := List.findIdx_lt_length_of_exists ⟨y, h, by simp⟩
  simp [this]
theorem idx_lt {b : B} {y : Nat} (h : y ∈ keys b) : idx b y < (keys b).length := List.findIdx_lt_length_of_exists ⟨y, h, by simp⟩
theorem idx_snoc_new {b : B} {x p : Nat} (h : x ∉ keys b) : idx (b ++ [(x, p)]) x = (keys b).length := by
  unfold idx
  rw [keys_snoc, List.findIdx_append]
  have e : (keys b).findIdx (· == x) = (keys b).length := by
    rw [List.findIdx_eq_length]
    intro y hy
    simp
    intro e
    subst e
    exact h hy
  simp [e]
section
variable {nr : Nat → List Nat} {bar : Option Nat} {s : Nat}
theorem Grown.tail {b : B} (g : Grown nr bar s b) : ∃ t, b = (s, s) :: t := by
  induction g with
  | base => exact ⟨[], rfl⟩
  | grow _ _ _ _ _ ih =>
    obtain ⟨t, e⟩ := ih
    subst e
    exact ⟨t ++ [_], rfl⟩
theorem Grown.par {b : B} (g : Grown nr bar s b) : ∀ y ∈ b.tail, y.2 ∈ keys b ∧ y.1 ∈ nr y.2 ∧ idx b y.2 < idx b y.1 ∧ y.1 ≠ s := by
  induction g with
  | base => intro y hy; cases hy
  | @grow b x p g hp hx nb nk ih =>
    obtain ⟨t, e⟩ := g.tail
    intro y hy
    have hy : y ∈ b.tail ++ [(x, p)] := by
      subst e
      exact hy
    rcases List.mem_append.mp hy with hy | hy
    · obtain ⟨h1, h2, h3, h4⟩ := ih y hy
      have k : y.1 ∈ keys b := List.mem_map.mpr ⟨y, by subst e; exact List.mem_cons_of_mem _ hy, rfl⟩
      refine ⟨by rw [keys_snoc]; exact List.mem_append_left _ h1, h2, ?_, h4⟩
      rw [idx_snoc_old h1, idx_snoc_old k]
      exact h3
    · simp at hy
      subst hy
      refine ⟨by rw [keys_snoc]; exact List.mem_append_left _ hp, hx, ?_, fun e => nk (by rw [show x = s from e]; exact g.start)⟩
      rw [idx_snoc_old hp, idx_snoc_new nk]
      exact idx_lt hp
theorem mem_tail {b : B} {x p : Nat} (g : Grown nr bar s b) (h : (x, p) ∈ b) (ne : x ≠ s) : (x, p) ∈ b.tail := by
  obtain ⟨t, e⟩ := g.tail
  subst e
  rcases List.mem_cons.mp h with h | h
  · cases h
    exact absurd rfl ne
  · exact h
end
/-- whatever tree: its roads are steps -/
theorem roads_steps {n : Nat} {rs : List Road} {b : B} (ok : RoadsOk n rs) (g : Grown (near rs) none 0 b) (all : b.length = n) : ∀ r ∈ rs, (r.1, r.2) ∈ b.tail ∨ (r.2, r.1) ∈ b.tail := by
  have ne : ∀ r ∈ rs, r.1 < r.2 := fun r hr => (ok.bnd r hr).1
  obtain ⟨t, e⟩ := g.tail
  have lt : t.length + 1 = n := by
    rw [e] at all
    simpa using all
  have sub : ∀ r ∈ stepsR b, r ∈ rs := by
    intro r hr
    obtain ⟨y, hy, rfl⟩ := List.mem_map.mp hr
    obtain ⟨h1, h2, h3, h4⟩ := g.par y hy
    unfold mkR
    rcases mem_near h2 with h | h
    · have z := ne _ h
      simp only at z
      rw [Nat.min_eq_right (by omega), Nat.max_eq_left (by omega)]
      exact h
    · have z := ne _ h
      simp only at z
      rw [Nat.min_eq_left (by omega), Nat.max_eq_right (by omega)]
      exact h
  have nd : (stepsR b).Nodup := by
    have d := g.nodup
    have dt : (b.tail.map (·.1)).Nodup := by
      subst e
      have : (0 :: t.map (·.1)).Nodup := d
      exact (List.nodup_cons.mp this).2
    unfold stepsR
    refine List.pairwise_map.mpr ?_
    have d2 := List.pairwise_map.mp dt
    refine d2.imp_of_mem fun {y z} hy hz hne q => ?_
    have p1 := g.par y hy
    have p2 := g.par z hz
    unfold mkR at q
    have q1 := (Prod.mk.inj q).1
    have q2 := (Prod.mk.inj q).2
    have : y.1 = z.2 ∧ y.2 = z.1 := by omega
    rw [this.1, this.2] at p1
    omega
  have back := erase_sub nd sub (by unfold stepsR; rw [List.length_map, e]; show rs.length ≤ t.length; have := ok.len; omega)
  intro r hr
  obtain ⟨y, hy, q⟩ := List.mem_map.mp (back r hr)
  have l := ne r hr
  unfold mkR at q
  have q1 : min y.1 y.2 = r.1 := congrArg Prod.fst q
  have q2 : max y.1 y.2 = r.2 := congrArg Prod.snd q
  obtain ⟨y1, y2⟩ := y
  simp only at q1 q2
  by_cases c : y1 ≤ y2
  · have e1 : y1 = r.1 := by omega
    have e2 : y2 = r.2 := by omega
    subst e1 e2
    exact .inl hy
  · have e1 : y1 = r.2 := by omega
    have e2 : y2 = r.1 := by omega
    subst e1 e2
    exact .inr hy
end Tm

namespace Tm
/-! ### there is just one way -/
structure Rooted (n : Nat) (nr : Nat → List Nat) (b : B) : Prop where
  g : Grown nr none 0 b
  st : ∀ x y, x ∈ nr y → (x, y) ∈ b.tail ∨ (y, x) ∈ b.tail
  sym : ∀ x y, x ∈ nr y → y ∈ nr x
  all : ∀ x, x < n → x ∈ keys b
  lt : ∀ x y, x ∈ nr y → x < n
  nr0 : 0 < n
section
variable {n : Nat} {nr : Nat → List Nat} {b : B}
theorem par_one (R : Rooted n nr b) {x p q : Nat} (h : (x, p) ∈ b.tail) (k : (x, q) ∈ b.tail) : p = q :=
  key_one R.g.nodup (List.mem_of_mem_tail h) (List.mem_of_mem_tail k)
theorem idx_inj {x y : Nat} (hx : x ∈ keys b) (hy : y ∈ keys b) (e : idx b x = idx b y) : x = y := by
  have h1 := idx_lt hx
  have h2 := idx_lt hy
  have e1 : (keys b)[idx b x] = x := by
    exact beq_iff_eq.mp (List.findIdx_getElem (xs := keys b) (p := (· == x)) (w := h1))
  have e2 : (keys b)[idx b y] = y := by
    exact beq_iff_eq.mp (List.findIdx_getElem (xs := keys b) (p := (· == y)) (w := h2))
  rw [← e1, ← e2]
  simp [e]
theorem climb (R : Rooted n nr b) : ∀ {x z y : Nat} {l : List Nat}, (x :: z :: l).Nodup → Adj nr (x :: z :: l) → (x :: z :: l).getLast? = some y → (z, x) ∈ b.tail → idx b x < idx b y
  | x, z, y, [], _, _, la, h => by
    simp at la
    subst la
    exact (R.g.par _ h).2.2.1
  | x, z, y, w :: l, nd, ad, la, h => by
    have h1 := (R.g.par _ h).2.2.1
    simp only at h1
    have ad2 : z ∈ nr w ∧ Adj nr (w :: l) := ad.2
    rcases R.st z w ad2.1 with k | k
    · have e := par_one R h k
      subst e
      have := List.nodup_cons.mp nd
      exact absurd (by simp) this.1
    · have i := climb R (List.nodup_cons.mp nd).2 ad.2 (by rw [← la]; exact List.getLast?_cons_cons.symm) k
      omega
theorem path_step (R : Rooted n nr b) {x y : Nat} {l : List Nat} (p : Path nr x y l) (h : idx b y < idx b x) : ∃ z r, l = x :: r ∧ (x, z) ∈ b.tail ∧ Path nr z y r := by
  obtain ⟨hd, la, nd, ad⟩ := p
  match l, hd, la, nd, ad with
  | [a], hd, la, nd, ad =>
    simp at hd la
    subst hd la
    exact absurd h (Nat.lt_irrefl _)
  | a :: z :: r, hd, la, nd, ad =>
    simp at hd
    subst hd
    rcases R.st a z ad.1 with k | k
    · exact ⟨z, z :: r, rfl, k, ⟨rfl, by rw [← la, List.getLast?_cons_cons], (List.nodup_cons.mp nd).2, ad.2⟩⟩
    · have := climb R nd ad la k
      omega
theorem adj_split : ∀ {p : List Nat} {m : Nat} {q : List Nat}, Adj nr (p ++ m :: q) ↔ Adj nr (p ++ [m]) ∧ Adj nr (m :: q)
  | [], m, q => by simp [Adj]
  | [a], m, q => by simp [Adj]
  | a :: c :: p, m, q => by
    have i := adj_split (p := c :: p) (m := m) (q := q)
    simp only [List.cons_append] at i ⊢
    show (a ∈ nr c ∧ Adj nr (c :: (p ++ m :: q))) ↔ (a ∈ nr c ∧ Adj nr (c :: (p ++ [m]))) ∧ _
    rw [i]
    constructor
    · rintro ⟨h1, h2, h3⟩; exact ⟨⟨h1, h2⟩, h3⟩
    · rintro ⟨⟨h1, h2⟩, h3⟩; exact ⟨h1, h2, h3⟩
theorem adj_rev (sym : ∀ x y, x ∈ nr y → y ∈ nr x) : ∀ {l : List Nat}, Adj nr l → Adj nr l.reverse
  | [], _ => True.intro
  | [a], _ => True.intro
  | a :: c :: l, h => by
    have i := adj_rev sym h.2
    rw [List.reverse_cons] at i
    rw [List.reverse_cons, List.reverse_cons, List.append_assoc]
    show Adj nr (l.reverse ++ c :: [a])
    exact adj_split.mpr ⟨i, sym _ _ h.1, True.intro⟩
theorem Path.rev (sym : ∀ x y, x ∈ nr y → y ∈ nr x) {x y : Nat} {l : List Nat} (p : Path nr x y l) : Path nr y x l.reverse where
  hd := by rw [List.head?_reverse]; exact p.la
  la := by rw [List.getLast?_reverse]; exact p.hd
  nd := List.pairwise_reverse.mpr (p.nd.imp fun h e => h e.symm)
  ad := adj_rev sym p.ad
theorem path_one (R : Rooted n nr b) : ∀ (k : Nat) {x y : Nat} {l l' : List Nat}, x < n → y < n → l.length ≤ k → Path nr x y l → Path nr x y l' → l = l' := by
  intro k
  induction k with
  | zero =>
    intro x y l l' hx hy hk p p'
    have h := p.hd
    cases l with
    | nil => cases h
    | cons a l => simp at hk
  | succ k ih =>
    intro x y l l' hx hy hk p p'
    rcases Nat.lt_trichotomy (idx b x) (idx b y) with c | c | c
    · obtain ⟨z, r, e, hz, q⟩ := path_step R (p.rev R.sym) c
      obtain ⟨z', r', e', hz', q'⟩ := path_step R (p'.rev R.sym) c
      have ez := par_one R hz hz'
      subst ez
      have l1 : l.length = r.length + 1 := by rw [← List.length_reverse, e, List.length_cons]
      have zn : z < n := R.lt _ _ (R.sym _ _ (R.g.par _ hz).2.1)
      have i := ih zn hx (by omega) q q'
      rw [← List.reverse_reverse l, ← List.reverse_reverse l', e, e', i]
    · have e := idx_inj (R.all x hx) (R.all y hy) c
      subst e
      have one : ∀ {l : List Nat}, Path nr x x l → l = [x] := by
        intro l p
        obtain ⟨hd, la, nd, ad⟩ := p
        match l, hd, la, nd with
        | [a], hd, la, nd => simp at hd; rw [hd]
        | a :: c :: r, hd, la, nd =>
          simp at hd
          subst hd
          rw [List.getLast?_cons_cons] at la
          exact absurd (List.mem_of_getLast? la) (List.nodup_cons.mp nd).1
      rw [one p, one p']
    · obtain ⟨z, r, e, hz, q⟩ := path_step R p c
      obtain ⟨z', r', e', hz', q'⟩ := path_step R p' c
      have ez := par_one R hz hz'
      subst ez
      have zn : z < n := R.lt _ _ (R.sym _ _ (R.g.par _ hz).2.1)
      have i := ih zn hy (by rw [e, List.length_cons] at hk; omega) q q'
      rw [e, e', i]
theorem Path.uniq (R : Rooted n nr b) {x y : Nat} {l l' : List Nat} (hx : x < n) (hy : y < n) (p : Path nr x y l) (p' : Path nr x y l') : l = l' := path_one R _ hx hy (Nat.le_refl _) p p'
theorem last_app (p : List Nat) (m : Nat) (q : List Nat) : (p ++ m :: q).getLast? = (m :: q).getLast? := by
  rw [List.getLast?_append]
  cases e : (m :: q).getLast? with
  | none => simp at e
  | some x => rfl
/-- the first of m that is in l -/
theorem first_split (l : List Nat) : ∀ {m : List Nat}, (∃ x ∈ m, x ∈ l) → ∃ p x q, m = p ++ x :: q ∧ x ∈ l ∧ ∀ y ∈ p, y ∉ l
  | [], ⟨x, hx, _⟩ => nomatch hx
  | a :: m, ⟨x, hx, k⟩ => by
    by_cases c : a ∈ l
    · exact ⟨[], a, m, rfl, c, fun y hy => nomatch hy⟩
    · rcases List.mem_cons.mp hx with rfl | hx
      · exact absurd k c
      · obtain ⟨p, x2, q, e, h1, h2⟩ := first_split l (m := m) ⟨x, hx, k⟩
        refine ⟨a :: p, x2, q, by rw [e]; rfl, h1, fun y hy => ?_⟩
        rcases List.mem_cons.mp hy with rfl | hy
        · exact c
        · exact h2 y hy
theorem foot_eq (R : Rooted n nr b) {u v c : Nat} {L M1 M2 : List Nat} (hv : v < n) (hc : c < n) (pL : Path nr u v L) (p1 : Path nr c u M1) (p2 : Path nr c v M2) :
    ∃ m, (M1.filter fun h => decide (h ∈ L)).head? = some m ∧ (L.filter fun h => decide (h ∈ M1) && decide (h ∈ M2)).head? = some m ∧ m ∈ L := by
  have uL : u ∈ L := List.mem_of_mem_head? pL.hd
  have uM : u ∈ M1 := List.mem_of_getLast? p1.la
  obtain ⟨p, m, q, e1, hm, hp⟩ := first_split L ⟨u, uM, uL⟩
  obtain ⟨p', q', e2⟩ := List.append_of_mem hm
  have ndL := pL.nd
  have nd1 := p1.nd
  rw [e2] at ndL
  rw [e1] at nd1
  have N : Path nr c v (p ++ m :: q') := by
    refine ⟨?_, ?_, ?_, ?_⟩
    · have h := p1.hd
      rw [e1] at h
      cases p with
      | nil => exact h
      | cons a p => exact h
    · have h := pL.la
      rw [e2, last_app] at h
      rw [last_app]
      exact h
    · refine List.nodup_append.mpr ⟨(List.nodup_append.mp nd1).1, (List.nodup_append.mp ndL).2.1, fun a ha d hd e => ?_⟩
      subst e
      refine hp a ha ?_
      rw [e2]
      exact List.mem_append_right _ hd
    · have a1 := p1.ad
      have a2 := pL.ad
      rw [e1] at a1
      rw [e2] at a2
      exact adj_split.mpr ⟨(adj_split.mp a1).1, (adj_split.mp a2).2⟩
  have e3 := p2.uniq R hc hv N
  refine ⟨m, ?_, ?_, hm⟩
  · rw [e1, List.filter_append]
    have z : p.filter (fun h => decide (h ∈ L)) = [] := List.filter_eq_nil_iff.mpr fun y hy => by simpa using hp y hy
    rw [z, List.nil_append, List.filter_cons_of_pos (by simpa using hm)]
    rfl
  · have key : ∀ y ∈ p', y ∉ M2 := by
      intro y hy hm2
      rw [e3] at hm2
      rcases List.mem_append.mp hm2 with k | k
      · exact hp y k (by rw [e2]; exact List.mem_append_left _ hy)
      · exact (List.nodup_append.mp ndL).2.2 y hy y k rfl
    have m1 : m ∈ M1 := by rw [e1]; simp
    have m2 : m ∈ M2 := by rw [e3]; simp
    conv => lhs; rw [e2]
    rw [List.filter_append]
    have z : p'.filter (fun h => decide (h ∈ M1) && decide (h ∈ M2)) = [] := List.filter_eq_nil_iff.mpr fun y hy => by
      have := key y hy
      simp [this]
    rw [z, List.nil_append, List.filter_cons_of_pos (by simp [m1, m2])]
    rfl
end
/-- all houses are joined -/
def Joined (n : Nat) (rs : List Road) : Prop := ∃ b, Dfs (near rs) none [(0, 0)] [0] b ∧ b.length = n
theorem all_keys {n : Nat} {l : List Nat} (d : l.Nodup) (h : ∀ x ∈ l, x < n) (e : l.length = n) : ∀ x, x < n → x ∈ l := by
  intro x hx
  refine erase_sub (m := List.range n) d (fun y hy => List.mem_range.mpr (h y hy)) (by rw [List.length_range, e]; exact Nat.le_refl n) x (List.mem_range.mpr hx)
theorem rooted {n : Nat} {rs : List Road} (ok : RoadsOk n rs) (j : Joined n rs) : ∃ b, Rooted n (near rs) b := by
  obtain ⟨b, d, e⟩ := j
  have G := d.going .start
  have n0 : 0 < n := by have := ok.len; omega
  have lt : ∀ h, ∀ x ∈ near rs h, x < n := fun h x hx => (near_lt ok.bnd hx).1
  refine ⟨b, G.g, fun x y hx => ?_, fun x y => near_sym fun r hr => (ok.bnd r hr).1, fun x hx => ?_, fun x y hx => (near_lt ok.bnd hx).1, n0⟩
  · have st := roads_steps ok G.g e
    rcases mem_near hx with h | h
    · exact (st _ h).symm
    · exact st _ h
  · exact all_keys G.g.nodup (G.g.bound n0 lt) (by simpa [keys] using e) x hx
end Tm

namespace Tm
theorem ltR_irr (a : Road) : ltR a a = false := by simp [ltR]
theorem ltR_tri {a b : Road} (h : ltR b a = false) (ne : a ≠ b) : ltR a b = true := by
  obtain ⟨a1, a2⟩ := a
  obtain ⟨b1, b2⟩ := b
  simp only [ltR, Bool.or_eq_false_iff, Bool.and_eq_false_iff, decide_eq_false_iff_not, Bool.or_eq_true, Bool.and_eq_true, decide_eq_true_eq] at h ⊢
  rcases Nat.lt_trichotomy a1 b1 with c | c | c
  · exact .inl c
  · subst c
    rcases Nat.lt_trichotomy a2 b2 with d | d | d
    · exact .inr ⟨rfl, d⟩
    · exact absurd (by rw [d]) ne
    · omega
  · omega
theorem mkR_eq {x y z w : Nat} (h : mkR x y = mkR z w) : (x = z ∧ y = w) ∨ (x = w ∧ y = z) := by
  have h1 : min x y = min z w := congrArg Prod.fst h
  have h2 : max x y = max z w := congrArg Prod.snd h
  omega
theorem mkR_lt {x y : Nat} (h : x ≠ y) : (mkR x y).1 < (mkR x y).2 := by
  show min x y < max x y
  omega
theorem mkR_near {rs : List Road} {x y : Nat} (ne : ∀ r ∈ rs, r.1 < r.2) (h : mkR x y ∈ rs) : x ∈ near rs y ∧ y ∈ near rs x := by
  have k : (x, y) ∈ rs ∨ (y, x) ∈ rs := by
    by_cases c : x ≤ y
    · left
      have : mkR x y = (x, y) := by
        unfold mkR
        rw [Nat.min_eq_left c, Nat.max_eq_right c]
      rwa [this] at h
    · right
      have : mkR x y = (y, x) := by
        unfold mkR
        rw [Nat.min_eq_right (by omega), Nat.max_eq_left (by omega)]
      rwa [this] at h
  exact ⟨near_of ne k.symm, near_of ne k⟩
theorem nodup_inj : ∀ {l : List Nat} {i j : Nat}, l.Nodup → (hi : i < l.length) → (hj : j < l.length) → l[i] = l[j] → i = j
  | [], i, _, _, hi, _, _ => absurd hi (Nat.not_lt_zero _)
  | a :: l, 0, 0, _, _, _, _ => rfl
  | a :: l, 0, j + 1, d, hi, hj, e => by
    have d' := List.nodup_cons.mp d
    simp only [List.getElem_cons_zero, List.getElem_cons_succ] at e
    exact absurd (by rw [e]; exact List.getElem_mem _) d'.1
  | a :: l, i + 1, 0, d, hi, hj, e => by
    have d' := List.nodup_cons.mp d
    simp only [List.getElem_cons_zero, List.getElem_cons_succ] at e
    exact absurd (by rw [← e]; exact List.getElem_mem _) d'.1
  | a :: l, i + 1, j + 1, d, hi, hj, e => by
    have d' := List.nodup_cons.mp d
    simp only [List.getElem_cons_succ] at e
    rw [nodup_inj d'.2 (by simpa using hi) (by simpa using hj) e]
/-- a tree out of houses in any order, each joined to one ahead of it -/
theorem tree_of {n : Nat} {ms : List Nat} {js : Nat → Nat} {rs : List Road} (n0 : 0 < n) (hl : ms.length = n) (nd : ms.Nodup) (bd : ∀ x ∈ ms, x < n)
    (hj : ∀ i, i + 1 < n → js (i + 1) ≤ i) (hp : rs.Perm ((List.range (n - 1)).map fun i => mkR (ms.getD (i + 1) 0) (ms.getD (js (i + 1)) 0)))
    (hs : rs.Pairwise fun a b => ltR b a = false) : RoadsOk n rs ∧ Joined n rs := by
  have gd : ∀ i, i < n → ∃ h : i < ms.length, ms.getD i 0 = ms[i] := fun i hi => ⟨by omega, by rw [List.getD_eq_getElem?_getD, List.getElem?_eq_getElem (by omega)]; rfl⟩
  have inj : ∀ i j, i < n → j < n → ms.getD i 0 = ms.getD j 0 → i = j := by
    intro i j hi hj e
    obtain ⟨h1, e1⟩ := gd i hi
    obtain ⟨h2, e2⟩ := gd j hj
    rw [e1, e2] at e
    exact nodup_inj nd h1 h2 e
  have mem : ∀ i, i < n → ms.getD i 0 < n := fun i hi => by
    obtain ⟨h1, e1⟩ := gd i hi
    rw [e1]
    exact bd _ (List.getElem_mem h1)
  have isr : ∀ i, i + 1 < n → mkR (ms.getD (i + 1) 0) (ms.getD (js (i + 1)) 0) ∈ rs := fun i hi =>
    hp.mem_iff.mpr (List.mem_map.mpr ⟨i, List.mem_range.mpr (by omega), rfl⟩)
  have bnd : ∀ r ∈ rs, r.1 < r.2 ∧ r.2 < n := by
    intro r hr
    obtain ⟨i, hi, rfl⟩ := List.mem_map.mp (hp.mem_iff.mp hr)
    have hi := List.mem_range.mp hi
    have j1 := hj i (by omega)
    refine ⟨mkR_lt fun e => ?_, ?_⟩
    · have := inj _ _ (by omega) (by omega) e
      omega
    · have m1 := mem (i + 1) (by omega)
      have m2 := mem (js (i + 1)) (by omega)
      show max _ _ < n
      omega
  have ne : ∀ r ∈ rs, r.1 < r.2 := fun r hr => (bnd r hr).1
  have ndr : rs.Nodup := by
    refine hp.nodup_iff.mpr (List.pairwise_map.mpr ?_)
    refine (List.nodup_range (n := n - 1)).imp_of_mem fun {i k} hi hk hne q => ?_
    have hi := List.mem_range.mp hi
    have hk := List.mem_range.mp hk
    have j1 := hj i (by omega)
    have j2 := hj k (by omega)
    rcases mkR_eq q with ⟨q1, q2⟩ | ⟨q1, q2⟩
    · have := inj _ _ (by omega) (by omega) q1
      omega
    · have e1 := inj _ _ (by omega) (by omega) q1
      have e2 := inj _ _ (by omega) (by omega) q2
      omega
  have ok : RoadsOk n rs := by
    refine ⟨?_, bnd, ?_⟩
    · rw [hp.length_eq, List.length_map, List.length_range]
      omega
    · refine (hs.and ndr).imp fun {a b} h => ltR_tri h.1 h.2
  refine ⟨ok, ?_⟩
  have lt : ∀ h, ∀ x ∈ near rs h, x < n := fun h x hx => (near_lt bnd hx).1
  obtain ⟨b, d, G⟩ := dfs_all (nr := near rs) (bar := none) n0 lt
  refine ⟨b, d, ?_⟩
  have cl : ∀ x y, x ∈ keys b → y ∈ near rs x → y ∈ keys b := fun x y hx hy => G.c x hx (fun z => nomatch z) y hy (fun z => nomatch z)
  have down : ∀ k, k < n → ms.getD k 0 ∈ keys b → ms.getD 0 0 ∈ keys b := by
    intro k
    induction k using Nat.strongRecOn with
    | ind k ih =>
      intro hk h
      cases k with
      | zero => exact h
      | succ k =>
        have j1 := hj k hk
        exact ih _ (by omega) (by omega) (cl _ _ h (mkR_near ne (isr k hk)).2)
  have z0 : ms.getD 0 0 ∈ keys b := by
    have m0 : (0 : Nat) ∈ ms := all_keys nd bd hl 0 n0
    obtain ⟨k, hk, e⟩ := List.mem_iff_getElem.mp m0
    refine down k (by omega) ?_
    rw [(gd k (by omega)).2, e]
    exact G.g.start
  have up : ∀ k, k < n → ms.getD k 0 ∈ keys b := by
    intro k
    induction k using Nat.strongRecOn with
    | ind k ih =>
      intro hk
      cases k with
      | zero => exact z0
      | succ k =>
        have j1 := hj k hk
        exact cl _ _ (ih _ (by omega) (by omega)) (mkR_near ne (isr k hk)).1
  have le := G.room n0 lt
  have ge : ms.length ≤ (keys b).length := by
    by_cases c : ms.length ≤ (keys b).length
    · exact c
    · have sub := erase_sub (l := keys b) (m := ms) G.g.nodup (fun x hx => all_keys nd bd hl x (G.g.bound n0 lt x hx))
      exfalso
      have c2 : ∀ (l m : List Nat), l.Nodup → (∀ x ∈ l, x ∈ m) → l.length ≤ m.length := by
        intro l
        induction l with
        | nil => intro m _ _; exact Nat.zero_le _
        | cons a l ih =>
          intro m d s
          have d' := List.nodup_cons.mp d
          have ha := s a List.mem_cons_self
          have l1 := List.length_erase_of_mem ha
          have l2 := List.length_pos_of_mem ha
          have i := ih (m.erase a) d'.2 fun y hy => (List.mem_erase_of_ne fun q => d'.1 (by rw [← q]; exact hy)).mpr (s y (List.mem_cons_of_mem _ hy))
          rw [List.length_cons]
          omega
      exact c (c2 ms (keys b) nd fun x hx => by
        obtain ⟨k, hk, e⟩ := List.mem_iff_getElem.mp hx
        have := up k (by omega)
        rw [(gd k (by omega)).2, e] at this
        exact this)
  have : (keys b).length = b.length := by simp [keys]
  omega
end Tm

namespace L2
open PySem PySem.Spec PyProof.Rows
/-- the type's name of data -/
def tyd : PyData → String
  | .none => "NoneType"
  | .bool _ => "bool"
  | .int _ => "int"
  | .str _ => "str"
  | .list _ => "list"
  | .tuple _ => "tuple"
  | .dict _ => "dict"
theorem tyd_mem (d : PyData) : tyd d ∈ tys := by cases d <;> simp [tyd, tys]
theorem Rdd.tb {K : PySem.W.Frag} {H : Hp} {v : V} {d : PyData} (r : Rdd H v d) : TyB K H v (tyd d) := by
  cases r with
  | non => exact .non
  | bl b => exact .bl b
  | int i => exact .int i
  | str x => exact .str x
  | lst h r => exact .lst (SqL.of h)
  | tup h r => exact .tup (SqT.of h)
  | dK h r1 r2 => exact .dK h
theorem Rdd.tx {K : PySem.W.Frag} {H : Hp} {v : V} {d : PyData} (r : Rdd H v d) : TyX K H v (.type (tyd d)) := by
  cases r with
  | non => exact .base .non
  | bl b => exact .base (.bl b)
  | int i => exact .base (.int i)
  | str x => exact .base (.str x)
  | lst h r => exact .base (.lst h)
  | tup h r => exact .base (.tup h)
  | dK h r1 r2 => exact .base (.dK h)
theorem Rdd.int_of {H : Hp} {v : V} {d : PyData} (r : Rdd H v d) (h : tyd d = "int") : ∃ i, v = .int i ∧ d = .int i := by
  cases r with
  | int i => exact ⟨i, rfl, rfl⟩
  | _ => exact absurd h (by simp [tyd])
theorem Rdd.tup_of {H : Hp} {v : V} {d : PyData} (r : Rdd H v d) (h : tyd d = "tuple") : ∃ p xs ds, v = .ref p ∧ d = .tuple ds ∧ H p = some (.tup xs) ∧ RddAll H xs ds := by
  cases r with
  | tup h1 r => exact ⟨_, _, _, rfl, rfl, h1, r⟩
  | _ => exact absurd h (by simp [tyd])
end L2
namespace K04
open PySem PySem.Spec PyProof.Rows L2
abbrev Bl (mg : Str → Option Value) : Prop := Blts mg bnames
abbrev sIsInt : Stmt := top 13
theorem scIsInt : FnScope ["value"] ["value"] (defScope sIsInt) := ⟨rfl, rfl, rfl, by decide +kernel, rfl, by decide +kernel, by decide +kernel⟩
abbrev sIsBelow : Stmt := top 14
theorem scIsBelow : FnScope ["value", "bound"] ["value", "bound"] (defScope sIsBelow) := ⟨rfl, rfl, rfl, by decide +kernel, rfl, by decide +kernel, by decide +kernel⟩
abbrev sIsList : Stmt := top 15
theorem scIsList : FnScope ["value"] ["value"] (defScope sIsList) := ⟨rfl, rfl, rfl, by decide +kernel, rfl, by decide +kernel, by decide +kernel⟩
abbrev sIsTuple : Stmt := top 16
theorem scIsTuple : FnScope ["value", "many"] ["value", "many"] (defScope sIsTuple) := ⟨rfl, rfl, rfl, by decide +kernel, rfl, by decide +kernel, by decide +kernel⟩
def belowD (b : Int) : PyData → Bool
  | .int i => decide (0 ≤ i) && decide (i < b)
  | _ => false
def tupD (n : Nat) : PyData → Bool
  | .tuple ds => decide (ds.length = n)
  | _ => false
def listD (d : PyData) : Bool := decide (tyd d ∈ ["list", "tuple"])
def spIsInt : Sp := fun vs H Q _ => ∃ v d, vs = [v] ∧ Rdd H v d ∧ Q (.bl (decide (tyd d = "int"))) H
def spIsBelow : Sp := fun vs H Q _ => ∃ v d b, vs = [v, .int b] ∧ Rdd H v d ∧ Q (.bl (belowD b d)) H
def spIsList : Sp := fun vs H Q _ => ∃ v d, vs = [v] ∧ Rdd H v d ∧ ∀ H', Same H H' → Q (.bl (listD d)) H'
def spIsTuple : Sp := fun vs H Q _ => ∃ v d n, vs = [v, .int (n : Nat)] ∧ Rdd H v d ∧ (∀ ds, d = .tuple ds → ds.length ≤ 16777216) ∧ Q (.bl (tupD n d)) H
section
variable {P : Program} {w : World} {K : PySem.W.Frag} {mg : Str → Option Value} {base : Heap} {f : Addr} {fd : FuncData}
theorem ok_is_int (F : Fd K "is_int" sIsInt f fd) (g : mg "is_int" = some (.ref f)) (B : Bl mg) : Ok P w K mg base CX0 1 "is_int" sIsInt ["value"] spIsInt := by
  refine ⟨f, fd, g, F, F.bindsN fun _ _ _ _ _ _ us hl => match us, hl with | [_], _ => rfl, F.ok scIsInt (fun vs H Q E h => ?_) (fun cdv A outer s H vs Q E hr h => ?_)⟩
  · obtain ⟨v, d, rfl, _⟩ := h
    rfl
  · refine ⟨_, (pss_one (ps_ret (pe_cmpR op_isTyB (pe_callTy call_type1 (by rfl) (B.u "type" (by decide +kernel)) (by decide +kernel) (pa_cons (pv 0) pa_nil)) (pe_bltn (by rfl) (B.u "int" (by decide +kernel)) (by decide +kernel) (v := .ty "int") rfl) (nomark _)))), ?_⟩
    obtain ⟨v, d, rfl, r, q⟩ := h
    exact ⟨_, rfl, _, _, rfl, r.tb, _, _, rfl, rfl, q⟩
theorem ok_is_below (F : Fd K "is_below" sIsBelow f fd) (g : mg "is_below" = some (.ref f)) (B : Bl mg) : Ok P w K mg base CX0 1 "is_below" sIsBelow ["value", "bound"] spIsBelow := by
  refine ⟨f, fd, g, F, F.bindsN fun _ _ _ _ _ _ us hl => match us, hl with | [_, _], _ => rfl, F.ok scIsBelow (fun vs H Q E h => ?_) (fun cdv A outer s H vs Q E hr h => ?_)⟩
  · obtain ⟨v, d, b, rfl, _⟩ := h
    rfl
  · refine ⟨_, (pss_one (ps_ret (pe_and (pe_cmpR op_isTyB (pe_callTy call_type1 (by rfl) (B.u "type" (by decide +kernel)) (by decide +kernel) (pa_cons (pv 0) pa_nil)) (pe_bltn (by rfl) (B.u "int" (by decide +kernel)) (by decide +kernel) (v := .ty "int") rfl) (nomark _)) (pe_one (pe_chain op_le op_lt pe_int (pv 0) (pv 1)))))), ?_⟩
    obtain ⟨v, d, b, rfl, r, q⟩ := h
    refine ⟨_, rfl, _, _, rfl, r.tb, _, _, rfl, rfl, _, rfl, iteB (fun e => ?_) fun e => ?_⟩
    · obtain ⟨i, rfl, rfl⟩ := r.int_of (of_decide_eq_true e)
      refine ⟨_, rfl, _, _, rfl, rfl, _, rfl, iteB (fun e1 => ⟨_, rfl, _, _, rfl, rfl, ?_⟩) fun e1 => ?_⟩
      · have z : belowD b (.int i) = decide (i < b) := by
          simp [belowD, of_decide_eq_true e1]
        rw [z] at q
        exact q
      · have z : belowD b (.int i) = false := by
          have e2 := of_decide_eq_false e1
          simp only [belowD, decide_eq_false e2, Bool.false_and]
        rw [z] at q
        exact q
    · have e := of_decide_eq_false e
      have z : belowD b d = false := by
        cases d with
        | int i => exact absurd rfl e
        | _ => rfl
      rw [z] at q
      exact q
theorem ok_is_list (F : Fd K "is_list" sIsList f fd) (g : mg "is_list" = some (.ref f)) (B : Bl mg) : Ok P w K mg base CX0 1 "is_list" sIsList ["value"] spIsList := by
  refine ⟨f, fd, g, F, F.bindsN fun _ _ _ _ _ _ us hl => match us, hl with | [_], _ => rfl, F.ok scIsList (fun vs H Q E h => ?_) (fun cdv A outer s H vs Q E hr h => ?_)⟩
  · obtain ⟨v, d, rfl, _⟩ := h
    rfl
  · refine ⟨_, (pss_one (ps_ret (pe_cmpR op_inTy (pe_callTy call_type1 (by rfl) (B.u "type" (by decide +kernel)) (by decide +kernel) (pa_cons (pv 0) pa_nil)) (pe_tup (pa_cons (pe_bltn (by rfl) (B.u "list" (by decide +kernel)) (by decide +kernel) (v := .ty "list") rfl) (pa_cons (pe_bltn (by rfl) (B.u "tuple" (by decide +kernel)) (by decide +kernel) (v := .ty "tuple") rfl) pa_nil))) (by rfl)))), ?_⟩
    obtain ⟨v, d, rfl, r, q⟩ := h
    refine ⟨_, rfl, _, _, rfl, r.tb, two_ln (by decide), fun p hp => ?_⟩
    refine ⟨p, tyd d, ["list", "tuple"], rfl, rfl, SqT.of upd_same, tyd_mem d, by decide, q _ (upd_grow hp)⟩
theorem ok_is_tuple (F : Fd K "is_tuple" sIsTuple f fd) (g : mg "is_tuple" = some (.ref f)) (B : Bl mg) : Ok P w K mg base CX0 1 "is_tuple" sIsTuple ["value", "many"] spIsTuple := by
  refine ⟨f, fd, g, F, F.bindsN fun _ _ _ _ _ _ us hl => match us, hl with | [_, _], _ => rfl, F.ok scIsTuple (fun vs H Q E h => ?_) (fun cdv A outer s H vs Q E hr h => ?_)⟩
  · obtain ⟨v, d, n, rfl, _⟩ := h
    rfl
  · refine ⟨_, (pss_one (ps_ret (pe_and (pe_cmpR op_isTyB (pe_callTy call_type1 (by rfl) (B.u "type" (by decide +kernel)) (by decide +kernel) (pa_cons (pv 0) pa_nil)) (pe_bltn (by rfl) (B.u "tuple" (by decide +kernel)) (by decide +kernel) (v := .ty "tuple") rfl) (nomark _)) (pe_one (pe_cmpR op_eq (pe_callB call_len (by rfl) (B.u "len" (by decide +kernel)) boot_len (pa_cons (pv 0) pa_nil)) (pv 1) (nomark _)))))), ?_⟩
    obtain ⟨v, d, n, rfl, r, ln, q⟩ := h
    refine ⟨_, rfl, _, _, rfl, r.tb, _, _, rfl, rfl, _, rfl, iteB (fun e => ?_) fun e => ?_⟩
    · obtain ⟨p, xs, ds, rfl, rfl, hp, ra⟩ := r.tup_of (of_decide_eq_true e)
      refine ⟨_, rfl, _, _, rfl, .inr ⟨_, SqT.of hp, rfl⟩, _, rfl, rfl, ?_⟩
      have l := rdds_len ra
      have y : decide (V.int (xs.length : Int) = V.int (n : Int)) = tupD n (.tuple ds) := by
        unfold tupD
        apply decide_eq_decide.mpr
        rw [l]
        simp
        omega
      show Q (.bl (decide (V.int (xs.length : Int) = V.int (n : Int)))) H
      rw [y]
      exact q
    · have e := of_decide_eq_false e
      have z : tupD n d = false := by
        cases d with
        | tuple i => exact absurd rfl e
        | _ => rfl
      rw [z] at q
      exact q
end
end K04

namespace K04
open PySem PySem.Spec PyProof.Rows L2
abbrev sIsAsc : Stmt := top 18
theorem scIsAsc : FnScope ["values", "k"] ["values"] (defScope sIsAsc) := ⟨rfl, rfl, rfl, by decide +kernel, rfl, by decide +kernel, by decide +kernel⟩
abbrev sAreRoads : Stmt := top 28
theorem scAreRoads : FnScope ["houses", "value", "road"] ["houses", "value"] (defScope sAreRoads) := ⟨rfl, rfl, rfl, by decide +kernel, rfl, by decide +kernel, by decide +kernel⟩
/-- a road as data -/
def rd (r : Tm.Road) : PyData := .tuple [.int r.1, .int r.2]
/-- the roads of data -/
def isRoads (d : PyData) (rs : List Tm.Road) : Prop := d = .list (rs.map rd) ∨ d = .tuple (rs.map rd)
/-- a row, a list or a tuple, at p -/
def RowAt (H : Hp) (p : Addr) (xs : List V) : Prop := H p = some (.lst xs) ∨ H p = some (.tup xs)
theorem RowAt.sq {K : PySem.W.Frag} {H : Hp} {p : Addr} {xs : List V} (h : RowAt H p xs) : SqL K H p xs ∨ SqT K H p xs := h.imp SqL.of SqT.of
theorem RowAt.len {K : PySem.W.Frag} {H : Hp} {p : Addr} {xs : List V} (h : RowAt H p xs) : LenV K (.ref p) H xs.length := h.elim (fun h => .inl ⟨_, SqL.of h, rfl⟩) fun h => .inr ⟨_, SqT.of h, rfl⟩
theorem RowAt.ix {K : PySem.W.Frag} {H : Hp} {p : Addr} {xs : List V} (h : RowAt H p xs) {i : Int} {v : V} {Q : VK} (e : atI xs i = some v) (q : Q v H) : rIx K (.ref p) (.int i) H Q := by
  rcases h with h | h
  · exact ixAt h e q
  · exact ixTup (SqT.of h) e q
theorem RowAt.mono {H H' : Hp} {p : Addr} {xs : List V} (k : Same H H') (h : RowAt H p xs) : RowAt H' p xs := h.imp (k _ _) (k _ _)
def spIsAsc : Sp := fun vs H Q _ => ∃ (p : Addr) (xs : List V) (rs : List Tm.Road), vs = [.ref p] ∧ RowAt H p xs ∧ RddAll H xs (rs.map rd) ∧ rs.length ≤ 100 ∧
  ∀ b H', Same H H' → (b = true ↔ ∀ k, k + 1 < rs.length → Tm.ltR (rs.getD k (0, 0)) (rs.getD (k + 1) (0, 0)) = true) → Q (.bl b) H'
def spAreRoads : Sp := fun vs H Q _ => ∃ (n : Nat) (v : V) (d : PyData), vs = [.int n, v] ∧ Rdd H v d ∧ Tame d ∧ 1 ≤ n ∧ n ≤ 65 ∧
  ∀ b H', Same H H' → (b = true ↔ ∃ rs, isRoads d rs ∧ Tm.RoadsOk n rs) → Q (.bl b) H'
theorem lexLt2 (a b c d : Int) : HT.lexLt [a, b] [c, d] = (decide (a < c) || (decide (a = c) && decide (b < d))) := by
  rw [HT.lexLt_cons, HT.lexLt_cons, HT.lexLt_nil_nil]
  by_cases e : a = c
  · subst e
    by_cases f : b = d
    · subst f; simp
    · simp [f]
  · simp [e]
theorem ltR_int (a b : Tm.Road) : HT.lexLt [(a.1 : Int), a.2] [(b.1 : Int), b.2] = Tm.ltR a b := by
  rw [lexLt2]
  unfold Tm.ltR
  congr 1
  · apply decide_eq_decide.mpr; omega
  · congr 1 <;> (apply decide_eq_decide.mpr; omega)
section
variable {P : Program} {w : World} {K : PySem.W.Frag} {mg : Str → Option Value} {base : Heap} {f : Addr} {fd : FuncData}
theorem ok_is_ascending (F : Fd K "is_ascending" sIsAsc f fd) (g : mg "is_ascending" = some (.ref f)) (B : Bl mg) : Ok P w K mg base CX0 1 "is_ascending" sIsAsc ["values"] spIsAsc := by
  refine ⟨f, fd, g, F, F.bindsN fun _ _ _ _ _ _ us hl => match us, hl with | [_], _ => rfl, F.ok scIsAsc (fun vs H Q E h => ?_) (fun cdv A outer s H vs Q E hr h => ?_)⟩
  · obtain ⟨p, xs, rs, rfl, _⟩ := h
    rfl
  · refine ⟨_, (pss_one (ps_ret (pe_callB (cr_all rfl) (by rfl) (B.u "all" (by decide +kernel)) (by decide +kernel) (pa_cons (pe_lc (own := [("k", 1)]) (g := gName 1) rfl scIsAsc.nd (pi_range1 (by rfl) (B.u "range" (by decide +kernel)) (pa_cons (pe_op op_sub (pe_callB call_len (by rfl) (B.u "len" (by decide +kernel)) boot_len (pa_cons (pv 0) pa_nil)) pe_int) pa_nil)) (blkOk_by (N := ["values", "k"]) (sc := defScope sIsAsc) (by decide +kernel)) (fun _ _ _ _ _ => (pg_name (i := 1) scIsAsc.nd rfl (Or.inl rfl))) (fun _ _ _ _ _ => pts_nil) (fun _ _ _ _ _ => (pe_cmpR (r := rLtT K) (op_ltT (by exact hr.units0)) (pe_ix (r := rIx K) ix_seq (pv 0) (pv 1) fun _ _ => rfl) (pe_ix (r := rIx K) ix_seq (pv 0) (pe_op op_add (pv 1) pe_int) fun _ _ => rfl) (nomark _)))) pa_nil)))), ?_⟩
    obtain ⟨p, xs, rs, rfl, hp, ra, hl, q⟩ := h
    have l := rdds_len ra
    rw [List.length_map] at l
    have at_ : ∀ k, k < rs.length → ∃ a, xs[k]? = some (.ref a) ∧ H a = some (.tup [.int ((rs.getD k (0, 0)).1 : Nat), .int ((rs.getD k (0, 0)).2 : Nat)]) := by
      intro k hk
      have e : (rs.map rd)[k]? = some (rd (rs.getD k (0, 0))) := by
        rw [List.getElem?_map, List.getElem?_eq_getElem hk, List.getD_eq_getElem?_getD, List.getElem?_eq_getElem hk] <;> rfl
      obtain ⟨x, hx, r⟩ := rdds_get ra e
      unfold rd at r
      cases r with
      | tup h r2 =>
        obtain ⟨y, z, rfl, r3, r4⟩ := rdds_two r2
        cases r3
        cases r4
        exact ⟨_, hx, h⟩
    refine ⟨_, rfl, _, _, rfl, hp.len, _, _, rfl, rfl, _, rfl, by omega, by omega, fun D hD => ?_⟩
    have en : (((xs.length : Nat) : Int) - 1).toNat = rs.length - 1 := by omega
    show ∃ W : Nat → Nat → Hp → Prop, _
    rw [en]
    refine lc_gen walk_range (fun _ => true) (fun i y _ => y = .bl (Tm.ltR (rs.getD i (0, 0)) (rs.getD (i + 1) (0, 0)))) (fun _ _ _ _ _ h => h) hD (by omega) (fun _ _ => True.intro) ?_ ?_
    · rintro i x H1 H2 K1 N1 hi k1 ⟨o, ho⟩ ⟨rfl, rfl⟩ hK _
      obtain ⟨a, xa, ha⟩ := at_ i (by omega)
      obtain ⟨b, xb, hb⟩ := at_ (i + 1) (by omega)
      have e1 : (0 : Int) + i = (i : Nat) := by omega
      have e2 : (0 : Int) + i + 1 = ((i + 1 : Nat) : Int) := by omega
      have k2 := del_sub k1
      refine ⟨rfl, _, rfl, _, rfl, (hp.mono k2).ix (by rw [e1]; exact atI_nat xa) ⟨_, rfl, _, rfl, _, _, rfl, rfl, (hp.mono k2).ix (by rw [e2]; exact atI_nat xb) ?_⟩⟩
      refine ⟨_, _, [((rs.getD i (0, 0)).1 : Int), (rs.getD i (0, 0)).2], [((rs.getD (i + 1) (0, 0)).1 : Int), (rs.getD (i + 1) (0, 0)).2], rfl, rfl, SqT.of (k2 _ _ ha), SqT.of (k2 _ _ hb), ?_⟩
      refine hK rfl _ _ (Same.refl _) ?_
      rw [ltR_int]
    · intro ys H1 k1 h1 l1 r1
      rw [filt_all] at l1 r1
      have e := map_of (F := fun i => V.bl (Tm.ltR (rs.getD i (0, 0)) (rs.getD (i + 1) (0, 0)))) l1 r1
      subst e
      refine ⟨D, (List.range (rs.length - 1)).map fun i => Tm.ltR (rs.getD i (0, 0)) (rs.getD (i + 1) (0, 0)), rfl, ?_, q _ H1 (del_sub k1) ?_⟩
      · rw [List.map_map]
        exact SqL.of h1
      · rw [List.all_map, List.all_eq_true]
        constructor
        · intro h k hk
          exact h k (List.mem_range.mpr (by omega))
        · intro h k hk
          have := List.mem_range.mp hk
          exact h k (by omega)
theorem asc_of {rs : List Tm.Road} (h : ∀ k, k + 1 < rs.length → Tm.ltR (rs.getD k (0, 0)) (rs.getD (k + 1) (0, 0)) = true) : rs.Pairwise fun a b => Tm.ltR a b = true := by
  induction rs with
  | nil => exact .nil
  | cons a rs ih =>
    have i := ih fun k hk => by
      have := h (k + 1) (by rw [List.length_cons]; omega)
      simpa using this
    refine .cons (fun b hb => ?_) i
    cases rs with
    | nil => cases hb
    | cons c rs =>
      have h0 : Tm.ltR a c = true := by
        have := h 0 (by simp)
        simpa using this
      rcases List.mem_cons.mp hb with rfl | hb
      · exact h0
      · have h1 := (List.pairwise_cons.mp i).1 b hb
        simp only [Tm.ltR, Bool.or_eq_true, Bool.and_eq_true, decide_eq_true_eq] at h0 h1 ⊢
        omega
theorem of_asc {rs : List Tm.Road} (h : rs.Pairwise fun a b => Tm.ltR a b = true) : ∀ k, k + 1 < rs.length → Tm.ltR (rs.getD k (0, 0)) (rs.getD (k + 1) (0, 0)) = true := by
  intro k hk
  rw [List.getD_eq_getElem?_getD, List.getD_eq_getElem?_getD, List.getElem?_eq_getElem (by omega), List.getElem?_eq_getElem hk]
  exact List.pairwise_iff_getElem.mp h k (k + 1) (by omega) hk (by omega)

def Good (n : Nat) (d : PyData) : Prop := ∃ u v : Nat, d = rd (u, v) ∧ u < v ∧ v < n
theorem rd_inj {a b : Tm.Road} (h : rd a = rd b) : a = b := by
  unfold rd at h
  obtain ⟨a1, a2⟩ := a
  obtain ⟨b1, b2⟩ := b
  simp at h
  have h1 : a1 = b1 := by omega
  have h2 : a2 = b2 := by omega
  rw [h1, h2]
theorem rds_inj : ∀ {rs qs : List Tm.Road}, rs.map rd = qs.map rd → rs = qs
  | [], [], _ => rfl
  | a :: rs, b :: qs, h => by
    rw [List.map_cons, List.map_cons] at h
    have h1 := (List.cons.inj h).1
    have h2 := (List.cons.inj h).2
    rw [rd_inj h1, rds_inj h2]
  | [], _ :: _, h => nomatch h
  | _ :: _, [], h => nomatch h
theorem goods {n : Nat} : ∀ {ds : List PyData}, (∀ d ∈ ds, Good n d) → ∃ rs : List Tm.Road, ds = rs.map rd ∧ ∀ r ∈ rs, r.1 < r.2 ∧ r.2 < n
  | [], _ => ⟨[], rfl, fun _ z => nomatch z⟩
  | d :: ds, h => by
    obtain ⟨u, v, e, h1, h2⟩ := h d List.mem_cons_self
    obtain ⟨rs, e2, h3⟩ := goods fun x hx => h x (List.mem_cons_of_mem _ hx)
    refine ⟨(u, v) :: rs, by rw [e, e2]; rfl, fun r hr => ?_⟩
    rcases List.mem_cons.mp hr with rfl | hr
    · exact ⟨h1, h2⟩
    · exact h3 r hr
theorem good_of {n : Nat} {ds : List PyData} {rs : List Tm.Road} (e : ds = rs.map rd) (ok : Tm.RoadsOk n rs) : ∀ d ∈ ds, Good n d := fun d hd => by
  rw [e] at hd
  obtain ⟨r, hr, rfl⟩ := List.mem_map.mp hd
  exact ⟨r.1, r.2, rfl, (ok.bnd r hr).1, (ok.bnd r hr).2⟩
theorem isRoads_row {d : PyData} {ds : List PyData} (h : d = .list ds ∨ d = .tuple ds) {rs : List Tm.Road} : isRoads d rs ↔ ds = rs.map rd := by
  unfold isRoads
  rcases h with rfl | rfl <;> simp
theorem row_of {H : Hp} {v : V} {d : PyData} (r : Rdd H v d) (h : listD d = true) : ∃ p xs ds, v = .ref p ∧ RowAt H p xs ∧ RddAll H xs ds ∧ (d = .list ds ∨ d = .tuple ds) := by
  cases r with
  | lst h1 r => exact ⟨_, _, _, rfl, .inl h1, r, .inl rfl⟩
  | tup h1 r => exact ⟨_, _, _, rfl, .inr h1, r, .inr rfl⟩
  | _ => exact absurd h (by simp [listD, tyd])
theorem wtAll_len : ∀ ds : List PyData, 2 * ds.length ≤ wtAll ds
  | [] => Nat.zero_le _
  | d :: ds => by
    have := wtAll_len ds
    simp only [wtAll, List.length_cons]
    omega
theorem wtAll_mem : ∀ {ds : List PyData} {d : PyData}, d ∈ ds → wt d ≤ wtAll ds
  | d :: ds, e, h => by
    simp only [wtAll]
    rcases List.mem_cons.mp h with rfl | h
    · omega
    · have := wtAll_mem h
      omega
theorem tame_len {d : PyData} {ds : List PyData} (t : Tame d) (h : d = .list ds ∨ d = .tuple ds) : ds.length ≤ 500000 ∧ ∀ e ∈ ds, wt e ≤ 1000000 := by
  have w := t.w
  have l := wtAll_len ds
  rcases h with rfl | rfl
  · simp only [wt] at w
    exact ⟨by omega, fun e he => by have := wtAll_mem he; omega⟩
  · simp only [wt] at w
    exact ⟨by omega, fun e he => by have := wtAll_mem he; omega⟩
theorem belowD_nat {n : Nat} {d : PyData} (h : belowD n d = true) : ∃ u : Nat, d = .int u ∧ u < n := by
  cases d with
  | int i =>
    simp only [belowD, Bool.and_eq_true, decide_eq_true_eq] at h
    exact ⟨i.toNat, by rw [Int.toNat_of_nonneg h.1], by omega⟩
  | _ => cases h
theorem belowD_of {n u : Nat} (h : u < n) : belowD n (.int u) = true := by
  simp only [belowD, Bool.and_eq_true, decide_eq_true_eq]
  omega
theorem ok_are_roads (F : Fd K "are_roads" sAreRoads f fd) (g : mg "are_roads" = some (.ref f)) (B : Bl mg) (o_is_list : Ok P w K mg base CX0 1 "is_list" sIsList ["value"] spIsList) (o_is_tuple : Ok P w K mg base CX0 1 "is_tuple" sIsTuple ["value", "many"] spIsTuple)
    (o_is_below : Ok P w K mg base CX0 1 "is_below" sIsBelow ["value", "bound"] spIsBelow) (o_is_ascending : Ok P w K mg base CX0 1 "is_ascending" sIsAsc ["values"] spIsAsc) : Ok P w K mg base CX0 2 "are_roads" sAreRoads ["houses", "value"] spAreRoads := by
  refine ⟨f, fd, g, F, F.bindsN fun _ _ _ _ _ _ us hl => match us, hl with | [_, _], _ => rfl, F.ok scAreRoads (fun vs H Q E h => ?_) (fun cdv A outer s H vs Q E hr h => ?_)⟩
  · obtain ⟨n, v, d, rfl, _⟩ := h
    rfl
  · refine ⟨_, (pss_cons (ps_if (pw_or (pt_not (pt_val (pe_o o_is_list (hr.mono (by decide)) (by rfl) (pa_cons (pv 1) pa_nil)))) (pw_or1 (pt_cmpR op_ne (pe_callB call_len (by rfl) (B.u "len" (by decide +kernel)) boot_len (pa_cons (pv 1) pa_nil)) (pe_op op_sub (pv 0) pe_int) (nomark _)))).pt
        (pss_one (ps_ret pe_bl))
        pss_nil)
      (pss_cons (ps_for (passes_of rfl) rfl (pi_seq (pv 1)) (pg_name (i := 2) scAreRoads.nd rfl (Or.inl rfl))
        (pss_cons (ps_if (pw_or (pt_not (pt_val (pe_o o_is_tuple (hr.mono (by decide)) (by rfl) (pa_cons (pv 2) (pa_cons pe_int pa_nil))))) (pw_or (pt_not (pt_val (pe_o o_is_below (hr.mono (by decide)) (by rfl) (pa_cons (pe_ix ix_seq (pv 2) pe_int fun _ _ => rfl) (pa_cons (pv 0) pa_nil))))) (pw_or1 (pt_not (pt_val (pe_o o_is_below (hr.mono (by decide)) (by rfl) (pa_cons (pe_ix ix_seq (pv 2) pe_int fun _ _ => rfl) (pa_cons (pv 0) pa_nil)))))))).pt
          (pss_one (ps_ret pe_bl))
          pss_nil)
        (pss_one (ps_if (pt_cmpR op_ge (pe_ix ix_seq (pv 2) pe_int fun _ _ => rfl) (pe_ix ix_seq (pv 2) pe_int fun _ _ => rfl) (nomark _))
          (pss_one (ps_ret pe_bl))
          pss_nil))))
      (pss_one (ps_ret (pe_o o_is_ascending (hr.mono (by decide)) (by rfl) (pa_cons (pv 1) pa_nil)))))), ?_⟩
    obtain ⟨n, v, d, rfl, r, t, n1, n2, q⟩ := h
    refine ⟨_, rfl, v, d, rfl, r, fun H1 k1 => ⟨_, rfl, iteB (fun e => iteT ?_) fun e => ?_⟩⟩
    · -- no row
      refine q _ _ k1 ⟨(fun z => nomatch z), fun ⟨rs, hr, ok⟩ => ?_⟩
      have e := not_t e
      rcases hr with rfl | rfl <;> simp [listD, tyd] at e
    have e := not_f e
    obtain ⟨p, xs, ds, rfl, hp, ra, hd⟩ := row_of r e
    have hp1 := hp.mono k1
    have ra1 := ra.mono k1
    have l := rdds_len ra
    obtain ⟨tl, tm⟩ := tame_len t hd
    refine ⟨_, rfl, _, _, rfl, hp1.len, _, rfl, _, _, rfl, rfl, rfl, _, rfl, iteB (fun e2 => ?_) fun e2 => ?_⟩
    · refine q _ _ k1 ⟨(fun z => nomatch z), fun ⟨rs, hr, ok⟩ => ?_⟩
      have e3 := (isRoads_row hd).mp hr
      have e2 := not_t e2
      have e2 := of_decide_eq_false e2
      refine absurd (congrArg V.int ?_) e2
      have := ok.len
      rw [l, e3, List.length_map]
      omega
    have e2 := not_f e2
    have e2 : ((xs.length : Nat) : Int) = (n : Int) - 1 := V.int.inj (of_decide_eq_true e2)
    refine ⟨_, rfl, p, xs, rfl, hp1.sq, fun J w => ?_⟩
    refine for_it w (fun i σ H' => Same H1 H' ∧ (∀ d ∈ ds.take i, Good n d) ∧ ∃ a : Option V, σ = [some (.int n), some (.ref p), a]) ⟨Same.refl _, (fun d hd => by simp at hd), none, rfl⟩ (fun i σ H' _ h => ?_) ?_ ?_
    · rcases hp1 with h1 | h1
      · rw [h1, h.1 _ _ h1]
      · rw [h1, h.1 _ _ h1]
    · rintro i x σ H0 H2 hi ⟨k2, g2, a, rfl⟩ ⟨rfl, hx⟩
      have hdi : i < ds.length := by omega
      obtain ⟨x', hx', rx⟩ := rdds_get (ra1.mono k2) (List.getElem?_eq_getElem hdi)
      rw [hx] at hx'
      obtain rfl : x = x' := Option.some.inj hx'
      have mem : ds[i] ∈ ds := List.getElem_mem hdi
      have bad : ¬ Good n ds[i] → ∀ H', Same H2 H' → Q (.bl false) H' := fun nb H' k => q _ _ (k1.trans (k2.trans k)) ⟨(fun z => nomatch z), fun ⟨rs, hr, ok⟩ => absurd (good_of ((isRoads_row hd).mp hr) ok _ mem) nb⟩
      have tw := tm _ mem
      refine ⟨_, rfl, x, ds[i], 2, rfl, rx, (fun es z => ?_), _, rfl, iteB (fun e3 => iteT ?_) fun e3 => ?_⟩
      · rw [z] at tw
        simp only [wt] at tw
        have := wtAll_len es
        omega
      · refine bad (fun ⟨u, v, z, _⟩ => ?_) _ (Same.refl _)
        rw [z] at e3
        exact absurd e3 (by simp [tupD, rd])
      have e3 := not_f e3
      generalize hdd : ds[i] = di at *
      cases rx with
      | @tup pt ys es h r2 =>
        have le : es.length = 2 := of_decide_eq_true e3
        obtain ⟨d1, d2, rfl⟩ : ∃ d1 d2, es = [d1, d2] := match es, le with
          | [a, b], _ => ⟨a, b, rfl⟩
        obtain ⟨y1, y2, rfl, r1, r3⟩ := rdds_two r2
        have i0 : ∀ {Q : VK}, Q y1 H2 → rIx K (.ref pt) (.int 0) H2 Q := fun z => ixTup (SqT.of h) rfl z
        have i1 : ∀ {Q : VK}, Q y2 H2 → rIx K (.ref pt) (.int 1) H2 Q := fun z => ixTup (SqT.of h) rfl z
        refine ⟨_, rfl, i0 ⟨_, rfl, y1, d1, (n : Int), rfl, r1, _, rfl, iteB (fun e4 => iteT ?_) fun e4 => ?_⟩⟩
        · refine bad (fun ⟨u, v, z, h1, h2⟩ => ?_) _ (Same.refl _)
          simp [rd] at z
          rw [z.1, belowD_of (by omega)] at e4
          cases e4
        refine ⟨_, rfl, i1 ⟨_, rfl, y2, d2, (n : Int), rfl, r3, _, rfl, iteB (fun e5 => ?_) fun e5 => ?_⟩⟩
        · refine bad (fun ⟨u, v, z, h1, h2⟩ => ?_) _ (Same.refl _)
          simp [rd] at z
          rw [z.2, belowD_of (by omega)] at e5
          cases e5
        obtain ⟨u, rfl, hu⟩ := belowD_nat (not_f e4)
        obtain ⟨u2, rfl, hu2⟩ := belowD_nat (not_f e5)
        cases r1
        cases r3
        refine ⟨_, rfl, i0 ⟨_, rfl, i1 ⟨_, _, rfl, rfl, _, rfl, iteB (fun e6 => ?_) fun e6 => ?_⟩⟩⟩
        · refine bad (fun ⟨a, b, z, h1, h2⟩ => ?_) _ (Same.refl _)
          simp [rd] at z
          have := of_decide_eq_true e6
          omega
        · refine ⟨k2, fun d hd' => ?_, _, rfl⟩
          rw [List.take_succ_eq_append_getElem hdi] at hd'
          rcases List.mem_append.mp hd' with hd' | hd'
          · exact g2 d hd'
          · have := of_decide_eq_false e6
            simp at hd'
            subst hd'
            rw [hdd]
            exact ⟨u, u2, rfl, by omega, hu2⟩
      | _ => exact absurd e3 (by simp [tupD])
    · rintro σ H2 ⟨k2, g2, a, rfl⟩
      have e5 : xs.length = ds.length := l
      rw [e5, List.take_length] at g2
      obtain ⟨rs, rfl, hb⟩ := goods g2
      rw [List.length_map] at l
      refine ⟨_, rfl, p, xs, rs, rfl, hp1.mono k2, ra1.mono k2, by omega, fun b H3 k3 hbi => ?_⟩
      refine q b H3 (k1.trans (k2.trans k3)) ?_
      rw [hbi]
      constructor
      · intro h
        exact ⟨rs, (isRoads_row hd).mpr rfl, by omega, hb, asc_of h⟩
      · rintro ⟨qs, hq, ok⟩
        have := rds_inj ((isRoads_row hd).mp hq)
        subst this
        exact of_asc ok.asc
end
end K04

/-! a list of lists, each changed by its place; dicts of whole numbers -/
namespace L2
open PySem PySem.Spec PyProof.Rows
/-- at L: the list of the lists at as, the h-th of them f h -/
structure LL (H : Hp) (L : Addr) (as : List Addr) (f : Nat → List V) : Prop where
  top : H L = some (.lst (as.map V.ref))
  nd : as.Nodup
  nin : L ∉ as
  row : ∀ (h : Nat) (a : Addr), as[h]? = some a → H a = some (.lst (f h))
theorem LL.set {H : Hp} {L : Addr} {as : List Addr} {f : Nat → List V} (S : LL H L as f) {u : Nat} {a : Addr} (ha : as[u]? = some a) (ys : List V) : LL (upd H a (.lst ys)) L as (fun h => if h = u then ys else f h) where
  top := by rw [upd_ne (fun e => S.nin (by rw [e]; exact List.mem_of_getElem? ha))]; exact S.top
  nd := S.nd
  nin := S.nin
  row := fun h b hb => by
    by_cases e : h = u
    · subst e
      rw [ha] at hb
      cases hb
      rw [if_pos rfl, upd_same]
    · rw [if_neg e]
      have ne : b ≠ a := fun z => by
        subst z
        obtain ⟨l1, e1⟩ := List.getElem?_eq_some_iff.mp hb
        obtain ⟨l2, e2⟩ := List.getElem?_eq_some_iff.mp ha
        have nd := List.pairwise_iff_getElem.mp S.nd
        rcases Nat.lt_trichotomy h u with c | c | c
        · exact nd h u l1 l2 c (e1.trans e2.symm)
        · exact e c
        · exact nd u h l2 l1 c (e2.trans e1.symm)
      rw [upd_ne ne]
      exact S.row h b hb
theorem LL.congr {H : Hp} {L : Addr} {as : List Addr} {f g : Nat → List V} (S : LL H L as f) (h : ∀ i, i < as.length → f i = g i) : LL H L as g :=
  ⟨S.top, S.nd, S.nin, fun i a ha => by rw [← h i (List.getElem?_eq_some_iff.mp ha).1]; exact S.row i a ha⟩
/-- [[] for .. in ..] -/
theorem lc_empties {J : It} {n : Nat} {G : Hp → Prop} {Y : Nat → Hp → V → Hp → Prop} (w : Walk J n G Y) {g : TG} {tt : TT} {te : TE} {vs : List Nat} {σ : St} {H : Hp} {D : Addr} {Qd : Hp → Prop} (hD : H D = none) (hn : n ≤ 16777215) (hG : ∀ H', Same H (del H' D) → G H')
    (he : ∀ i x H1 H2 (K : V → Hp → Prop) (N : Hp → Prop), i < n → Same H (del H1 D) → Y i H1 x H2 → (∀ a, H1 a = none → K (.ref a) (upd H1 a (.lst []))) → g x (wipe σ vs) H2 fun σ2 H2' => wipe σ2 vs = wipe σ vs ∧ tt σ2 H2' fun b H3 => if b = true then te σ2 H3 K else N H3)
    (q : ∀ as H', as.length = n → (∀ a ∈ as, H a = none) → Same H (del H' D) → Same H H' → LL H' D as (fun _ => []) → Qd H') :
    ∃ W : Nat → Nat → Hp → Prop, (∃ m, W 0 m (upd H D (.lst []))) ∧ ∀ i m H, W i m H →
      (J.stop i H ∧ Qd H) ∨ (J.go i H ∧ ∃ Nx : Hp → Prop, (∀ H', Nx H' → ∃ m', m' < m ∧ W (i + 1) m' H') ∧ ∀ x H', J.yld i H x H' → g x (wipe σ vs) H' fun σ2 H2 => wipe σ2 vs = wipe σ vs ∧ tt σ2 H2 fun b H3 =>
        if b = true then te σ2 H3 fun y H4 => ∃ acc, H4 D = some (.lst acc) ∧ acc.length < sizeLine ∧ Nx (upd H4 D (.lst (acc ++ [y]))) else Nx H3) := by
  refine lc_it w (fun i H' => Same H (del H' D) ∧ ∃ as : List Addr, as.length = i ∧ (∀ a ∈ as, H a = none) ∧ LL H' D as (fun _ => [])) ?_ (fun i H' _ h => hG H' h.1) ?_ ?_
  · refine ⟨fun b o e => ?_, [], rfl, (fun _ z => nomatch z), upd_same, .nil, (fun z => nomatch z), fun h a z => by simp at z⟩
    rw [del_ne (ne_of_none e hD), upd_ne (ne_of_none e hD)]
    exact e
  · rintro i x H1 H2 hi ⟨k1, as, l1, f1, S⟩ hy
    refine he i x H1 H2 _ _ hi k1 hy fun a ha => ?_
    have nD : a ≠ D := fun e => by rw [e, S.top] at ha; cases ha
    have na : a ∉ as := fun m => by
      obtain ⟨j, lj, e⟩ := List.mem_iff_getElem.mp m
      have := S.row j a (by rw [List.getElem?_eq_getElem lj, e])
      rw [this] at ha
      cases ha
    have Ha : H a = none := by
      cases e : H a with
      | none => rfl
      | some o =>
        have := k1 a o e
        rw [del_ne nD, ha] at this
        cases this
    refine ⟨as.map V.ref, by rw [upd_ne nD.symm]; exact S.top, by rw [List.length_map, l1]; exact lt_ln (by omega), (fun b o z => ?_), as ++ [a], by rw [List.length_append, l1]; rfl, ?_, ?_⟩
    · have z1 := k1 b o z
      have nb : b ≠ D := ne_of_none z hD
      rw [del_ne nb] at z1 ⊢
      rw [upd_ne nb, upd_ne (ne_of_none z1 ha)]
      exact z1
    · intro b hb
      rcases List.mem_append.mp hb with hb | hb
      · exact f1 b hb
      · rw [List.mem_singleton.mp hb]
        exact Ha
    · refine ⟨by rw [upd_same, List.map_append]; rfl, ?_, ?_, ?_⟩
      · refine List.nodup_append.mpr ⟨S.nd, by simp, fun b hb c hc e => ?_⟩
        rw [List.mem_singleton.mp hc] at e
        subst e
        exact na hb
      · intro m
        rcases List.mem_append.mp m with m | m
        · exact S.nin m
        · exact nD (List.mem_singleton.mp m).symm
      · intro h b hb
        have nb : b ≠ D := fun e => by
          subst e
          have m := List.mem_of_getElem? hb
          rcases List.mem_append.mp m with m | m
          · exact S.nin m
          · exact nD (List.mem_singleton.mp m).symm
        rw [upd_ne nb]
        by_cases c : h < as.length
        · rw [List.getElem?_append_left c] at hb
          have z := S.row h b hb
          rw [upd_ne (ne_of_none z ha)]
          exact z
        · rw [List.getElem?_append_right (by omega)] at hb
          have : b = a := by
            cases k : h - as.length with
            | zero => rw [k] at hb; simpa using hb.symm
            | succ m => rw [k] at hb; simp at hb
          rw [this, upd_same]
  · rintro H1 ⟨k1, as, l1, f1, S⟩
    exact q as H1 l1 f1 k1 (del_sub k1) S
/-! ### dicts of whole numbers -/
/-- the entries of a dict from numbers to numbers -/
def dkv (b : List (Nat × Nat)) : List (Key × V) := b.map fun e => (Sum.inl (e.1 : Int), V.int (e.2 : Int))
theorem dkv_val {b : List (Nat × Nat)} {x : Nat} : (valV (dkv b) (Sum.inl (x : Int))).isSome = decide (x ∈ b.map (·.1)) := by
  induction b with
  | nil => rfl
  | cons e b ih =>
    show (valV ((Sum.inl (e.1 : Int), V.int (e.2 : Int)) :: dkv b) (Sum.inl (x : Int))).isSome = _
    by_cases c : e.1 = x
    · subst c
      rw [valV_pos rfl]
      simp
    · have n : ¬ (Sum.inl (e.1 : Int) : Key) = Sum.inl (x : Int) := fun z => c (by have := Sum.inl.inj z; omega)
      rw [valV_neg n, ih]
      have n2 : ¬ x = e.1 := fun z => c z.symm
      simp [n2]
theorem dkv_get {b : List (Nat × Nat)} {x p : Nat} (nd : (b.map (·.1)).Nodup) (h : (x, p) ∈ b) : valV (dkv b) (Sum.inl (x : Int)) = some (.int p) := by
  induction b with
  | nil => cases h
  | cons e b ih =>
    have nd' : e.1 ∉ b.map (·.1) ∧ (b.map (·.1)).Nodup := by simpa using nd
    show valV ((Sum.inl (e.1 : Int), V.int (e.2 : Int)) :: dkv b) (Sum.inl (x : Int)) = _
    rcases List.mem_cons.mp h with h | h
    · subst h
      exact valV_pos rfl
    · have n : ¬ (Sum.inl (e.1 : Int) : Key) = Sum.inl (x : Int) := fun z => by
        have : e.1 = x := by have := Sum.inl.inj z; omega
        exact nd'.1 (by rw [this]; exact List.mem_map.mpr ⟨_, h, rfl⟩)
      rw [valV_neg n]
      exact ih nd'.2 h
theorem dkv_put {b : List (Nat × Nat)} {x p : Nat} (h : x ∉ b.map (·.1)) : putK (dkv b) (Sum.inl (x : Int)) (.int p) = dkv (b ++ [(x, p)]) := by
  have e : valV (dkv b) (Sum.inl (x : Int)) = none := by
    have := dkv_val (b := b) (x := x)
    rw [decide_eq_false h] at this
    cases z : valV (dkv b) (Sum.inl (x : Int)) with
    | none => rfl
    | some v => rw [z] at this; cases this
  rw [putK_new _ e]
  simp [dkv]
end L2

namespace K04
open PySem PySem.Spec PyProof.Rows L2
abbrev sNear : Stmt := top 29
theorem scNear : FnScope ["houses", "roads", "near", "_", "u", "v", "row"] ["houses", "roads"] (defScope sNear) := ⟨rfl, rfl, rfl, by decide +kernel, rfl, by decide +kernel, by decide +kernel⟩
abbrev sFrom : Stmt := top 30
theorem scFrom : FnScope ["near", "start", "barred", "before", "fresh", "house", "other"] ["near", "start", "barred"] (defScope sFrom) := ⟨rfl, rfl, rfl, by decide +kernel, rfl, by decide +kernel, by decide +kernel⟩
/-- whole numbers as values, as data -/
def natV (l : List Nat) : List V := l.map fun x : Nat => V.int (x : Int)
def natD (l : List Nat) : List PyData := l.map fun x : Nat => PyData.int (x : Int)
def nearD (n : Nat) (rs : List Tm.Road) : PyData := .tuple ((List.range n).map fun h => .tuple (natD (Tm.near rs h)))
theorem nat_rdd {H : Hp} : ∀ l : List Nat, RddAll H (natV l) (natD l)
  | [] => .nil
  | x :: l => .cons (.int _) (nat_rdd l)
theorem rdd_nat {H : Hp} : ∀ {l : List Nat} {xs : List V}, RddAll H xs (natD l) → xs = natV l
  | [], _, .nil => rfl
  | x :: l, _, .cons r t => by
    cases r
    rw [rdd_nat t]
    rfl
abbrev Bnd (n : Nat) (rs : List Tm.Road) : Prop := ∀ r ∈ rs, r.1 < r.2 ∧ r.2 < n
def spNear : Sp := fun vs H Q _ => ∃ (n : Nat) (p : Addr) (xs : List V) (rs : List Tm.Road), vs = [.int n, .ref p] ∧ RowAt H p xs ∧ RddAll H xs (rs.map rd) ∧ Bnd n rs ∧ n ≤ 100 ∧ rs.length ≤ 100 ∧
  ∀ nt H', Same H H' → Rdd H' (.ref nt) (nearD n rs) → Q (.ref nt) H'
def barV : Option Nat → V
  | none => .non
  | some x => .int x
def spFrom : Sp := fun vs H Q _ => ∃ (nt : Addr) (n s : Nat) (rs : List Tm.Road) (bar : Option Nat), vs = [.ref nt, .int s, barV bar] ∧ Rdd H (.ref nt) (nearD n rs) ∧ Bnd n rs ∧ s < n ∧ n ≤ 100 ∧
  ∀ d b H', Same H H' → H d = none → Tm.Dfs (Tm.near rs) bar [(s, s)] [s] b → Tm.Going (Tm.near rs) bar s b [] → H' d = some (.dK (dkv b)) → Q (.ref d) H'
/-- the row of a house -/
theorem near_row {H : Hp} {nt : Addr} {n h : Nat} {rs : List Tm.Road} (r : Rdd H (.ref nt) (nearD n rs)) (hh : h < n) : ∃ xs t, H nt = some (.tup xs) ∧ atI xs (h : Int) = some (.ref t) ∧ H t = some (.tup (natV (Tm.near rs h))) := by
  cases r with
  | tup h1 ra =>
    have e : ((List.range n).map fun h => PyData.tuple (natD (Tm.near rs h)))[h]? = some (.tuple (natD (Tm.near rs h))) := by
      rw [List.getElem?_map, List.getElem?_eq_getElem (by rw [List.length_range]; exact hh)]
      simp
    obtain ⟨x, hx, rx⟩ := rdds_get ra e
    cases rx with
    | tup h2 r2 =>
      rw [rdd_nat r2] at h2
      exact ⟨_, _, h1, atI_nat hx, h2⟩
theorem near_len {n : Nat} {rs : List Tm.Road} (h : Nat) : (Tm.near rs h).length ≤ rs.length := List.length_filterMap_le _ _
theorem nat_get {l : List Nat} {i : Nat} {x : V} (h : (natV l)[i]? = some x) : ∃ (lt : i < l.length), x = .int (l[i] : Nat) := by
  unfold natV at h
  rw [List.getElem?_map] at h
  cases e : l[i]? with
  | none => rw [e] at h; cases h
  | some y =>
    rw [e] at h
    obtain ⟨lt, z⟩ := List.getElem?_eq_some_iff.mp e
    refine ⟨lt, ?_⟩
    rw [z]
    exact (Option.some.inj h).symm
section
variable {P : Program} {w : World} {K : PySem.W.Frag} {mg : Str → Option Value} {base : Heap} {f : Addr} {fd : FuncData}
theorem ok_houses_near (F : Fd K "houses_near" sNear f fd) (g : mg "houses_near" = some (.ref f)) (B : Bl mg) : Ok P w K mg base CX0 1 "houses_near" sNear ["houses", "roads"] spNear := by
  refine ⟨f, fd, g, F, F.bindsN fun _ _ _ _ _ _ us hl => match us, hl with | [_, _], _ => rfl, F.ok scNear (fun vs H Q E h => ?_) (fun cdv A outer s H vs Q E hr h => ?_)⟩
  · obtain ⟨n, p, xs, rs, rfl, _⟩ := h
    rfl
  · refine ⟨_, (pss_cons (ps_setLc (i := 2) (own := [("_", 3)]) (g := gName 3) rfl scNear.nd rfl rfl (sw_true rfl rfl rfl (by decide +kernel)) (pi_range1 (by rfl) (B.u "range" (by decide +kernel)) (pa_cons (pv 0) pa_nil)) (blkOk_by (N := ["houses", "roads", "near", "_", "u", "v", "row"]) (sc := defScope sNear) (by decide +kernel)) (fun _ _ _ _ _ => (pg_name (i := 3) scNear.nd rfl (Or.inl rfl))) (fun _ _ _ _ _ => pts_nil) (fun _ _ _ _ _ => (pe_lst pa_nil)))
      (pss_cons (ps_for (passes_of rfl) rfl (pi_seq (pv 1)) (pg_tup rfl (pgs_cons (pg_name (i := 4) scNear.nd rfl (Or.inl rfl)) (pgs_cons (pg_name (i := 5) scNear.nd rfl (Or.inl rfl)) pgs_nil)))
        (pss_cons (ps_expr (pe_bm PySem.F.plainAttrs_list PySem.F.slot_list_append PySem.F.type_list_append mt_append (pe_ix ix_seq (pv 2) (pv 4) fun _ _ => rfl) (pa_cons (pv 5) pa_nil)))
        (pss_one (ps_expr (pe_bm PySem.F.plainAttrs_list PySem.F.slot_list_append PySem.F.type_list_append mt_append (pe_ix ix_seq (pv 2) (pv 5) fun _ _ => rfl) (pa_cons (pv 4) pa_nil))))))
      (pss_one (ps_ret (pe_callTy call_tuple_of (by rfl) (B.u "tuple" (by decide +kernel)) (by decide +kernel) (pa_cons (pe_lc (own := [("row", 6)]) (g := gName 6) rfl scNear.nd (pi_list (pv 2)) (blkOk_by (N := ["houses", "roads", "near", "_", "u", "v", "row"]) (sc := defScope sNear) (by decide +kernel)) (fun _ _ _ _ _ => (pg_name (i := 6) scNear.nd rfl (Or.inl rfl))) (fun _ _ _ _ _ => pts_nil) (fun _ _ _ _ _ => (pe_callTy (r := rTupOf K) (by exact call_tuple_of) (by rfl) (B.u "tuple" (by decide +kernel)) (by decide +kernel) (pa_cons (pv 6) pa_nil)))) pa_nil)))))), ?_⟩
    obtain ⟨n, p, xs, rs, rfl, hp, ra, bd, n1, n2, q⟩ := h
    have l := rdds_len ra
    rw [List.length_map] at l
    refine ⟨_, rfl, _, rfl, by omega, by omega, fun D hD => ?_⟩
    refine lc_empties walk_range hD (by omega) (fun _ _ => True.intro) ?_ ?_
    · rintro i x H0 H1 K1 N1 hi k1 ⟨rfl, rfl⟩ hK
      exact ⟨rfl, two_ln (by decide), fun a ha => hK a ha⟩
    · intro as H1 l1 f1 k1 k2 S
      refine ⟨_, rfl, p, xs, rfl, (hp.mono k2).sq, fun J w => ?_⟩
      have keep : ∀ {H' : Hp} {a : Addr} {ys : List V}, Same H H' → a ∈ as → Same H (upd H' a (.lst ys)) := fun k m b o e => by
        rw [upd_ne (ne_of_none e (f1 _ m))]
        exact k b o e
      refine for_it w (fun i σ H' => Same H H' ∧ LL H' D as (fun h => natV (Tm.near (rs.take i) h)) ∧ ∃ a b c : Option V, σ = [some (.int n), some (.ref p), some (.ref D), a, b, c, none]) ⟨k2, S.congr fun i _ => rfl, none, none, none, rfl⟩ (fun i σ H' _ h => ?_) ?_ ?_
      · rcases hp with h1 | h1
        · rw [h.1 _ _ h1, k2 _ _ h1]
        · rw [h.1 _ _ h1, k2 _ _ h1]
      · rintro i x σ H0 H2 hi ⟨k3, S2, a, b, c, rfl⟩ ⟨rfl, hx⟩
        have hdi : i < rs.length := by omega
        obtain ⟨x', hx', rx⟩ := rdds_get (ra.mono k3) (show (rs.map rd)[i]? = some (rd rs[i]) by rw [List.getElem?_map, List.getElem?_eq_getElem hdi]; rfl)
        rw [hx] at hx'
        obtain rfl : x = x' := Option.some.inj hx'
        have bi := bd _ (List.getElem_mem hdi)
        generalize hr2 : rs[i] = r at rx bi
        obtain ⟨u, v⟩ := r
        unfold rd at rx
        cases rx with
        | @tup pt ys es h r2 =>
          obtain ⟨y1, y2, rfl, r3, r4⟩ := rdds_two r2
          cases r3
          cases r4
          simp only at bi
          have lu : u < as.length := by omega
          have lv : v < as.length := by omega
          have au : as[u]? = some as[u] := List.getElem?_eq_getElem lu
          have av : as[v]? = some as[v] := List.getElem?_eq_getElem lv
          have mu := List.getElem_mem lu
          have mv := List.getElem_mem lv
          have len : ∀ h, (natV (Tm.near (rs.take i) h)).length ≤ 100 := fun h => by
            unfold natV
            rw [List.length_map]
            have := near_len (n := n) (rs := rs.take i) h
            rw [List.length_take] at this
            omega
          have S3 := S2.set au (natV (Tm.near (rs.take i) u) ++ [V.int (v : Int)])
          have S4 := S3.set av (natV (Tm.near (rs.take i) v) ++ [V.int (u : Int)])
          have ne : ¬ v = u := by omega
          refine ⟨pt, _, rfl, SqT.of h, rfl, _, _, rfl, _, _, rfl, rfl, ?_⟩
          refine ⟨_, rfl, _, rfl, ixAt (v := .ref as[u]) S2.top (atI_nat (by rw [List.getElem?_map, au]; rfl)) ⟨.inl ⟨rfl, _, SqL.of (S2.row u _ au)⟩, _, rfl, _, _, _, rfl, rfl, S2.row u _ au, lt_ln (by have := len u; omega), ?_⟩⟩
          refine ⟨_, rfl, _, rfl, ixAt (v := .ref as[v]) S3.top (atI_nat (by rw [List.getElem?_map, av]; rfl)) ⟨.inl ⟨rfl, _, SqL.of (S3.row v _ av)⟩, _, rfl, _, _, _, rfl, rfl, S3.row v _ av, ?_, ?_⟩⟩
          · rw [if_neg ne]
            exact lt_ln (by have := len v; omega)
          · rw [if_neg ne]
            refine ⟨keep (keep k3 mu) mv, S4.congr fun j hj => ?_, _, _, _, rfl⟩
            rw [List.take_succ_eq_append_getElem hdi, Tm.near_snoc, hr2]
            unfold natV Tm.nb
            rw [List.map_append]
            by_cases c1 : j = v
            · subst c1
              rw [if_pos rfl, if_neg (by simp only; omega), if_pos rfl]
              rfl
            · rw [if_neg c1]
              by_cases c2 : j = u
              · subst c2
                rw [if_pos rfl, if_pos rfl]
                rfl
              · rw [if_neg c2, if_neg (by simp only; omega), if_neg (by simp only; omega)]
                simp
      · rintro σ H2 ⟨k3, S2, a, b, c, rfl⟩
        rw [l, List.take_length] at S2
        refine ⟨_, rfl, _, rfl, ⟨_, SqL.of S2.top⟩, fun D2 hD2 => ?_⟩
        refine lc_gen walk_list (fun _ => true) (fun i y H' => Rdd H' y (.tuple (natD (Tm.near rs i)))) (fun i y _ _ k h => h.mono k) hD2 (by rw [List.length_map]; omega) (fun H' k => SqL.of (del_sub k _ _ S2.top)) ?_ ?_
        · rintro i x H0 H3 K1 N1 hi k4 ⟨o, ho⟩ ⟨rfl, hx⟩ hK _
          rw [List.length_map] at hi
          have ai : as[i]? = some as[i] := List.getElem?_eq_getElem hi
          rw [List.getElem?_map, ai] at hx
          obtain rfl : V.ref as[i] = x := Option.some.inj hx
          have k5 := del_sub k4
          refine ⟨rfl, _, rfl, _, _, rfl, .inl ⟨SqL.of (k5 _ _ (S2.row i _ ai)), fun t ht => hK rfl _ _ (upd_grow ht) (.tup (del_new ho ht) (nat_rdd _))⟩⟩
        · intro ys H3 k4 h3 l3 r3
          rw [filt_all] at l3 r3
          rw [List.length_map, List.length_range] at l3
          rw [List.length_map] at r3
          refine ⟨D2, ys, rfl, .inl ⟨SqL.of h3, fun t ht => q t _ (fun b o e => ?_) (.tup upd_same ?_)⟩⟩
          · have z := del_sub k4 _ _ (k3 b o e)
            rw [upd_ne (ne_of_none z ht)]
            exact z
          · refine rdds_of (by rw [List.length_map, List.length_range]; omega) fun i y d h1 h2 => ?_
            have lt := (List.getElem?_eq_some_iff.mp h1).1
            rw [List.getElem?_map, List.getElem?_eq_getElem (by rw [List.length_range]; omega)] at h2
            simp at h2
            subst h2
            have := r3 i i y (by rw [List.getElem?_eq_getElem (by rw [List.length_range]; omega)]; simp) h1
            exact (this.mono del_le).mono (upd_grow ht)
theorem ok_houses_from (F : Fd K "houses_from" sFrom f fd) (g : mg "houses_from" = some (.ref f)) (B : Bl mg) : Ok P w K mg base CX0 1 "houses_from" sFrom ["near", "start", "barred"] spFrom := by
  refine ⟨f, fd, g, F, F.bindsN fun _ _ _ _ _ _ us hl => match us, hl with | [_, _, _], _ => rfl, F.ok scFrom (fun vs H Q E h => ?_) (fun cdv A outer s H vs Q E hr h => ?_)⟩
  · obtain ⟨nt, n, s, rs, bar, rfl, _⟩ := h
    rfl
  · have hu : (cxOf CX0 P w K mg base ["near", "start", "barred", "before", "fresh", "house", "other"] "houses_from" (defScope sFrom) f cdv A outer s H E).A.units + 1 < cLine := by
      have z := hr.un
      show (A.deeper _).units + 1 < cLine
      omega
    refine ⟨_, (pss_cons (ps_set (i := 3) scFrom.nd rfl (Or.inl rfl) (pe_disp (pps_cons (pv 1) (pv 1) pps_nil) (by rfl) (by rfl) (fun z => by cases z) (by decide)))
      (pss_cons (ps_set (i := 4) scFrom.nd rfl (Or.inl rfl) (pe_lst (pa_cons (pv 1) pa_nil)))
      (pss_cons (ps_while (passes_of rfl) (pt_truth (pv 4) (by intro _; rfl))
        (pss_cons (ps_set (i := 5) scFrom.nd rfl (Or.inl rfl) (pe_bm0 PySem.F.plainAttrs_list PySem.F.slot_list_pop PySem.F.type_list_pop mt_pop (pv 4)))
        (pss_one (ps_for (passes_of rfl) rfl (pi_seq (pe_ix ix_seq (pv 0) (pv 5) fun _ _ => rfl)) (pg_name (i := 6) scFrom.nd rfl (Or.inl rfl))
          (pss_one (ps_if (pw_and (pt_cmpR op_ne (pv 6) (pv 2) (nomark _)) (pw_and1 (pt_cmp (pc_dnotin hu (pv 6) (pv 3))))).pt
            (pss_cons (ps_dput hu (pv 3) (pv 6) (pv 5) rfl)
            (pss_one (ps_expr (pe_bm PySem.F.plainAttrs_list PySem.F.slot_list_append PySem.F.type_list_append mt_append (pv 4) (pa_cons (pv 6) pa_nil)))))
            pss_nil))))))
      (pss_one (ps_ret (pv 3)))))), ?_⟩
    obtain ⟨nt, n, s, rs, bar, rfl, hn, bd, sn, n1, q⟩ := h
    have lt : ∀ h, ∀ x ∈ Tm.near rs h, x < n := fun h x hx => (Tm.near_lt bd hx).1
    refine fun pd hpd => ⟨_, rfl, _, rfl, upd_same, [(Sum.inl (s : Int), .int s)], rfl, (by show 1 ≤ 15; decide), ?_⟩
    have em : mergeK [] [((Sum.inl (s : Int) : Key), V.int (s : Int))] = dkv [(s, s)] := rfl
    rw [em, upd_upd]
    refine ⟨_, rfl, two_ln (by show 1 ≤ _; decide), fun pf hpf => ?_⟩
    have nf : pf ≠ pd := fun e => by rw [e, upd_same] at hpf; cases hpf
    have nf' : H pf = none := by rwa [upd_ne nf] at hpf
    dsimp only [gName, tSeq]
    refine while_by (fun σ H' => ∃ b st, Tm.Going (Tm.near rs) bar s b st ∧ st.length ≤ b.length ∧ (∀ r, Tm.Dfs (Tm.near rs) bar b st r → Tm.Dfs (Tm.near rs) bar [(s, s)] [s] r) ∧ Same H H' ∧ H' pd = some (.dK (dkv b)) ∧ H' pf = some (.lst (natV st.reverse)) ∧
        ∃ x y : Option V, σ = [some (.ref nt), some (.int s), some (barV bar), some (.ref pd), some (.ref pf), x, y])
      (fun σ H' => (match H' pf with | some (.lst xs) => xs.length | _ => 0) + (n - match H' pd with | some (.dK kvs) => kvs.length | _ => 0)) ?_ ?_ ?_
    · refine ⟨[(s, s)], [s], .start, Nat.le_refl _, fun r h => h, fun b o e => ?_, ?_, upd_same, none, none, rfl⟩
      · rw [upd_ne (ne_of_none e nf'), upd_ne (ne_of_none e hpd)]
        exact e
      · rw [upd_ne nf.symm, upd_same]
    · rintro σ H1 ⟨b, st, G, sl0, hd, k1, h1, h2, x, y, rfl⟩
      cases st with
      | nil => exact ⟨_, rfl, false, .inl ⟨_, SqL.of h2, rfl⟩, iteF ⟨_, rfl, q pd b H1 k1 hpd (hd b .done) G h1⟩⟩
      | cons a st =>
        obtain ⟨G2, lens⟩ := G.next
        have la : a < n := G.g.bound sn lt a (G.sub a List.mem_cons_self)
        have e1 : natV (a :: st).reverse = natV st.reverse ++ [V.int (a : Int)] := by simp [natV]
        have m0 : (match H1 pf with | some (HO.lst xs) => xs.length | _ => 0) = st.length + 1 := by rw [h2]; simp [natV]
        have m1 : (match H1 pd with | some (HO.dK kvs) => kvs.length | _ => 0) = b.length := by rw [h1]; simp [dkv]
        rw [e1] at h2
        refine ⟨_, rfl, true, .inl ⟨_, SqL.of h2, by simp⟩, iteT ⟨_, rfl, .inl ⟨rfl, _, SqL.of h2⟩, pf, _, .int a, rfl, rfl, h2, ?_, ?_⟩⟩
        · rw [List.length_append]
          simp
        · rw [List.dropLast_concat]
          obtain ⟨rows, t, ht1, ht2, ht3⟩ := near_row hn la
          have k2 : Same H (upd H1 pf (.lst (natV st.reverse))) := fun b o e => by
            rw [upd_ne (ne_of_none e nf')]
            exact k1 b o e
          refine ⟨_, rfl, _, rfl, ixTup (SqT.of (k2 _ _ ht1)) ht2 ⟨t, natV (Tm.near rs a), rfl, .inr (SqT.of (k2 _ _ ht3)), fun J w => ?_⟩⟩
          refine for_it w (fun i σ H' => ∃ b2 st2, (b2, st2) = ((Tm.near rs a).take i).foldl (Tm.visit bar a) (b, st) ∧ Same H H' ∧ H' pd = some (.dK (dkv b2)) ∧ H' pf = some (.lst (natV st2.reverse)) ∧
              ∃ y : Option V, σ = [some (.ref nt), some (.int s), some (barV bar), some (.ref pd), some (.ref pf), some (.int a), y]) ?_ (fun i σ H' _ h => ?_) ?_ ?_
          · exact ⟨b, st, rfl, k2, by rw [upd_ne nf.symm]; exact h1, upd_same, y, rfl⟩
          · obtain ⟨_, _, _, k3, _⟩ := h
            rw [k3 _ _ ht3, k2 _ _ ht3]
          · rintro i x2 σ H0 H2 hi ⟨b2, st2, e2, k3, h3, h4, y2, rfl⟩ ⟨rfl, hx⟩
            obtain ⟨li, rfl⟩ := nat_get hx
            have step : ((Tm.near rs a).take (i + 1)).foldl (Tm.visit bar a) (b, st) = Tm.visit bar a (b2, st2) (Tm.near rs a)[i] := by
              rw [List.take_succ_eq_append_getElem li, List.foldl_append, ← e2]
              rfl
            generalize ho : (Tm.near rs a)[i] = o at step
            have skip : (some o = bar ∨ o ∈ b2.map (·.1)) → ∃ b2 st2, (b2, st2) = ((Tm.near rs a).take (i + 1)).foldl (Tm.visit bar a) (b, st) ∧ Same H H2 ∧ H2 pd = some (.dK (dkv b2)) ∧ H2 pf = some (.lst (natV st2.reverse)) ∧
                ∃ y : Option V, [some (V.ref nt), some (.int s), some (barV bar), some (.ref pd), some (.ref pf), some (.int a), some (.int o)] = [some (.ref nt), some (.int s), some (barV bar), some (.ref pd), some (.ref pf), some (.int a), y] := fun c => by
              refine ⟨b2, st2, ?_, k3, h3, h4, _, rfl⟩
              rw [step]
              unfold Tm.visit
              exact (if_pos c).symm
            have nb : decide (V.int (o : Int) = barV bar) = decide (some o = bar) := by
              apply decide_eq_decide.mpr
              cases bar with
              | none => simp [barV]
              | some z =>
                simp only [barV, V.int.injEq, Option.some.injEq]
                omega
            refine ⟨_, rfl, _, rfl, ?_, _, rfl, iteB (fun c1 => ?_) fun c1 => ?_⟩
            · cases bar <;> rfl
            · rw [nb] at c1
              have c1 := of_decide_eq_false (not_t c1)
              refine ⟨_, rfl, _, rfl, pd, _, rfl, DGet.k (k := Sum.inl (o : Int)) h3, _, rfl, iteB (fun c2 => ?_) fun c2 => ?_⟩
              · rw [dkv_val] at c2
                have c2 := of_decide_eq_false (not_t c2)
                have c3 : ¬ (some o = bar ∨ o ∈ b2.map (·.1)) := fun z => z.elim c1 c2
                have room : b2.length ≤ n := by
                  obtain ⟨g1, _⟩ := Tm.visit_grown (bar := bar) (os := (Tm.near rs a).take i) (st := st) G.g (G.sub a List.mem_cons_self) fun o ho => List.mem_of_mem_take ho
                  rw [← e2] at g1
                  have := Tm.nodup_len g1.nodup (g1.bound sn lt)
                  simpa [Tm.keys] using this
                refine ⟨_, rfl, _, rfl, _, rfl, pd, _, rfl, DPut.k (k := Sum.inl (o : Int)) h3 (lt_ln (by unfold dkv; rw [List.length_map]; omega)), ?_⟩
                rw [dkv_put c2]
                have h5 : upd H2 pd (.dK (dkv (b2 ++ [(o, a)]))) pf = some (.lst (natV st2.reverse)) := by rw [upd_ne nf]; exact h4
                have sl : st2.length ≤ 200 := by
                  obtain ⟨_, _, _, _, _, _, g7⟩ := Tm.visit_grown (bar := bar) (os := (Tm.near rs a).take i) (st := st) G.g (G.sub a List.mem_cons_self) fun o ho => List.mem_of_mem_take ho
                  rw [← e2] at g7
                  simp only at g7
                  rw [List.length_cons] at sl0
                  omega
                refine ⟨_, rfl, .inl ⟨rfl, _, SqL.of h5⟩, _, rfl, pf, _, _, rfl, rfl, h5, lt_ln (by unfold natV; rw [List.length_map, List.length_reverse]; omega), b2 ++ [(o, a)], o :: st2, ?_, ?_, ?_, ?_, _, rfl⟩
                · rw [step]
                  unfold Tm.visit
                  exact (if_neg c3).symm
                · intro b o e
                  rw [upd_ne (ne_of_none e nf'), upd_ne (ne_of_none e hpd)]
                  exact k3 b o e
                · rw [upd_ne nf.symm, upd_same]
                · rw [upd_same]
                  simp [natV]
              · rw [dkv_val] at c2
                exact skip (.inr (of_decide_eq_true (not_f c2)))
            · rw [nb] at c1
              exact skip (.inl (of_decide_eq_true (not_f c1)))
          · rintro σ H2 ⟨b2, st2, e2, k3, h3, h4, y2, rfl⟩
            have ln : (natV (Tm.near rs a)).length = (Tm.near rs a).length := by simp [natV]
            rw [ln, List.take_length] at e2
            have e3 : (Tm.visits (Tm.near rs) bar a b st) = (b2, st2) := e2.symm
            rw [e3] at G2 lens
            have r1 := G2.room sn lt
            have r0 := G.room sn lt
            simp only at lens r1
            refine ⟨⟨b2, st2, G2, (by rw [List.length_cons] at sl0; omega), fun r hr => hd r (.step (by rw [e3]; exact hr)), k3, h3, h4, _, _, rfl⟩, ?_⟩
            show (match H2 pf with | some (HO.lst xs) => xs.length | _ => 0) + (n - match H2 pd with | some (HO.dK kvs) => kvs.length | _ => 0) < (match H1 pf with | some (HO.lst xs) => xs.length | _ => 0) + (n - match H1 pd with | some (HO.dK kvs) => kvs.length | _ => 0)
            rw [m0, m1, h4, h3]
            simp only [natV, dkv, List.length_map, List.length_reverse]
            omega
    · rintro σ H1 Q1 Q2 h ⟨v, hv, k, tr, q⟩
      exact ⟨v, hv, k, tr, h _ _ q⟩
end
end K04

namespace L2
open PySem PySem.Spec PyProof.Rows
mutual
theorem Rdd.dp {K : PySem.W.Frag} {H : Hp} : ∀ {v : V} {d : PyData}, Rdd H v d → d.canLay0 = true → Dp K H v d
  | _, _, .non, _ => .non
  | _, _, .bl b, _ => .bl b
  | _, _, .int i, _ => .int i
  | _, _, .str x, _ => .str x
  | _, _, .lst h r, c => .lst (SqL.of h) (RddAll.dp r (by simpa [PyData.canLay0] using c))
  | _, _, .tup h r, c => .tup (SqT.of h) (RddAll.dp r (by simpa [PyData.canLay0] using c))
  | _, _, .dK h r q, c => by simp [PyData.canLay0] at c
theorem RddAll.dp {K : PySem.W.Frag} {H : Hp} : ∀ {vs : List V} {ds : List PyData}, RddAll H vs ds → PyData.canLayAll0 ds = true → DpAll K H vs ds
  | _, _, .nil, _ => .nil
  | _, _, .cons r t, c => by
    simp only [PyData.canLayAll0, Bool.and_eq_true] at c
    exact .cons (Rdd.dp r c.1) (RddAll.dp t c.2)
end
end L2
namespace K04
open PySem PySem.Spec PyProof.Rows L2
theorem rds_shaped (rs : List Tm.Road) : SeqAt.shaped (.tuple (rs.map rd)) = true := by
  unfold SeqAt.shaped
  have a : PyData.canLayAll0 (rs.map rd) = true ∧ PyData.depthAll (rs.map rd) ≤ 1 := by
    induction rs with
    | nil => exact ⟨rfl, Nat.zero_le _⟩
    | cons r rs ih =>
      refine ⟨?_, ?_⟩
      · simpa [PyData.canLayAll0, PyData.canLay0, rd] using ih.1
      · have := ih.2
        simp only [List.map_cons, PyData.depthAll, PyData.depth, rd]
        omega
  have c : (PyData.tuple (rs.map rd)).canLay0 = true := by simpa [PyData.canLay0] using a.1
  rw [c, Bool.true_and]
  apply decide_eq_true
  simp only [PyData.depth]
  have := a.2
  omega
theorem rds_eqv : ∀ rs qs : List Tm.Road, PyData.eqv (.tuple (rs.map rd)) (.tuple (qs.map rd)) = decide (rs = qs) := by
  intro rs qs
  show PyData.eqvAll (rs.map rd) (qs.map rd) = _
  induction rs generalizing qs with
  | nil =>
    cases qs with
    | nil => rfl
    | cons q qs => simp [PyData.eqvAll]
  | cons r rs ih =>
    cases qs with
    | nil => simp [PyData.eqvAll]
    | cons q qs =>
      simp only [List.map_cons, PyData.eqvAll]
      rw [ih]
      have e : PyData.eqv (rd r) (rd q) = decide (r = q) := by
        obtain ⟨a, b⟩ := r
        obtain ⟨c, d⟩ := q
        simp only [rd, PyData.eqv, PyData.eqvAll, Bool.and_true]
        by_cases h1 : a = c
        · by_cases h2 : b = d
          · subst h1 h2; simp
          · have : ¬ (b : Int) = d := by omega
            simp [h2, this]
        · have : ¬ (a : Int) = c := by omega
          simp [h1, this]
      rw [e]
      by_cases h1 : r = q
      · simp [h1]
      · simp [h1]
/-! ### the class Tree -/
abbrev Md (K : PySem.W.Frag) (m qual : Str) (st : Stmt) (f : Addr) (fd : FuncData) : Prop := FunD K m qual (defArgs st) (defBody st) (defScope st) [] [] f fd
structure TreeK (K : PySem.W.Frag) (mg : Str → Option Value) : Prop where
  g : mg "Tree" = some (.ref (CT K))
  cl : Cls K (CT K)
  nh : NoAttr K (CT K) "houses"
  nr : NoAttr K (CT K) "roads"
  nn : NoAttr K (CT K) "near"
  mkT : Mk K (CT K) (MT K "__init__")
  co : PySem.W.findIn K (.ref (CT K)) "__contains__" = some (some (.ref (MT K "__contains__")))
  cof : PySem.W.isFn K (.ref (MT K "__contains__")) = true
  le : PySem.W.findIn K (.ref (CT K)) "__len__" = some (some (.ref (MT K "__len__")))
  lef : PySem.W.isFn K (.ref (MT K "__len__")) = true
  eq : PySem.W.findIn K (.ref (CT K)) "__eq__" = some (some (.ref (MT K "__eq__")))
  eqf : PySem.W.isFn K (.ref (MT K "__eq__")) = true
  ne : PySem.W.findIn K (.ref (CT K)) "__ne__" = some (some (.builtin "object.__ne__"))
  ob : PySem.W.subIn K (.ref (CT K)) (.type "object") = some true
  self : PySem.W.kitOne K (.ref (CT K)) (.ref (CT K)) = some true
  no : ∀ T ∈ tys, PySem.W.kitOne K (.type T) (.ref (CT K)) = some false ∧ PySem.W.notFirst K (CT K) (.type T) = true
  ha : PySem.W.findIn K (.ref (CT K)) "__class__" = some (some (.builtin "object.__class__"))
  hn : PySem.W.specialIn K (.builtin "object.__class__") "__get__" = some (some (.builtin "getset_descriptor.__get__"))
  htk : PySem.W.takesIn K (.builtin "object.__class__") = some true
  hm : PySem.W.mroIn K (CT K) (.type "object") = some true
def fsT (n : Nat) (rt nt : Addr) : List (Str × V) := [("houses", .int n), ("roads", .ref rt), ("near", .ref nt)]
/-- at t a tree of n houses with the roads rs -/
structure TreeAt (K : PySem.W.Frag) (H : Hp) (t : Addr) (n : Nat) (rs : List Tm.Road) : Prop where
  ex : ∃ dx rt nt, H t = some (.ins (CT K) dx (fsT n rt nt)) ∧ Rdd H (.ref rt) (.tuple (rs.map rd)) ∧ Rdd H (.ref nt) (nearD n rs)
  ok : Tm.RoadsOk n rs
  jo : Tm.Joined n rs
  le : n ≤ 64
theorem TreeAt.mono {K : PySem.W.Frag} {H H' : Hp} {t : Addr} {n : Nat} {rs : List Tm.Road} (k : Same H H') (T : TreeAt K H t n rs) : TreeAt K H' t n rs :=
  let ⟨dx, rt, nt, h1, h2, h3⟩ := T.ex
  ⟨⟨dx, rt, nt, k _ _ h1, h2.mono k, h3.mono k⟩, T.ok, T.jo, T.le⟩
abbrev sTInit : Stmt := cdef 27 0
theorem scTInit : FnScope ["self", "houses", "roads", "near", "joined", "house"] ["self", "houses", "roads"] (defScope sTInit) := ⟨rfl, rfl, rfl, by decide +kernel, rfl, by decide +kernel, by decide +kernel⟩
abbrev sTLen : Stmt := cdef 27 1
theorem scTLen : FnScope ["self"] ["self"] (defScope sTLen) := ⟨rfl, rfl, rfl, by decide +kernel, rfl, by decide +kernel, by decide +kernel⟩
abbrev sTCont : Stmt := cdef 27 2
theorem scTCont : FnScope ["self", "value"] ["self", "value"] (defScope sTCont) := ⟨rfl, rfl, rfl, by decide +kernel, rfl, by decide +kernel, by decide +kernel⟩
abbrev sTEq : Stmt := cdef 27 3
theorem scTEq : FnScope ["self", "other"] ["self", "other"] (defScope sTEq) := ⟨rfl, rfl, rfl, by decide +kernel, rfl, by decide +kernel, by decide +kernel⟩
/-- a method of Tree keeps sp -/
structure OkM (P : Program) (w : World) (K : PySem.W.Frag) (mg : Str → Option Value) (base : Heap) (CX : CXT) (k : Nat) (m : Str) (ps : List Str) (sp : Sp) : Prop where
  ex : ∃ fd, Binds K fd ps [] ∧ FnOk P w K mg base CX k (MT K m) fd ps sp
def spCont (K : PySem.W.Frag) : Sp := fun vs H Q _ => ∃ t n rs v d, vs = [.ref t, v] ∧ TreeAt K H t n rs ∧ Rdd H v d ∧ Q (.bl (belowD n d)) H
def spLen (K : PySem.W.Frag) : Sp := fun vs H Q _ => ∃ t n rs, vs = [.ref t] ∧ TreeAt K H t n rs ∧ Q (.int n) H
/-- the other one of a comparison: data, or a tree -/
def Oth (K : PySem.W.Frag) (H : Hp) (v : V) (o : Option (Nat × List Tm.Road)) : Prop := match o with
  | none => ∃ d, Rdd H v d
  | some (n, rs) => ∃ t, v = .ref t ∧ TreeAt K H t n rs
def spEq (K : PySem.W.Frag) : Sp := fun vs H Q _ => ∃ t n rs v o, vs = [.ref t, v] ∧ TreeAt K H t n rs ∧ Oth K H v o ∧ Q (.bl (decide (o = some (n, rs)))) H
section
variable {P : Program} {w : World} {K : PySem.W.Frag} {mg : Str → Option Value} {base : Heap} {fd : FuncData}
theorem ok_cont (F : Md K "__contains__" "Tree.__contains__" sTCont (MT K "__contains__") fd) (C : TreeK K mg) (o_is_below : Ok P w K mg base CX0 1 "is_below" sIsBelow ["value", "bound"] spIsBelow) : OkM P w K mg base CX0 2 "__contains__" ["self", "value"] (spCont K) := by
  refine ⟨fd, F.bindsN fun _ _ _ _ _ _ us hl => match us, hl with | [_, _], _ => rfl, F.ok scTCont (fun vs H Q E h => ?_) (fun cdv A outer s H vs Q E hr h => ?_)⟩
  · obtain ⟨t, n, rs, v, d, rfl, _⟩ := h
    rfl
  · refine ⟨_, (pss_one (ps_ret (pe_o o_is_below (hr.mono (by decide)) (by rfl) (pa_cons (pv 1) (pa_cons (pe_fld (pv 0) rfl) pa_nil))))), ?_⟩
    obtain ⟨t, n, rs, v, d, rfl, T, r, q⟩ := h
    obtain ⟨dx, rt, nt, h1, _, _⟩ := T.ex
    exact ⟨_, rfl, _, rfl, _, _, _, _, _, rfl, h1, C.cl, C.nh, rfl, v, d, _, rfl, r, q⟩
theorem ok_len (F : Md K "__len__" "Tree.__len__" sTLen (MT K "__len__") fd) (C : TreeK K mg) (B : Bl mg) : OkM P w K mg base CX0 1 "__len__" ["self"] (spLen K) := by
  refine ⟨fd, F.bindsN fun _ _ _ _ _ _ us hl => match us, hl with | [_], _ => rfl, F.ok scTLen (fun vs H Q E h => ?_) (fun cdv A outer s H vs Q E hr h => ?_)⟩
  · obtain ⟨t, n, rs, rfl, _⟩ := h
    rfl
  · refine ⟨_, (pss_one (ps_ret (pe_callB call_len (by rfl) (B.u "len" (by decide +kernel)) boot_len (pa_cons (pe_fld (pv 0) rfl) pa_nil)))), ?_⟩
    obtain ⟨t, n, rs, rfl, T, q⟩ := h
    obtain ⟨dx, rt, nt, h1, _, rn⟩ := T.ex
    refine ⟨_, rfl, _, _, _, _, _, rfl, h1, C.cl, C.nn, rfl, ?_⟩
    cases rn with
    | tup h1 ra =>
      have l := rdds_len ra
      rw [List.length_map, List.length_range] at l
      exact ⟨_, _, rfl, .inr ⟨_, SqT.of h1, l.symm⟩, q⟩
theorem ok_eq (F : Md K "__eq__" "Tree.__eq__" sTEq (MT K "__eq__") fd) (C : TreeK K mg) (B : Bl mg) : OkM P w K mg base CX0 1 "__eq__" ["self", "other"] (spEq K) := by
  refine ⟨fd, F.bindsN fun _ _ _ _ _ _ us hl => match us, hl with | [_, _], _ => rfl, F.ok scTEq (fun vs H Q E h => ?_) (fun cdv A outer s H vs Q E hr h => ?_)⟩
  · obtain ⟨t, n, rs, v, o, rfl, _⟩ := h
    rfl
  · have hu : (cxOf CX0 P w K mg base ["self", "other"] "Tree.__eq__" (defScope sTEq) (MT K "__eq__") cdv A outer s H E).A.units + 64 < cLine := by
      have z := hr.un
      show (A.deeper _).units + 64 < cLine
      omega
    refine ⟨_, (pss_one (ps_ret (pe_and (pe_callB call_isi (by rfl) (B.u "isinstance" (by decide +kernel)) boot_isinstance (pa_cons (pv 1) (pa_cons (pe_glob (by rfl) C.g (v := .ref (CT K)) rfl) pa_nil))) (pe_and (pe_cmpR op_eq (pe_fld (pv 0) rfl) (pe_fld (pv 1) rfl) (nomark _)) (pe_one (pe_cmpR (op_eqD hu) (pe_fld (pv 0) rfl) (pe_fld (pv 1) rfl) (nomark _))))))), ?_⟩
    obtain ⟨t, n, rs, v, o, rfl, T, ho, q⟩ := h
    obtain ⟨dx, rt, nt, h1, r1, _⟩ := T.ex
    cases o with
    | none =>
      obtain ⟨d, r⟩ := ho
      exact ⟨_, rfl, v, _, _, _, false, rfl, .own _, r.tx, (C.no _ (tyd_mem d)).1, false, rfl, iteF q⟩
    | some p =>
      obtain ⟨m, qs⟩ := p
      obtain ⟨t2, rfl, T2⟩ := ho
      obtain ⟨dx2, rt2, nt2, h2, r2, _⟩ := T2.ex
      refine ⟨_, rfl, _, _, _, _, true, rfl, .own _, .base (.ins h2 C.cl C.ha C.hn C.htk C.hm), C.self, true, rfl, iteT ?_⟩
      refine ⟨_, rfl, _, _, _, _, _, rfl, h1, C.cl, C.nh, rfl, _, rfl, _, _, _, _, _, rfl, h2, C.cl, C.nh, rfl, rfl, _, rfl, iteB (fun e => ?_) fun e => ?_⟩
      · have e : n = m := by
          have := V.int.inj (of_decide_eq_true e)
          omega
        subst e
        refine ⟨_, rfl, _, _, _, _, _, rfl, h1, C.cl, C.nr, rfl, _, rfl, _, _, _, _, _, rfl, h2, C.cl, C.nr, rfl, _, _, r1.dp (SeqAt.canLay_of_shaped (rds_shaped rs)), r2.dp (SeqAt.canLay_of_shaped (rds_shaped qs)), rds_shaped rs, rds_shaped qs, ?_⟩
        rw [rds_eqv]
        have : decide (some (n, qs) = some (n, rs)) = decide (rs = qs) := by
          apply decide_eq_decide.mpr
          simp [eq_comm]
        rw [← this]
        exact q
      · have e : ¬ n = m := fun z => by
          rw [z] at e
          exact of_decide_eq_false e rfl
        have : decide (some (m, qs) = some (n, rs)) = false := by
          apply decide_eq_false
          intro z
          simp at z
          exact e z.1.symm
        rw [this] at q
        exact q
end
end K04

namespace L2
open PySem PySem.Spec PyProof.Rows
/-- all but instances is kept -/
def KeepI (H H' : Hp) : Prop := ∀ b o, H b = some o → (∀ C d f, o ≠ .ins C d f) → H' b = some o
mutual
theorem Rdd.keepI {H H' : Hp} (k : KeepI H H') : ∀ {v : V} {d : PyData}, Rdd H v d → Rdd H' v d
  | _, _, .non => .non
  | _, _, .bl b => .bl b
  | _, _, .int i => .int i
  | _, _, .str x => .str x
  | _, _, .lst h r => .lst (k _ _ h fun _ _ _ z => nomatch z) (RddAll.keepI k r)
  | _, _, .tup h r => .tup (k _ _ h fun _ _ _ z => nomatch z) (RddAll.keepI k r)
  | _, _, .dK h r q => .dK (k _ _ h fun _ _ _ z => nomatch z) (RddAll.keepI k r) (RddAll.keepI k q)
theorem RddAll.keepI {H H' : Hp} (k : KeepI H H') : ∀ {vs : List V} {ds : List PyData}, RddAll H vs ds → RddAll H' vs ds
  | _, _, .nil => .nil
  | _, _, .cons r t => .cons (Rdd.keepI k r) (RddAll.keepI k t)
end
theorem KeepI.upd {H : Hp} {x C d : Addr} {f : List (Str × V)} {o : HO} (h : H x = some (.ins C d f)) : KeepI H (upd H x o) := fun b u e n => by
  rw [upd_ne (fun z => by rw [z, h] at e; cases e; exact n _ _ _ rfl)]
  exact e
end L2
namespace K04
open PySem PySem.Spec PyProof.Rows L2
/-- refused by the class x, with v as f -/
def Refuses (K : PySem.W.Frag) (x f : Str) (v : V) (H : Hp) (E : XK) : Prop := ∀ d H', Same H H' → H' d = some (.xd [(f, v)]) → E (.ref (He.ga K x)) (some d) H'
theorem Refuses.mono {K : PySem.W.Frag} {x f : Str} {v : V} {H H1 : Hp} {E : XK} (k : Same H H1) (h : Refuses K x f v H E) : Refuses K x f v H1 E := fun d H' k' e => h d H' (k.trans k') e
/-- what becomes of Tree(vh, vr): W the tree's way out -/
structure Made (K : PySem.W.Frag) (H : Hp) (vh vr : V) (dh dr : PyData) (E : XK) (W : Nat → List Tm.Road → Prop) : Prop where
  hs : (¬ ∃ n : Nat, dh = .int n ∧ 1 ≤ n ∧ n ≤ 64) → Refuses K "InvalidHouses" "given" vh H E
  rs : ∀ n : Nat, dh = .int n → 1 ≤ n → n ≤ 64 → (¬ ∃ rs, isRoads dr rs ∧ Tm.RoadsOk n rs) → Refuses K "InvalidRoads" "given" vr H E
  nj : ∀ (n : Nat) (rs : List Tm.Road) (b : Tm.B) (h : Nat), dh = .int n → 1 ≤ n → n ≤ 64 → isRoads dr rs → Tm.RoadsOk n rs → Tm.Dfs (Tm.near rs) none [(0, 0)] [0] b → h < n → h ∉ Tm.keys b → (∀ k, k < h → k ∈ Tm.keys b) → Refuses K "NotJoined" "house" (.int h) H E
  ok : ∀ (n : Nat) (rs : List Tm.Road), dh = .int n → 1 ≤ n → n ≤ 64 → isRoads dr rs → Tm.RoadsOk n rs → Tm.Joined n rs → W n rs
def spInit (K : PySem.W.Frag) : Sp := fun vs H Q E => ∃ (x dx : Addr) (vh vr : V) (dh dr : PyData), vs = [.ref x, vh, vr] ∧ H x = some (.ins (CT K) dx []) ∧ Rdd H vh dh ∧ Rdd H vr dr ∧ Tame dr ∧
  Made K H vh vr dh dr E fun n rs => ∀ H', But x H H' → TreeAt K H' x n rs → Q .non H'
section
variable {P : Program} {w : World} {K : PySem.W.Frag} {mg : Str → Option Value} {base : Heap} {fd : FuncData}
theorem ok_init (F : Md K "__init__" "Tree.__init__" sTInit (MT K "__init__") fd) (C : TreeK K mg) (B : Bl mg) (h_MOST : ∃ t, mg "MOST_HOUSES" = some (.int 64 t)) (O_InvalidHouses : One P w K mg base "InvalidHouses" "given") (O_InvalidRoads : One P w K mg base "InvalidRoads" "given")
    (O_NotJoined : One P w K mg base "NotJoined" "house") (o_is_int : Ok P w K mg base CX0 1 "is_int" sIsInt ["value"] spIsInt) (o_are_roads : Ok P w K mg base CX0 2 "are_roads" sAreRoads ["houses", "value"] spAreRoads)
    (o_houses_near : Ok P w K mg base CX0 1 "houses_near" sNear ["houses", "roads"] spNear) (o_houses_from : Ok P w K mg base CX0 1 "houses_from" sFrom ["near", "start", "barred"] spFrom) : FnOk P w K mg base (L2N.CX P w) 3 (MT K "__init__") fd ["self", "houses", "roads"] (spInit K) := by
  obtain ⟨t64, h_MOST_HOUSES⟩ := h_MOST
  refine F.ok scTInit (fun vs H Q E h => ?_) (fun cdv A outer s H vs Q E hr h => ?_)
  · obtain ⟨x, dx, vh, vr, dh, dr, rfl, _⟩ := h
    rfl
  · have tk : L2N.Takes (cxOf (L2N.CX P w) P w K mg base ["self", "houses", "roads", "near", "joined", "house"] "Tree.__init__" (defScope sTInit) (MT K "__init__") cdv A outer s H E) (fun cls d _ H => E cls d H) := L2N.takes_of rfl rfl rfl rfl
    have hu : (cxOf (L2N.CX P w) P w K mg base ["self", "houses", "roads", "near", "joined", "house"] "Tree.__init__" (defScope sTInit) (MT K "__init__") cdv A outer s H E).A.units + 1 < cLine := by
      have z := hr.un
      show (A.deeper _).units + 1 < cLine
      omega
    refine ⟨_, (pss_cons (ps_if (pw_or (pt_not (pt_val (pe_o o_is_int (hr.mono (by decide)) (by rfl) (pa_cons (pv 1) pa_nil)))) (pw_or1 (pt_not (pt_chain op_le op_le pe_int (pv 1) (pe_glob (by rfl) h_MOST_HOUSES (v := .int 64) ⟨_, rfl⟩))))).pt
        (pss_one (L2N.ps_raise rfl tk (by exact (pmk_e1 O_InvalidHouses (hr.mono (by decide)) (pv 1) (by rfl)))))
        pss_nil)
      (pss_cons (ps_if (pt_not (pt_val (pe_o o_are_roads (hr.mono (by decide)) (by rfl) (pa_cons (pv 1) (pa_cons (pv 2) pa_nil)))))
        (pss_one (L2N.ps_raise rfl tk (by exact (pmk_e1 O_InvalidRoads (hr.mono (by decide)) (pv 2) (by rfl)))))
        pss_nil)
      (pss_cons (ps_set (i := 3) scTInit.nd rfl (Or.inl rfl) (pe_o o_houses_near (hr.mono (by decide)) (by rfl) (pa_cons (pv 1) (pa_cons (pv 2) pa_nil))))
      (pss_cons (ps_set (i := 4) scTInit.nd rfl (Or.inl rfl) (pe_o o_houses_from (hr.mono (by decide)) (by rfl) (pa_cons (pv 3) (pa_cons pe_int (pa_cons pe_non pa_nil)))))
      (pss_cons (ps_for (passes_of rfl) rfl (pi_range1 (by rfl) (B.u "range" (by decide +kernel)) (pa_cons (pv 1) pa_nil)) (pg_name (i := 5) scTInit.nd rfl (Or.inl rfl))
        (pss_one (ps_if (pt_cmp (pc_dnotin hu (pv 5) (pv 4)))
          (pss_one (L2N.ps_raise rfl tk (by exact (pmk_e1 O_NotJoined (hr.mono (by decide)) (pv 5) (by rfl)))))
          pss_nil)))
      (pss_cons (ps_fld (pv 0) (pv 1) rfl)
      (pss_cons (ps_fld (pv 0) (pe_callTy call_tuple_of (by rfl) (B.u "tuple" (by decide +kernel)) (by decide +kernel) (pa_cons (pv 2) pa_nil)) rfl)
      (pss_one (ps_fld (pv 0) (pv 3) rfl))))))))), ?_⟩
    obtain ⟨x, dx, vh, vr, dh, dr, rfl, hx, rh, rr, tr, M⟩ := h
    refine ⟨_, rfl, _, _, rfl, rh, _, rfl, iteB (fun e => iteT ⟨_, rfl, M.hs fun ⟨n, z, _⟩ => ?_⟩) fun e => ?_⟩
    · subst z
      simp [tyd] at e
    obtain ⟨i, rfl, rfl⟩ := rh.int_of (of_decide_eq_true (not_f e))
    refine ⟨_, rfl, _, _, rfl, rfl, _, rfl, iteB (fun e1 => ?_) fun e1 => ?_⟩
    · refine ⟨_, _, rfl, rfl, _, rfl, iteB (fun e2 => ?_) fun e2 => ?_⟩
      · refine ⟨_, rfl, M.hs fun ⟨n, z, h1, h2⟩ => ?_⟩
        have := of_decide_eq_false (not_t e2)
        simp at z
        omega
      have l1 := of_decide_eq_true e1
      have l2 := of_decide_eq_true (not_f e2)
      obtain ⟨n, rfl⟩ : ∃ n : Nat, i = n := ⟨i.toNat, by omega⟩
      have n1 : 1 ≤ n := by omega
      have n2 : n ≤ 64 := by omega
      refine ⟨_, rfl, _, rfl, n, vr, dr, rfl, rr, tr, n1, by omega, fun b H1 k1 hb => ⟨_, rfl, iteB (fun e => ?_) fun e => ?_⟩⟩
      · refine ⟨_, rfl, (M.rs n rfl n1 n2 fun z => ?_).mono k1⟩
        rw [hb.mpr z] at e
        cases e
      obtain ⟨rs, hrs, ok⟩ := hb.mp (not_f e)
      have lD : listD dr = true := by rcases hrs with rfl | rfl <;> rfl
      obtain ⟨p, xs, ds, rfl, hp, ra, hd⟩ := row_of rr lD
      have eds := (isRoads_row hd).mp hrs
      subst eds
      have ll := ok.len
      refine ⟨_, rfl, _, rfl, n, p, xs, rs, rfl, hp.mono k1, ra.mono k1, ok.bnd, by omega, by omega, fun nt H2 k2 rn => ?_⟩
      refine ⟨_, rfl, nt, n, 0, rs, none, rfl, rn, ok.bnd, by omega, by omega, fun d b H3 k3 nd3 hdf G hd3 => ?_⟩
      have k03 : Same H H3 := k1.trans (k2.trans k3)
      have lt : ∀ h, ∀ x ∈ Tm.near rs h, x < n := fun h x hx => (Tm.near_lt ok.bnd hx).1
      refine ⟨_, rfl, _, rfl, by omega, by omega, for_range (n := n) (fun i σ H' => H' = H3 ∧ (∀ k, k < i → k ∈ Tm.keys b) ∧ ∃ a : Option V, σ = [some (.ref x), some (.int n), some (.ref p), some (.ref nt), some (.ref d), a]) ⟨rfl, (fun k z => absurd z (Nat.not_lt_zero _)), none, rfl⟩ ?_ ?_⟩
      · rintro i σ H4 hi ⟨rfl, hk, a, rfl⟩
        have e0 : (0 : Int) + i = (i : Nat) := by omega
        rw [e0]
        refine ⟨_, rfl, _, rfl, d, _, rfl, DGet.k (k := Sum.inl (i : Int)) hd3, _, rfl, iteB (fun c => ?_) fun c => ?_⟩
        · rw [dkv_val] at c
          have c := of_decide_eq_false (not_t c)
          exact ⟨_, rfl, (M.nj n rs b i rfl n1 n2 hrs ok hdf hi c hk).mono k03⟩
        · rw [dkv_val] at c
          have c := of_decide_eq_true (not_f c)
          refine ⟨rfl, fun k lk => ?_, _, rfl⟩
          by_cases z : k = i
          · rw [z]; exact c
          · exact hk k (by omega)
      · rintro σ H4 ⟨rfl, hk, a, rfl⟩
        have bl : b.length = n := by
          have up := G.room (by omega) lt
          have dn : (List.range n).length ≤ (Tm.keys b).length := by
            have c2 : ∀ (l m : List Nat), l.Nodup → (∀ x ∈ l, x ∈ m) → l.length ≤ m.length := by
              intro l
              induction l with
              | nil => intro m _ _; exact Nat.zero_le _
              | cons a l ih =>
                intro m d s
                have d' := List.nodup_cons.mp d
                have ha := s a List.mem_cons_self
                have l1 := List.length_erase_of_mem ha
                have l2 := List.length_pos_of_mem ha
                have i := ih (m.erase a) d'.2 fun y hy => (List.mem_erase_of_ne fun q => d'.1 (by rw [← q]; exact hy)).mpr (s y (List.mem_cons_of_mem _ hy))
                rw [List.length_cons]
                omega
            exact c2 _ _ List.nodup_range fun k hk2 => hk k (List.mem_range.mp hk2)
          rw [List.length_range] at dn
          simp only [Tm.keys, List.length_map] at dn
          omega
        have W := M.ok n rs rfl n1 n2 hrs ok ⟨b, hdf, bl⟩
        have hx3 := k03 _ _ hx
        have fin : ∀ (rt : Addr) (Hb : Hp), Hb x = some (.ins (CT K) dx [("houses", .int n)]) → (∀ b o, b ≠ x → H4 b = some o → Hb b = some o) → Rdd Hb (.ref rt) (.tuple (rs.map rd)) →
            sFld K (tVar 0) (tVar 3) "near" { nx := fun _ H' => Q .non H', rt := Q } [some (.ref x), some (.int n), some (.ref p), some (.ref nt), some (.ref d), a] (upd Hb x (.ins (CT K) dx [("houses", .int n), ("roads", .ref rt)])) := by
          intro rt Hb h5 k5 r5
          refine ⟨_, rfl, _, rfl, x, _, dx, _, rfl, upd_same, C.cl, C.nn, (by show 2 < 1000; decide), ?_⟩
          have kI : KeepI Hb (upd (upd Hb x (.ins (CT K) dx [("houses", .int n), ("roads", .ref rt)])) x (.ins (CT K) dx (putF "near" (.ref nt) [("houses", .int n), ("roads", .ref rt)]))) := fun b o e z => by
            have nb : b ≠ x := fun y => by rw [y, h5] at e; cases e; exact z _ _ _ rfl
            rw [upd_ne nb, upd_ne nb]
            exact e
          refine W _ (fun b o nb e => ?_) ⟨⟨dx, rt, nt, upd_same, r5.keepI kI, ?_⟩, ok, ⟨b, hdf, bl⟩, n2⟩
          · rw [upd_ne nb, upd_ne nb]
            exact k5 _ _ nb (k03 _ _ e)
          · refine Rdd.keepI ?_ (rn.mono k3)
            intro b o e z
            have nb : b ≠ x := fun y => by rw [y, hx3] at e; cases e; exact z _ _ _ rfl
            rw [upd_ne nb, upd_ne nb]
            exact k5 _ _ nb e
        refine ⟨_, rfl, _, rfl, x, _, dx, _, rfl, hx3, C.cl, C.nh, (by show 0 < 1000; decide), ?_⟩
        have kI := KeepI.upd (o := .ins (CT K) dx (putF "houses" (.int n) [])) hx3
        have ra3 : RddAll H4 xs (rs.map rd) := ra.mono k03
        have hp3 := hp.mono k03
        rcases hp3 with h1 | h1
        · have h1' := kI _ _ h1 fun _ _ _ z => nomatch z
          refine ⟨_, rfl, p, xs, rfl, .inl ⟨SqL.of h1', fun t ht => ?_⟩⟩
          have nx : x ≠ t := fun y => by rw [← y, upd_same] at ht; cases ht
          refine ⟨_, rfl, x, _, dx, [("houses", .int n)], rfl, (by rw [upd_ne nx]; exact upd_same), C.cl, C.nr, (by show 1 < 1000; decide), fin t _ (by rw [upd_ne nx]; exact upd_same) (fun b o nb e => ?_) (.tup upd_same ((ra3.keepI kI).mono (upd_grow ht)))⟩
          have e2 : upd H4 x (.ins (CT K) dx (putF "houses" (.int n) [])) b = some o := by rw [upd_ne nb]; exact e
          rw [upd_ne (ne_of_none e2 ht)]
          exact e2
        · have h1' := kI _ _ h1 fun _ _ _ z => nomatch z
          refine ⟨_, rfl, p, xs, rfl, .inr ⟨SqT.of h1', ?_⟩⟩
          refine ⟨_, rfl, x, _, dx, [("houses", .int n)], rfl, upd_same, C.cl, C.nr, (by show 1 < 1000; decide), fin p _ upd_same (fun b o nb e => ?_) (.tup h1' (ra3.keepI kI))⟩
          rw [upd_ne nb]
          exact e
    · refine ⟨false, rfl, iteT ⟨_, rfl, M.hs fun ⟨n, z, h1, h2⟩ => ?_⟩⟩
      have := of_decide_eq_false e1
      simp at z
      omega
end
end K04

/-! set(xs) by what one item adds; len(set(xs)) of texts -/
namespace MS
open PySem PySem.Spec PyProof.Rows
section
variable {P : Program} {w : World} {A : Around} {I : Addr} {fp wr : List Addr} {G : Array GenState → Array GenState → Prop} {n : Nat} {Pv : Nat → Value → Prop} {St : Nat → Shared → Prop} {R : Result → Shared → Prop}
/-- J: how the set stands behind i items -/
theorem loopJ (W : WalksS P w A.in1 I fp wr G n Pv St) (S : Addr) (far : S ∉ fp) (J : Nat → Heap → Prop) (mono : ∀ i h h', (∀ b o, b ∉ wr → h.get? b = some o → h'.get? b = some o) → J i h → J i h')
    (add : ∀ i v (z : Shared) (Q : Bool → Shared → Prop) (E : Value → Shared → Prop), i < n → Pv i v → J i z.heap → (∀ b h' tk, Heap.SameBut S z.heap h' → J (i + 1) h' → z.toks ≤ tk → Q b { z with heap := h', toks := tk }) → wpAny (model P w) A.in1 (setAdd S v) Q E z) :
    ∀ (m i : Nat) (z : Shared), n - i = m → i ≤ n → St i z → J i z.heap → (∀ z', Moved (S :: wr) G z z' → J n z'.heap → R (.ok (.ret .none)) z') → codeAny (model P w) A (.builtin "set.update.loop" ⟨[.ref S, .ref I], []⟩) R z := by
  have notW : S ∉ wr := fun h => far (W.sub _ h)
  have more : ∀ b ∈ wr, b ∈ S :: wr := fun b hb => List.mem_cons_of_mem _ hb
  intro m
  induction m with
  | zero =>
    intro i z hm hi st j done
    obtain rfl : i = n := by omega
    refine codeAny_builtin (PyProof.Rows.F.entry_set_update_loop) ?_
    rw [Around.under_plainId (PyProof.Rows.F.plain_set_update_loop) _]
    change wpAny _ A.in1 (pyNext (.ref I) >>= _) _ _ z
    exact wpAny_bind (W.done z _ _ st fun z' mv => wpAny_pure (done z' (mv.mono more) (mono _ _ _ mv.heap j)))
  | succ m ih =>
    intro i z hm hi st j done
    have lt : i < n := by omega
    refine codeAny_builtin (PyProof.Rows.F.entry_set_update_loop) ?_
    rw [Around.under_plainId (PyProof.Rows.F.plain_set_update_loop) _]
    change wpAny _ A.in1 (pyNext (.ref I) >>= _) _ _ z
    refine wpAny_bind (W.item i z _ _ lt st fun v z' pv st' mv => ?_)
    change wpAny _ A.in1 (holding [v] (setAdd S v) >>= _) _ _ z'
    refine wpAny_bind (wpAny_holding (add i v z' _ _ lt pv (mono _ _ _ mv.heap j) fun b h' tk sb j' le => ?_))
    refine wpAny_pure ⟨plainId_quiet (PyProof.Rows.F.plain_set_update_loop) _, ih (i + 1) _ (by omega) lt (W.frame _ z' _ _ st' le fun c hc o e => ?_) j' fun z2 mv2 j2 => ?_⟩
    · rw [sb.2 c fun e2 => far (by rw [← e2]; exact hc)]
      exact e
    · refine done z2 (Moved.trans W.gtrans ((mv.mono more).then_heap le fun c o hc e => ?_) mv2) j2
      rw [sb.2 c fun e2 => hc (by rw [e2]; exact List.mem_cons_self)]
      exact e
end
section
variable {prog : Program} {w : World} {A : Around} {E : Value → Shared → Prop} {s : Shared}
abbrev newSet (led : Bool) : Obj := { cls := .type "set", dict := none, data := .set #[] 0 (.fresh 0 0 led) }
/-- set(xs), xs a list: J 0 of the new set, J at its end -/
theorem call_setL {l : Addr} {its : Array Value} {Q : Value → Shared → Prop} (calm : A.handled = none) (hl : s.heap.IsList l its) (J : Nat → Heap → Prop)
    (new : ∀ (led : Bool) (h : Heap), h.get? s.heap.objs.size = some (newSet led) → (∀ b o, s.heap.get? b = some o → h.get? b = some o) → J 0 h) (mono : ∀ i h h', (∀ b o, b ≤ s.heap.objs.size → h.get? b = some o → h'.get? b = some o) → J i h → J i h')
    (add : ∀ i v (B : Around) (z : Shared) (R : Bool → Shared → Prop) (F : Value → Shared → Prop), B.units ≤ A.units + 3 → i < its.size → its[i]? = some v → J i z.heap → (∀ b h' tk, Heap.SameBut s.heap.objs.size z.heap h' → J (i + 1) h' → z.toks ≤ tk → R b { z with heap := h', toks := tk }) →
      wpAny (model prog w) B (setAdd s.heap.objs.size v) R F z)
    (q : ∀ (h' : Heap) (tk : Nat), J its.size h' → (∀ b o, s.heap.get? b = some o → h'.get? b = some o) → Q (.ref s.heap.objs.size) { s with heap := h', toks := tk }) : wpAny (model prog w) A (call (.type "set") [.ref l]) Q E s := by
  obtain ⟨c, tl, mro⟩ := (PySem.F.called_set).mro
  have made := (PySem.F.called_set).made
  have sub := (PySem.F.called_set).sub
  refine wpAny_call (codeAny_of_tree (?_))
  change wpAny _ _ (callAny (.type "set") _) _ _ _
  refine wpAny_pure ⟨(Code.quiet_builtin _ (by decide +kernel)), (codeAny_builtin (PySem.F.entry_type_call) ?_)⟩
  rw [Around.under_plain (weight_type_call_type ("set") [.ref l] []) (by rfl)]
  have z1 := (PySem.F.called_set).notType
  have z2 := (PySem.F.called_set).canCreate
  have z3 := PySem.F.typeCall_set_1 (.ref l)
  repeat (any_goals (first | assumption | wp_step))
  refine codeAny_mono (code_set_new_1 (.ref l) (E := E) (Q₁ := fun u z => ∃ led : Bool, u = .ref s.heap.objs.size ∧ z = { s with heap := s.heap.push (newSet led) }) fun led => ⟨led, rfl, rfl⟩) fun r1 z1 hr => ?_
  match r1, hr with
  | .error e, hr => exact hr
  | .ok (.next), hr | .ok (.brk), hr | .ok (.cont), hr => exact hr.elim
  | .ok (.ret u), ⟨led, e1, e2⟩ =>
    subst e1 e2
    have hS : (s.heap.push (newSet led)).get? s.heap.objs.size = some (newSet led) := Heap.get?_push_size _ rfl
    have hT : Shared.TypeIs { s with heap := s.heap.push (newSet led) } (.ref s.heap.objs.size) "set" := ⟨_, hS, rfl⟩
    have z4 := (PySem.F.called_set).init.lookup
    have z5 := (PySem.F.called_set).init.bind (.ref s.heap.objs.size)
    repeat (any_goals (first | assumption | wp_step))
    refine codeAny_mono (codeAny_call_builtin (R := wants (fun u z => u = .none ∧ ∃ h' tk, z = { s with heap := h', toks := tk } ∧ J its.size h' ∧ ∀ b o, s.heap.get? b = some o → h'.get? b = some o) E) (PySem.F.called_set).init.plain (PySem.F.entry_set_init) (check_set_init_1 hT ?_)) fun r2 z2 hr2 => ?_
    · obtain ⟨⟨oc, od, odt, osl⟩, hol, hc, nl, hd⟩ := hl
      simp only at hc hd
      subst hc hd
      have hol1 : (s.heap.push (newSet led)).get? l = some { cls := .type "list", dict := od, data := .seq its nl, slots := osl } := Heap.get?_push_of_some _ hol
      have y1 := PySem.F.sub_list_set
      have y2 := PySem.F.sub_list_frozenset
      have y3 : (Value.type "list" == Value.type "dict") = false := by decide
      have hl1 : (s.heap.push (newSet led)).IsList l its := ⟨_, hol1, rfl, nl, rfl⟩
      unfold Builtin.«set.__init__»; unfold noKeywords Builtin.Frozenset.updateFrom
      generalize hIt : pyIter = It
      wp_walk
      subst hIt
      refine wpAny_pyIter_list hl1 (wpAny_bind (wpAny_runValue ?_))
      have lS := Heap.lt_size hol
      have calm3 : A.in1.in1.in1.handled = none := by simp [calm]
      have sz : (s.heap.push (newSet led)).objs.size = s.heap.objs.size + 1 := Heap.size_push ..
      have ne : l ≠ (s.heap.push (newSet led)).objs.size := by
        rw [sz]
        exact Nat.ne_of_lt (Nat.lt_succ_of_lt lS)
      have far : s.heap.objs.size ∉ [(s.heap.push (newSet led)).objs.size, l] := by
        simp only [List.mem_cons, List.not_mem_nil, or_false, not_or]
        exact ⟨fun e => absurd (e.trans sz) (Nat.ne_of_lt (Nat.lt_succ_self _)), Nat.ne_of_gt lS⟩
      have old : ∀ b o, s.heap.get? b = some o → ((s.heap.push (newSet led)).push { cls := .type "list_iterator", data := .fields #[.ref l, .int 0 0] }).get? b = some o := fun b o e => Heap.get?_push_of_some _ (Heap.get?_push_of_some _ e)
      refine loopJ ((Walks.list calm3 _ l ne its).toS) s.heap.objs.size far J (fun i h h' k j => mono i h h' (fun b o hb e => k b o (fun m => absurd hb (by rw [List.mem_singleton.mp m, sz]; exact Nat.not_succ_le_self _)) e) j)
        (fun i v z R F hi pv j k => add i v _ z R F (by show A.units + 1 + 1 + 1 ≤ _; omega) hi pv j k) (its.size - 0) 0 _ (by omega) (Nat.zero_le _)
        ⟨⟨_, Heap.get?_push_size _ rfl, rfl, rfl⟩, hl1.push _⟩ (new led _ (Heap.get?_push_of_some _ hS) old) fun z mv j => ?_
      obtain ⟨h2, g2, d2, t2, o2⟩ := z
      obtain rfl : g2 = s.gens := mv.gens
      obtain rfl : d2 = s.drawn := mv.drawn
      obtain rfl : o2 = s.os := mv.os
      change wpAny _ _ _ _ _ _
      refine wpAny_pure (?_)
      change wpAny _ _ (ret Value.none) _ _ _
      refine wpAny_pure ⟨rfl, h2, t2, rfl, j, fun b o e => mv.heap b o (fun m => ?_) (old b o e)⟩
      have := Heap.lt_size e
      simp only [List.mem_cons, List.not_mem_nil, or_false] at m
      rcases m with m | m
      · exact absurd m (Nat.ne_of_lt this)
      · exact absurd (m.trans sz) (Nat.ne_of_lt (Nat.lt_succ_of_lt this))
    · match r2, hr2 with
      | .error e, hr2 => exact hr2
      | .ok (.next), hr2 | .ok (.brk), hr2 | .ok (.cont), hr2 => exact hr2.elim
      | .ok (.ret u2), ⟨e3, h2, t2, e4, j, old⟩ =>
        subst e3 e4
        repeat (any_goals (first | assumption | wp_step))
        exact q h2 t2 j old
/-- set(xs), xs a tuple: J 0 of the new set, J at its end -/
theorem call_setT {l : Addr} {its : Array Value} {Q : Value → Shared → Prop} (calm : A.handled = none) (hl : s.heap.IsTuple l its) (J : Nat → Heap → Prop)
    (new : ∀ (led : Bool) (h : Heap), h.get? s.heap.objs.size = some (newSet led) → (∀ b o, s.heap.get? b = some o → h.get? b = some o) → J 0 h) (mono : ∀ i h h', (∀ b o, b ≤ s.heap.objs.size → h.get? b = some o → h'.get? b = some o) → J i h → J i h')
    (add : ∀ i v (B : Around) (z : Shared) (R : Bool → Shared → Prop) (F : Value → Shared → Prop), B.units ≤ A.units + 3 → i < its.size → its[i]? = some v → J i z.heap → (∀ b h' tk, Heap.SameBut s.heap.objs.size z.heap h' → J (i + 1) h' → z.toks ≤ tk → R b { z with heap := h', toks := tk }) →
      wpAny (model prog w) B (setAdd s.heap.objs.size v) R F z)
    (q : ∀ (h' : Heap) (tk : Nat), J its.size h' → (∀ b o, s.heap.get? b = some o → h'.get? b = some o) → Q (.ref s.heap.objs.size) { s with heap := h', toks := tk }) : wpAny (model prog w) A (call (.type "set") [.ref l]) Q E s := by
  obtain ⟨c, tl, mro⟩ := (PySem.F.called_set).mro
  have made := (PySem.F.called_set).made
  have sub := (PySem.F.called_set).sub
  refine wpAny_call (codeAny_of_tree (?_))
  change wpAny _ _ (callAny (.type "set") _) _ _ _
  refine wpAny_pure ⟨(Code.quiet_builtin _ (by decide +kernel)), (codeAny_builtin (PySem.F.entry_type_call) ?_)⟩
  rw [Around.under_plain (weight_type_call_type ("set") [.ref l] []) (by rfl)]
  have z1 := (PySem.F.called_set).notType
  have z2 := (PySem.F.called_set).canCreate
  have z3 := PySem.F.typeCall_set_1 (.ref l)
  repeat (any_goals (first | assumption | wp_step))
  refine codeAny_mono (code_set_new_1 (.ref l) (E := E) (Q₁ := fun u z => ∃ led : Bool, u = .ref s.heap.objs.size ∧ z = { s with heap := s.heap.push (newSet led) }) fun led => ⟨led, rfl, rfl⟩) fun r1 z1 hr => ?_
  match r1, hr with
  | .error e, hr => exact hr
  | .ok (.next), hr | .ok (.brk), hr | .ok (.cont), hr => exact hr.elim
  | .ok (.ret u), ⟨led, e1, e2⟩ =>
    subst e1 e2
    have hS : (s.heap.push (newSet led)).get? s.heap.objs.size = some (newSet led) := Heap.get?_push_size _ rfl
    have hT : Shared.TypeIs { s with heap := s.heap.push (newSet led) } (.ref s.heap.objs.size) "set" := ⟨_, hS, rfl⟩
    have z4 := (PySem.F.called_set).init.lookup
    have z5 := (PySem.F.called_set).init.bind (.ref s.heap.objs.size)
    repeat (any_goals (first | assumption | wp_step))
    refine codeAny_mono (codeAny_call_builtin (R := wants (fun u z => u = .none ∧ ∃ h' tk, z = { s with heap := h', toks := tk } ∧ J its.size h' ∧ ∀ b o, s.heap.get? b = some o → h'.get? b = some o) E) (PySem.F.called_set).init.plain (PySem.F.entry_set_init) (check_set_init_1 hT ?_)) fun r2 z2 hr2 => ?_
    · obtain ⟨⟨oc, od, odt, osl⟩, hol, hc, nl, hd⟩ := hl
      simp only at hc hd
      subst hc hd
      have hol1 : (s.heap.push (newSet led)).get? l = some { cls := .type "tuple", dict := od, data := .seq its nl, slots := osl } := Heap.get?_push_of_some _ hol
      have y1 := PySem.F.sub_tuple_set
      have y2 := PySem.F.sub_tuple_frozenset
      have y3 : (Value.type "tuple" == Value.type "dict") = false := by decide
      have hl1 : (s.heap.push (newSet led)).IsTuple l its := ⟨_, hol1, rfl, nl, rfl⟩
      unfold Builtin.«set.__init__»; unfold noKeywords Builtin.Frozenset.updateFrom
      generalize hIt : pyIter = It
      wp_walk
      subst hIt
      refine wpAny_pyIter_tuple hl1 (wpAny_bind (wpAny_runValue ?_))
      have lS := Heap.lt_size hol
      have calm3 : A.in1.in1.in1.handled = none := by simp [calm]
      have sz : (s.heap.push (newSet led)).objs.size = s.heap.objs.size + 1 := Heap.size_push ..
      have ne : l ≠ (s.heap.push (newSet led)).objs.size := by
        rw [sz]
        exact Nat.ne_of_lt (Nat.lt_succ_of_lt lS)
      have far : s.heap.objs.size ∉ [(s.heap.push (newSet led)).objs.size, l] := by
        simp only [List.mem_cons, List.not_mem_nil, or_false, not_or]
        exact ⟨fun e => absurd (e.trans sz) (Nat.ne_of_lt (Nat.lt_succ_self _)), Nat.ne_of_gt lS⟩
      have old : ∀ b o, s.heap.get? b = some o → ((s.heap.push (newSet led)).push { cls := .type "tuple_iterator", data := .fields #[.ref l, .int 0 0] }).get? b = some o := fun b o e => Heap.get?_push_of_some _ (Heap.get?_push_of_some _ e)
      refine loopJ ((Walks.tuple calm3 _ l ne its).toS) s.heap.objs.size far J (fun i h h' k j => mono i h h' (fun b o hb e => k b o (fun m => absurd hb (by rw [List.mem_singleton.mp m, sz]; exact Nat.not_succ_le_self _)) e) j)
        (fun i v z R F hi pv j k => add i v _ z R F (by show A.units + 1 + 1 + 1 ≤ _; omega) hi pv j k) (its.size - 0) 0 _ (by omega) (Nat.zero_le _)
        ⟨⟨_, Heap.get?_push_size _ rfl, rfl, rfl⟩, hl1.push _⟩ (new led _ (Heap.get?_push_of_some _ hS) old) fun z mv j => ?_
      obtain ⟨h2, g2, d2, t2, o2⟩ := z
      obtain rfl : g2 = s.gens := mv.gens
      obtain rfl : d2 = s.drawn := mv.drawn
      obtain rfl : o2 = s.os := mv.os
      change wpAny _ _ _ _ _ _
      refine wpAny_pure (?_)
      change wpAny _ _ (ret Value.none) _ _ _
      refine wpAny_pure ⟨rfl, h2, t2, rfl, j, fun b o e => mv.heap b o (fun m => ?_) (old b o e)⟩
      have := Heap.lt_size e
      simp only [List.mem_cons, List.not_mem_nil, or_false] at m
      rcases m with m | m
      · exact absurd m (Nat.ne_of_lt this)
      · exact absurd (m.trans sz) (Nat.ne_of_lt (Nat.lt_succ_of_lt this))
    · match r2, hr2 with
      | .error e, hr2 => exact hr2
      | .ok (.next), hr2 | .ok (.brk), hr2 | .ok (.cont), hr2 => exact hr2.elim
      | .ok (.ret u2), ⟨e3, h2, t2, e4, j, old⟩ =>
        subst e3 e4
        repeat (any_goals (first | assumption | wp_step))
        exact q h2 t2 j old
end
end MS

/-! len(set(xs)), xs of texts -/
namespace MS
open PySem PySem.Spec PyProof.Rows
/-- the set of the first i texts at S -/
def JS (P : Program) (w : World) (S : Addr) (xs : List Str) (i : Nat) (h : Heap) : Prop := ∃ c, h.SetOf (PySem.strKind P w) S (fun k => decide (k ∈ xs.take i)) c ∧ c ≤ i ∧ (c = i ↔ (xs.take i).Nodup)
theorem take_at {α : Type} {xs : List α} {i : Nat} {x : α} (h : xs[i]? = some x) : xs.take (i + 1) = xs.take i ++ [x] := by rw [List.take_add_one, h]; rfl
theorem nodup_snoc {α : Type} {xs : List α} {x : α} : (xs ++ [x]).Nodup ↔ xs.Nodup ∧ x ∉ xs := by
  rw [List.nodup_append]
  constructor
  · rintro ⟨h1, _, h3⟩
    exact ⟨h1, fun m => h3 x m x (List.mem_singleton.mpr rfl) rfl⟩
  · rintro ⟨h1, h2⟩
    refine ⟨h1, List.nodup_cons.mpr ⟨by simp, List.nodup_nil⟩, fun a ha b hb e => ?_⟩
    rw [List.mem_singleton.mp hb] at e
    exact h2 (e ▸ ha)
section
variable {P : Program} {w : World}
theorem JS.mono {S : Addr} {xs : List Str} {i : Nat} {h h' : Heap} (k : ∀ o, h.get? S = some o → h'.get? S = some o) (j : JS P w S xs i h) : JS P w S xs i h' :=
  let ⟨c, ⟨o, es, ep, t, ho, r⟩, q⟩ := j
  ⟨c, ⟨o, es, ep, t, k o ho, r⟩, q⟩
theorem JS.new {S : Addr} {xs : List Str} {led : Bool} {h : Heap} (hS : h.get? S = some (newSet led)) : JS P w S xs 0 h :=
  ⟨0, PyProof.Rows.SetOf_congr ((PyProof.Rows.setObjOf_fresh (knd := PySem.strKind P w) led).setOf hS (by unfold scanBound; omega)) (fun k => by simp) rfl, Nat.le_refl _, by simp⟩
theorem JS.add {S : Addr} {xs : List Str} {i : Nat} {x : Str} {t : Tok} {B : Around} {z : Shared} {R : Bool → Shared → Prop} {F : Value → Shared → Prop} (hx : xs[i]? = some x) (few : xs.length + 1 < scanBound) (j : JS P w S xs i z.heap)
    (k : ∀ b h' tk, Heap.SameBut S z.heap h' → JS P w S xs (i + 1) h' → z.toks ≤ tk → R b { z with heap := h', toks := tk }) : wpAny (model P w) B (setAdd S (.str x t)) R F z := by
  obtain ⟨c, st, le, iff⟩ := j
  have li := (List.getElem?_eq_some_iff.mp hx).1
  unfold setAdd
  refine wpAny_holding (wpAny_bind ((PySem.strKind P w).pyHash (k := x) (strKind_is _ _ _ _) ?_))
  refine wpAny_setAddHashed_of (knd := PySem.strKind P w) (s := { z with toks := z.toks + 1 }) (strKind_is _ _ _ _) rfl st (by omega) fun h' sb st' => ?_
  refine k _ h' _ sb ?_ (Nat.le_succ _)
  have tk := take_at hx
  by_cases m : x ∈ xs.take i
  · rw [if_pos (decide_eq_true m)] at st'
    refine ⟨c, PyProof.Rows.SetOf_congr st' (fun y => ?_) rfl, by omega, ?_⟩
    · rw [tk]
      by_cases e : y = x
      · subst e
        simp [m]
      · simp [e]
    · rw [tk, nodup_snoc]
      constructor
      · intro e
        omega
      · rintro ⟨_, n⟩
        exact absurd m n
  · rw [if_neg (by simp [m])] at st'
    refine ⟨c + 1, PyProof.Rows.SetOf_congr st' (fun y => ?_) rfl, by omega, ?_⟩
    · rw [tk]
      by_cases e : y = x
      · subst e
        simp
      · simp [e]
    · rw [tk, nodup_snoc, ← iff]
      constructor
      · intro e
        exact ⟨by omega, m⟩
      · rintro ⟨e, _⟩
        omega
end
end MS
namespace L2
open PySem PySem.Spec PyProof.Rows
section
variable {X : Cx}
/-- len(set(xs)): as many as xs has just if they differ -/
def tLenSetS (K : PySem.W.Frag) (ta : TE) : TE := fun σ H Q => ta σ H fun x H1 => ∃ (l : Addr) (xs : List Str), x = V.ref l ∧ (SqL K H1 l (xs.map V.str) ∨ SqT K H1 l (xs.map V.str)) ∧ xs.length < 1000 ∧ ∀ n : Nat, (n = xs.length ↔ xs.Nodup) → Q (.int n) H1
theorem strs_vals : ∀ {xs : List Str} {us : List Value}, Vals (xs.map V.str) us → us.length = xs.length ∧ ∀ (i : Nat) (v : Value), us[i]? = some v → ∃ x t, xs[i]? = some x ∧ v = .str x t
  | [], _, .nil => ⟨rfl, fun _ _ h => by simp at h⟩
  | x :: xs, _, .cons ⟨t, e⟩ r => by
    obtain ⟨l, h⟩ := strs_vals r
    refine ⟨by simp [l], fun i v hv => ?_⟩
    cases i with
    | zero => exact ⟨x, t, rfl, (Option.some.inj hv).symm.trans e⟩
    | succ i => exact h i v (by simpa using hv)
theorem pe_lenSetS {a : Expr} {ta : TE} {p p2 q pos : Pos} (hc : X.calm = true) (hg : Gl X "len") (hm : X.mg "len" = none) (hg2 : Gl X "set") (hm2 : X.mg "set" = none) (ha : PE X a ta)
    (na : starEach [a] X.env = (false, eval a X.env) :: starEach [] X.env := by rfl) : PE X (.Call (.Name "len" p) [.Call (.Name "set" p2) [a] [] q] [] pos) (tLenSetS X.K ta) := by
  refine ⟨fun pins s σ H Q I h => Call_ (ld_blt I hg hm PySem.boot_len ?_)⟩
  refine PyProof.Rows.callWith_builtin1 (PyProof.Rows.args_cons (Call_ (ld_blt I hg2 hm2 (PyProof.Rows.boot_set) ?_)) rfl) rfl rfl
  refine PyProof.Rows.callWith_type1 (PyProof.Rows.args_cons (thn (ha.run pins s σ H _ I h) fun v s1 ⟨x, H1, I1, r1, q1⟩ => PyProof.Rows.args_nil ?_) na) na rfl
  obtain ⟨l, xs, rfl, hs, few, q1⟩ := q1
  cases r1
  have fin : ∀ {us : List Value} (h' : Heap) (tk : Nat), us.length = xs.length → MS.JS X.prog X.w s1.heap.objs.size xs us.toArray.size h' → (∀ b o, s1.heap.get? b = some o → h'.get? b = some o) →
      wpAny (model X.prog X.w) X.A (call (.builtin "len") [.ref s1.heap.objs.size]) (EP X pins σ Q) X.xe { s1 with heap := h', toks := tk } := by
    intro us h' tk lu j old
    obtain ⟨c, ⟨o, es, ep, t, ho, hex, hd, _, _, _, hf, hn⟩, le, iff⟩ := j
    have I2 : Inv X pins σ H1 { s1 with heap := h', toks := tk } := I1.kept fun b o e => old b o e
    rw [List.size_toArray, lu] at le iff
    rw [List.take_length] at iff
    subst hn
    exact call_len_set ho hex hd hf (by omega) ⟨.int es.size, H1, I2.tok _, ⟨_, rfl⟩, q1 _ iff⟩
  have ad : ∀ {us : List Value}, Vals (xs.map V.str) us → ∀ i v (B : Around) (z : Shared) (R : Bool → Shared → Prop) (F : Value → Shared → Prop), B.units ≤ X.A.units + 3 → i < us.toArray.size → us.toArray[i]? = some v → MS.JS X.prog X.w s1.heap.objs.size xs i z.heap →
      (∀ b h' tk, Heap.SameBut s1.heap.objs.size z.heap h' → MS.JS X.prog X.w s1.heap.objs.size xs (i + 1) h' → z.toks ≤ tk → R b { z with heap := h', toks := tk }) → wpAny (model X.prog X.w) B (setAdd s1.heap.objs.size v) R F z := by
    intro us r i v B z R F _ _ hv j k
    obtain ⟨x, t, hx, rfl⟩ := (strs_vals r).2 i v (by simpa using hv)
    exact MS.JS.add hx (by unfold scanBound; omega) j k
  rcases hs with hs | hs
  · obtain ⟨us, r, pl, _⟩ := I1.list hs
    exact MS.call_setL (I1.ok.hd hc) pl.isList (MS.JS X.prog X.w s1.heap.objs.size xs) (fun led h hS _ => MS.JS.new hS) (fun i h h' k j => j.mono fun o e => k _ o (Nat.le_refl _) e) (ad r) fun h' tk j old => PyProof.Rows.args_nil (fin h' tk (strs_vals r).1 j old)
  · obtain ⟨us, r, ⟨o, ho, hc2, n, hd⟩, _⟩ := I1.tuple hs
    exact MS.call_setT (I1.ok.hd hc) ⟨o, ho, hc2, n, hd⟩ (MS.JS X.prog X.w s1.heap.objs.size xs) (fun led h hS _ => MS.JS.new hS) (fun i h h' k j => j.mono fun o e => k _ o (Nat.le_refl _) e) (ad r) fun h' tk j old => PyProof.Rows.args_nil (fin h' tk (strs_vals r).1 j old)
end
end L2

/-! a >= b of tuples of whole numbers -/
namespace L2
open PySem PySem.Spec PyProof.Rows
theorem rcGe_int (A : Around) (s : Shared) (a : Int) (t : Tok) (c : Int) (u : Tok) (prog : Program) (w : World) (E Q : Value → Shared → Prop) (q : Q (.bool (decide (c ≤ a))) s) : wpAny (model prog w) A (richCompare .GtE (.int a t) (.int c u)) Q E s := PyProof.Rows.ge_int (E := E) q
theorem tuple_ge_ints (l b : Addr) (items items2 : Array Value) (n n2 : Nat) (dd dd2 : Option Addr) (sl sl2 : Array (Option Value)) (ns ms : List Int) (h1 : IntsAre items.toList ns) (h2 : IntsAre items2.toList ms) :
    Meets (Builtin.«tuple.__ge__» { pos := [.ref l, .ref b] }) fun _ R s => s.heap.get? l = some { cls := .type "tuple", dict := dd, data := .seq items n, slots := sl } ∧ s.heap.get? b = some { cls := .type "tuple", dict := dd2, data := .seq items2 n2, slots := sl2 } ∧
      R (.ok (.ret (.bool (!HT.lexLt ns ms)))) s := by
  refine Meets.of_wp fun prog w A R s ⟨g1, g2, q⟩ => ?_
  refine wpAny_bind (wpAny_pure ?_)
  refine wpAny_bind ?_
  refine wpAny_bind (wpAny_typeOf_ref g2 ?_)
  refine wpAny_of_eq AutoSeq1.sub_tuple_tuple ?_
  refine wpAny_ite_false rfl ?_
  refine wpAny_bind (wpAny_tupleItemsOf g1 rfl ?_)
  refine wpAny_bind (wpAny_tupleItemsOf g2 rfl ?_)
  have len : ∀ {vs : List Value} {ns : List Int}, IntsAre vs ns → vs.length = ns.length := fun h => by
    induction h with
    | nil => rfl
    | cons n t _ ih => rw [List.length_cons, List.length_cons, ih]
  have l1 := len h1
  have l2 := len h2
  rw [Array.length_toList] at l1 l2
  refine wpAny_bind (wpAny_forIn_list _ (fun rest b' s' => ∃ (xs ys : List Value) (ns' ms' : List Int), rest = xs.zip ys ∧ IntsAre xs ns' ∧ IntsAre ys ms' ∧ b' = (none, ()) ∧ s' = s ∧ HT.lexLt ns' ms' = HT.lexLt ns ms ∧ ns.length + ms'.length = ms.length + ns'.length) _ ?_ ?_ _ _ ⟨items.toList, items2.toList, ns, ms, rfl, h1, h2, rfl, rfl, rfl, by omega⟩)
  · rintro x rest b' s' ⟨xs, ys, ns', ms', e, i1, i2, rfl, rfl, lx, ln⟩
    cases i1 with
    | nil => cases e
    | cons a t i1 =>
      cases i2 with
      | nil => cases e
      | cons c u i2 =>
        cases e
        obtain ⟨q0, hq, hqe⟩ := HT.eqAt_int A.in1 s' a t c u
        refine wpAny_bind (hq prog w _ _ ?_)
        rw [HT.lexLt_cons] at lx
        cases q0 with
        | true =>
          have e := hqe.mp rfl
          rw [if_pos e] at lx
          exact wpAny_ite_false rfl (wpAny_pure ⟨_, _, _, _, rfl, i1, i2, rfl, rfl, lx, by simp only [List.length_cons] at ln; omega⟩)
        | false =>
          have ne : ¬ a = c := fun z => by have := hqe.mpr z; cases this
          rw [if_neg ne] at lx
          refine wpAny_ite_true rfl (wpAny_bind (wpAny_rule (wpAny_bind (rcGe_int _ _ _ _ _ _ _ _ _ _ (wpAny_bind (wpAny_pure ?_))))))
          refine wpAny_pure ?_
          refine wpAny_pure ⟨_, rfl, ?_⟩
          have e : decide (c ≤ a) = !HT.lexLt ns ms := by
            rw [← lx]
            by_cases z : a < c
            · rw [decide_eq_true z, decide_eq_false (by omega)]; rfl
            · rw [decide_eq_false z, decide_eq_true (by omega)]; rfl
          rw [e]
          exact q
  · rintro b' s' ⟨xs, ys, ns', ms', e, i1, i2, rfl, rfl, lx, ln⟩
    refine wpAny_pure ⟨_, rfl, ?_⟩
    show R (.ok (.ret (.bool (decide (items.size ≥ items2.size))))) s'
    have e2 : decide (items.size ≥ items2.size) = !HT.lexLt ns ms := by
      rw [← lx, l1, l2]
      cases i1 with
      | nil =>
        cases i2 with
        | nil =>
          simp only [List.length_nil] at ln
          rw [decide_eq_true (by omega)]
          rfl
        | cons c u i2 =>
          simp only [List.length_nil, List.length_cons] at ln
          rw [decide_eq_false (by omega)]
          rfl
      | cons a t i1 =>
        cases i2 with
        | nil =>
          simp only [List.length_nil, List.length_cons] at ln
          rw [decide_eq_true (by omega)]
          rfl
        | cons c u i2 => cases e
    rw [e2]
    exact q
def rGeT (K : PySem.W.Frag) : R2 := fun x y H Q => ∃ (a b : Addr) (ns ms : List Int), x = .ref a ∧ y = .ref b ∧ SqT K H a (ns.map V.int) ∧ SqT K H b (ms.map V.int) ∧ Q (.bl (!HT.lexLt ns ms)) H
theorem ints_are : ∀ {ns : List Int} {its : List Value}, Vals (ns.map V.int) its → IntsAre its ns
  | [], _, .nil => .nil
  | n :: ns, _, .cons r t => by
    obtain ⟨t', rfl⟩ : ∃ t, _ = Value.int n t := r
    exact .cons n t' (ints_are t)
theorem op_geT {X : Cx} (hu : X.A.units < cLine) : OpR X (compareOp .GtE) (rGeT X.K) := by
  intro pins s σ H x y v u Q I rx ry h
  obtain ⟨a, b, ns, ms, rfl, rfl, ha, hb, q⟩ := h
  obtain rfl : v = Value.ref a := rx
  obtain rfl : u = Value.ref b := ry
  obtain ⟨i1, r1, p1, _⟩ := I.tuple ha
  obtain ⟨i2, r2, p2, _⟩ := I.tuple hb
  have t1 : s.heap.IsTuple a i1.toArray := p1
  have t2 : s.heap.IsTuple b i2.toArray := p2
  obtain ⟨⟨c1, dd, dt1, sl⟩, g1, e1, n, e2⟩ := id t1
  obtain ⟨⟨c2, dd2, dt2, sl2⟩, g2, e3, n2, e4⟩ := id t2
  simp only at e1 e2 e3 e4
  subst e1 e2 e3 e4
  show wpAny _ _ (richCompare .GtE _ _) _ _ _
  exact richCompare_meets_room t1.typeIs t2.typeIs F.slot_tuple_ge F.entry_tuple_ge (F.args_tuple_ge_2 _ _) (tuple_ge_ints a b i1.toArray i2.toArray n n2 dd dd2 sl sl2 ns ms (by simpa using ints_are r1) (by simpa using ints_are r2))
    ⟨g1, g2, by show Value.bool _ ≠ Value.notImplemented ∧ _; exact ⟨(fun z => by cases z), .bl _, H, I, rfl, q⟩⟩ hu
end L2

namespace K04
open PySem PySem.Spec PyProof.Rows L2
abbrev sIsName : Stmt := top 22
theorem scIsName : FnScope ["value", "sign"] ["value"] (defScope sIsName) := ⟨rfl, rfl, rfl, by decide +kernel, rfl, by decide +kernel, by decide +kernel⟩
abbrev sIsText : Stmt := top 23
theorem scIsText : FnScope ["value", "sign"] ["value"] (defScope sIsText) := ⟨rfl, rfl, rfl, by decide +kernel, rfl, by decide +kernel, by decide +kernel⟩
abbrev sDiff : Stmt := top 17
theorem scDiff : FnScope ["values"] ["values"] (defScope sDiff) := ⟨rfl, rfl, rfl, by decide +kernel, rfl, by decide +kernel, by decide +kernel⟩
abbrev sAreNames : Stmt := top 24
theorem scAreNames : FnScope ["value", "many", "name"] ["value", "many"] (defScope sAreNames) := ⟨rfl, rfl, rfl, by decide +kernel, rfl, by decide +kernel, by decide +kernel⟩
/-- all signs are from lo to hi -/
def signs (lo hi : Nat) (z : Str) : Bool := z.cps.toList.all fun c => decide (lo ≤ c) && decide (c ≤ hi)
def nameS (z : Str) : Bool := decide (1 ≤ z.length) && (decide (z.length ≤ 8) && signs 97 122 z)
def textS (z : Str) : Bool := decide (z.length ≤ 40) && signs 32 126 z
def strD (f : Str → Bool) : PyData → Bool
  | .str z => f z
  | _ => false
theorem strD_no {f : Str → Bool} {d : PyData} (h : tyd d ≠ "str") : strD f d = false := by
  cases d with
  | str z => exact absurd rfl h
  | _ => rfl
theorem lt1 {a b : Nat} : decide ([a] < [b]) = decide (a < b) := by
  apply decide_eq_decide.mpr
  constructor
  · intro h
    rcases List.cons_lt_cons_iff.mp h with h | ⟨_, h⟩
    · exact h
    · exact absurd h (List.not_lt_nil _)
  · intro h
    exact List.cons_lt_cons_iff.mpr (.inl h)
theorem le_lt1 {a b c : Nat} (f : Nat → Bool) (h : f c = (decide (a ≤ c) && decide (c ≤ b))) {P1 : V → Prop} {P2 : Prop} (go : P1 (.bl (!decide ([b] < [c]))) → P2) (q : P1 (.bl (f c))) :
    ∃ k, V.bl (!decide ([c] < [a])) = V.bl k ∧ if k = true then P2 else P1 (.bl false) := by
  refine ⟨_, rfl, iteB (fun e => go ?_) fun e => ?_⟩
  · rw [lt1] at e ⊢
    have e1 : ¬ c < a := of_decide_eq_false (by simpa using e)
    have e2 : (!decide (b < c)) = f c := by
      rw [h, decide_eq_true (by omega : a ≤ c), Bool.true_and]
      by_cases z : c ≤ b
      · rw [decide_eq_true z, decide_eq_false (by omega : ¬ b < c)] <;> rfl
      · rw [decide_eq_false z, decide_eq_true (by omega : b < c)] <;> rfl
    rw [e2]
    exact q
  · rw [lt1] at e
    have e1 : c < a := of_decide_eq_true (by simpa using e)
    have e2 : f c = false := by
      rw [h, decide_eq_false (by omega : ¬ a ≤ c), Bool.false_and]
    rw [e2] at q
    exact q
theorem lc_signs {z : Str} {σ : L2.St} {H : Hp} {i : Nat} {te : TE} {f : Nat → Bool} {D : Addr} {Qd : Hp → Prop} (hD : H D = none) (hz : z.length ≤ 100000)
    (he : ∀ (c : Nat) H' (Q' : VK), c ∈ z.cps.toList → Q' (.bl (f c)) H' → te ((wipe σ [i]).set i (some (.str ⟨#[c]⟩))) H' Q') (hs : ∀ u, wipe ((wipe σ [i]).set i u) [i] = wipe σ [i])
    (q : ∀ H', Same H H' → H' D = some (.lst (z.cps.toList.map fun c => V.bl (f c))) → Qd H') :
    ∃ W : Nat → Nat → Hp → Prop, (∃ m, W 0 m (upd H D (.lst []))) ∧ ∀ j m H, W j m H →
      ((Its z).stop j H ∧ Qd H) ∨ ((Its z).go j H ∧ ∃ Nx : Hp → Prop, (∀ H', Nx H' → ∃ m', m' < m ∧ W (j + 1) m' H') ∧ ∀ x H', (Its z).yld j H x H' → gName i x (wipe σ [i]) H' fun σ2 H2 => wipe σ2 [i] = wipe σ [i] ∧ tYes σ2 H2 fun b H3 =>
        if b = true then te σ2 H3 fun y H4 => ∃ acc, H4 D = some (.lst acc) ∧ acc.length < sizeLine ∧ Nx (upd H4 D (.lst (acc ++ [y]))) else Nx H3) := by
  refine lc_it walk_str (fun j H' => Same H H' ∧ H' D = some (.lst ((z.cps.toList.take j).map fun c => V.bl (f c)))) ⟨upd_grow hD, upd_same⟩ (fun _ _ _ _ => True.intro) ?_ ?_
  · rintro j x H1 H2 hj ⟨k1, h1⟩ ⟨rfl, c, hc, rfl⟩
    have hj2 : j < z.cps.toList.length := by simpa using hj
    have hm : z.cps.toList[j] = c := by
      have e := Array.getElem?_eq_some_iff.mp hc
      obtain ⟨_, e⟩ := e
      simpa using e
    have mem : c ∈ z.cps.toList := by
      rw [← hm]
      exact List.getElem_mem hj2
    refine ⟨hs _, he c H2 _ mem ⟨_, h1, ?_, ?_, ?_⟩⟩
    · rw [sizeLine_eq, List.length_map, List.length_take]
      have l : z.cps.toList.length = z.length := by simp [Str.length]
      omega
    · intro b o e
      rw [upd_ne (ne_of_none e hD)]
      exact k1 b o e
    · rw [upd_same, List.take_succ_eq_append_getElem hj2, List.map_append, hm]
      rfl
  · rintro H1 ⟨k1, h1⟩
    refine q H1 k1 ?_
    rw [h1]
    have l : z.cps.toList.length = z.cps.size := by simp
    rw [← l, List.take_length]
def spName (f : Str → Bool) : Sp := fun vs H Q _ => ∃ v d, vs = [v] ∧ Rdd H v d ∧ (∀ z, d = .str z → z.length ≤ 100000) ∧ ∀ H', Same H H' → Q (.bl (strD f d)) H'
theorem str_of {H : Hp} {v : V} {d : PyData} (r : Rdd H v d) (h : tyd d = "str") : ∃ z, v = .str z ∧ d = .str z := by
  cases r with
  | str x => exact ⟨x, rfl, rfl⟩
  | _ => exact absurd h (by simp [tyd])
section
variable {P : Program} {w : World} {K : PySem.W.Frag} {mg : Str → Option Value} {base : Heap} {f : Addr} {fd : FuncData}
theorem ok_is_name (F : Fd K "is_name" sIsName f fd) (g : mg "is_name" = some (.ref f)) (B : Bl mg) (h_N : ∃ t, mg "NAME_LENGTH" = some (.int 8 t)) : Ok P w K mg base CX0 1 "is_name" sIsName ["value"] (spName nameS) := by
  obtain ⟨t8, h_NAME_LENGTH⟩ := h_N
  refine ⟨f, fd, g, F, F.bindsN fun _ _ _ _ _ _ us hl => match us, hl with | [_], _ => rfl, F.ok scIsName (fun vs H Q E h => ?_) (fun cdv A outer s H vs Q E hr h => ?_)⟩
  · obtain ⟨v, d, rfl, _⟩ := h
    rfl
  · refine ⟨_, (pss_cons (ps_if (pw_or (pt_cmpR op_notTyB (pe_callTy call_type1 (by rfl) (B.u "type" (by decide +kernel)) (by decide +kernel) (pa_cons (pv 0) pa_nil)) (pe_bltn (by rfl) (B.u "str" (by decide +kernel)) (by decide +kernel) (v := .ty "str") rfl) (nomark _)) (pw_or1 (pt_not (pt_chain op_le op_le pe_int (pe_callB call_len (by rfl) (B.u "len" (by decide +kernel)) boot_len (pa_cons (pv 0) pa_nil)) (pe_glob (by rfl) h_NAME_LENGTH (v := .int 8) ⟨_, rfl⟩))))).pt
        (pss_one (ps_ret pe_bl))
        pss_nil)
      (pss_one (ps_ret (pe_callB (cr_all rfl) (by rfl) (B.u "all" (by decide +kernel)) (by decide +kernel) (pa_cons (pe_lc (own := [("sign", 1)]) (g := gName 1) rfl scIsName.nd (pi_str (pv 0)) (blkOk_by (N := ["value", "sign"]) (sc := defScope sIsName) (by decide +kernel)) (fun _ _ _ _ _ => (pg_name (i := 1) scIsName.nd rfl (Or.inl rfl))) (fun _ _ _ _ _ => pts_nil) (fun _ _ _ _ _ => (pe_chain op_le_str op_le_str pe_str (pv 1) pe_str))) pa_nil))))), ?_⟩
    obtain ⟨v, d, rfl, r, hz, q⟩ := h
    by_cases e : tyd d = "str"
    · obtain ⟨z, rfl, rfl⟩ := str_of r e
      have hz := hz z rfl
      refine ⟨_, rfl, _, _, rfl, .str z, _, _, rfl, rfl, _, rfl, iteB (fun e => by simp at e) fun _ => ?_⟩
      have fin : ∀ b, b = nameS z → Q (.bl b) H := fun b e => by
        rw [e]
        exact q H (Same.refl H)
      refine ⟨_, rfl, _, _, rfl, ⟨two_ln (by omega), rfl⟩, _, _, rfl, rfl, _, rfl, iteB (fun e1 => ?_) fun e1 => ?_⟩
      · have l1 : 1 ≤ z.length := by
          have := of_decide_eq_true e1
          omega
        refine ⟨_, _, rfl, rfl, _, rfl, iteB (fun e2 => ?_) fun e2 => ?_⟩
        · have l2 : ¬ z.length ≤ 8 := fun y => by
            have e3 : decide ((z.length : Int) ≤ 8) = true := decide_eq_true (by omega)
            rw [e3] at e2
            cases e2
          exact fin _ (by unfold nameS; rw [decide_eq_false l2] <;> simp)
        · have l2 : z.length ≤ 8 := by
            have e3 : decide ((z.length : Int) ≤ 8) = true := by
              cases h : decide ((z.length : Int) ≤ 8) with
              | true => rfl
              | false =>
                rw [h] at e2
                cases e2
            have := of_decide_eq_true e3
            omega
          refine ⟨_, rfl, _, rfl, fun D hD => lc_signs (i := 1) (σ := [some (.str z), none]) (f := fun c => decide (97 ≤ c) && decide (c ≤ 122)) hD hz ?_ ?_ ?_⟩
          · exact fun c H1 Q1 _ q1 => ⟨_, rfl, _, _, rfl, rfl, le_lt1 (a := 97) (b := 122) (P1 := fun v => Q1 v H1) (fun c => decide (97 ≤ c) && decide (c ≤ 122)) rfl (fun z => ⟨_, _, rfl, rfl, z⟩) q1⟩
          · exact fun u => rfl
          · intro H1 k1 h1
            refine ⟨D, z.cps.toList.map fun c => decide (97 ≤ c) && decide (c ≤ 122), rfl, ?_, ?_⟩
            · rw [List.map_map]
              exact SqL.of h1
            · have e : (List.map (fun c => decide (97 ≤ c) && decide (c ≤ 122)) z.cps.toList).all id = nameS z := by
                unfold nameS signs
                rw [decide_eq_true l1, decide_eq_true l2, List.all_map] <;> rfl
              rw [e]
              exact q H1 k1
      · have l1 : ¬ 1 ≤ z.length := fun y => by
          have e3 : decide ((1 : Int) ≤ (z.length : Int)) = true := decide_eq_true (by omega)
          rw [e3] at e1
          cases e1
        exact ⟨false, rfl, iteT (fin _ (by unfold nameS; rw [decide_eq_false l1] <;> simp))⟩
    · refine ⟨_, rfl, _, _, rfl, r.tb, _, _, rfl, rfl, _, rfl, iteB (fun _ => ?_) fun e2 => ?_⟩
      · exact (strD_no (f := nameS) e) ▸ q H (Same.refl H)
      · simp [e] at e2
theorem ok_is_text (F : Fd K "is_text" sIsText f fd) (g : mg "is_text" = some (.ref f)) (B : Bl mg) (h_N : ∃ t, mg "TEXT_LENGTH" = some (.int 40 t)) : Ok P w K mg base CX0 1 "is_text" sIsText ["value"] (spName textS) := by
  obtain ⟨t40, h_TEXT_LENGTH⟩ := h_N
  refine ⟨f, fd, g, F, F.bindsN fun _ _ _ _ _ _ us hl => match us, hl with | [_], _ => rfl, F.ok scIsText (fun vs H Q E h => ?_) (fun cdv A outer s H vs Q E hr h => ?_)⟩
  · obtain ⟨v, d, rfl, _⟩ := h
    rfl
  · refine ⟨_, (pss_cons (ps_if (pw_or (pt_cmpR op_notTyB (pe_callTy call_type1 (by rfl) (B.u "type" (by decide +kernel)) (by decide +kernel) (pa_cons (pv 0) pa_nil)) (pe_bltn (by rfl) (B.u "str" (by decide +kernel)) (by decide +kernel) (v := .ty "str") rfl) (nomark _)) (pw_or1 (pt_cmpR op_gt (pe_callB call_len (by rfl) (B.u "len" (by decide +kernel)) boot_len (pa_cons (pv 0) pa_nil)) (pe_glob (by rfl) h_TEXT_LENGTH (v := .int 40) ⟨_, rfl⟩) (nomark _)))).pt
        (pss_one (ps_ret pe_bl))
        pss_nil)
      (pss_one (ps_ret (pe_callB (cr_all rfl) (by rfl) (B.u "all" (by decide +kernel)) (by decide +kernel) (pa_cons (pe_lc (own := [("sign", 1)]) (g := gName 1) rfl scIsText.nd (pi_str (pv 0)) (blkOk_by (N := ["value", "sign"]) (sc := defScope sIsText) (by decide +kernel)) (fun _ _ _ _ _ => (pg_name (i := 1) scIsText.nd rfl (Or.inl rfl))) (fun _ _ _ _ _ => pts_nil) (fun _ _ _ _ _ => (pe_chain op_le_str op_le_str pe_str (pv 1) pe_str))) pa_nil))))), ?_⟩
    obtain ⟨v, d, rfl, r, hz, q⟩ := h
    by_cases e : tyd d = "str"
    · obtain ⟨z, rfl, rfl⟩ := str_of r e
      have hz := hz z rfl
      refine ⟨_, rfl, _, _, rfl, .str z, _, _, rfl, rfl, _, rfl, iteB (fun e => by simp at e) fun _ => ?_⟩
      refine ⟨_, rfl, _, _, rfl, ⟨two_ln (by omega), rfl⟩, _, _, rfl, rfl, _, rfl, iteB (fun e1 => ?_) fun e1 => ?_⟩
      · have l1 : ¬ z.length ≤ 40 := by
          have := of_decide_eq_true e1
          omega
        have e : false = textS z := by
          unfold textS
          rw [decide_eq_false l1] <;> rfl
        exact e ▸ q H (Same.refl H)
      · have l1 : z.length ≤ 40 := by
          have := of_decide_eq_false e1
          omega
        refine ⟨_, rfl, _, rfl, fun D hD => lc_signs (i := 1) (σ := [some (.str z), none]) (f := fun c => decide (32 ≤ c) && decide (c ≤ 126)) hD hz ?_ ?_ ?_⟩
        · exact fun c H1 Q1 _ q1 => ⟨_, rfl, _, _, rfl, rfl, le_lt1 (a := 32) (b := 126) (P1 := fun v => Q1 v H1) (fun c => decide (32 ≤ c) && decide (c ≤ 126)) rfl (fun z => ⟨_, _, rfl, rfl, z⟩) q1⟩
        · exact fun u => rfl
        · intro H1 k1 h1
          refine ⟨D, z.cps.toList.map fun c => decide (32 ≤ c) && decide (c ≤ 126), rfl, ?_, ?_⟩
          · rw [List.map_map]
            exact SqL.of h1
          · have e : (List.map (fun c => decide (32 ≤ c) && decide (c ≤ 126)) z.cps.toList).all id = textS z := by
              unfold textS signs
              rw [decide_eq_true l1, List.all_map] <;> rfl
            rw [e]
            exact q H1 k1
    · refine ⟨_, rfl, _, _, rfl, r.tb, _, _, rfl, rfl, _, rfl, iteB (fun _ => ?_) fun e2 => ?_⟩
      · exact (strD_no (f := textS) e) ▸ q H (Same.refl H)
      · simp [e] at e2
/-- values that differ: texts -/
def spDiff (K : PySem.W.Frag) : Sp := fun vs H Q _ => ∃ (l : Addr) (xs : List Str), vs = [.ref l] ∧ (SqL K H l (xs.map V.str) ∨ SqT K H l (xs.map V.str)) ∧ xs.length < 1000 ∧ Q (.bl (decide xs.Nodup)) H
theorem ok_diff (F : Fd K "are_different" sDiff f fd) (g : mg "are_different" = some (.ref f)) (B : Bl mg) : Ok P w K mg base CX0 1 "are_different" sDiff ["values"] (spDiff K) := by
  refine ⟨f, fd, g, F, F.bindsN fun _ _ _ _ _ _ us hl => match us, hl with | [_], _ => rfl, F.ok scDiff (fun vs H Q E h => ?_) (fun cdv A outer s H vs Q E hr h => ?_)⟩
  · obtain ⟨l, xs, rfl, _⟩ := h
    rfl
  · have hc : (cxOf CX0 P w K mg base ["values"] "are_different" (defScope sDiff) f cdv A outer s H E).calm = true := rfl
    refine ⟨_, (pss_one (ps_ret (pe_cmpR op_eq (pe_lenSetS hc (by rfl) (B.u "len" (by decide +kernel)) (by rfl) (B.u "set" (by decide +kernel)) (pv 0)) (pe_callB call_len (by rfl) (B.u "len" (by decide +kernel)) boot_len (pa_cons (pv 0) pa_nil)) (nomark _)))), ?_⟩
    obtain ⟨l, xs, rfl, hs, few, q⟩ := h
    refine ⟨_, rfl, l, xs, rfl, hs, few, fun n hn => ?_⟩
    refine ⟨_, rfl, _, _, rfl, hs.imp (fun h => ⟨_, h, rfl⟩) (fun h => ⟨_, h, rfl⟩), rfl, ?_⟩
    have e : decide (V.int (n : Int) = V.int ((xs.map V.str).length : Int)) = decide xs.Nodup := by
      apply decide_eq_decide.mpr
      rw [List.length_map, V.int.injEq, ← hn]
      omega
    rw [e]
    exact q
def isNames (d : PyData) (ns : List Str) : Prop := d = .list (ns.map PyData.str) ∨ d = .tuple (ns.map PyData.str)
/-- the names are right ones -/
structure NamesOk (n : Nat) (ns : List Str) : Prop where
  len : ns.length = n
  good : ∀ z ∈ ns, nameS z = true
  diff : ns.Nodup
def spAreNames : Sp := fun vs H Q _ => ∃ (n : Nat) (v : V) (d : PyData), vs = [v, .int n] ∧ Rdd H v d ∧ Tame d ∧ n ≤ 65 ∧ ∀ b H', Same H H' → (b = true ↔ ∃ ns, isNames d ns ∧ NamesOk n ns) → Q (.bl b) H'
theorem isNames_row {d : PyData} {ds : List PyData} {ns : List Str} (hd : d = .list ds ∨ d = .tuple ds) : isNames d ns ↔ ds = ns.map PyData.str := by
  unfold isNames
  rcases hd with rfl | rfl
  · constructor
    · rintro (h | h)
      · exact PyData.list.inj h
      · cases h
    · rintro rfl
      exact .inl rfl
  · constructor
    · rintro (h | h)
      · cases h
      · exact PyData.tuple.inj h
    · rintro rfl
      exact .inr rfl
theorem strs_of : ∀ {ds : List PyData}, (∀ d ∈ ds, ∃ z, d = .str z ∧ nameS z = true) → ∃ ns : List Str, ds = ns.map PyData.str ∧ ∀ z ∈ ns, nameS z = true
  | [], _ => ⟨[], rfl, fun _ h => nomatch h⟩
  | d :: ds, h => by
    obtain ⟨z, rfl, g⟩ := h _ List.mem_cons_self
    obtain ⟨ns, rfl, gs⟩ := strs_of (ds := ds) fun d hd => h d (List.mem_cons_of_mem _ hd)
    exact ⟨z :: ns, rfl, fun y hy => (List.mem_cons.mp hy).elim (fun e => e ▸ g) (gs y)⟩
theorem rdds_strs {H : Hp} : ∀ {ns : List Str} {xs : List V}, RddAll H xs (ns.map PyData.str) → xs = ns.map V.str
  | [], _, .nil => rfl
  | n :: ns, _, .cons r t => by
    cases r
    rw [rdds_strs t]
    rfl
theorem strs_inj : ∀ {ns ms : List Str}, ns.map PyData.str = ms.map PyData.str → ns = ms
  | [], [], _ => rfl
  | [], _ :: _, h => by simp at h
  | _ :: _, [], h => by simp at h
  | n :: ns, m :: ms, h => by
    rw [List.map_cons, List.map_cons] at h
    injection h with h1 h2
    rw [PyData.str.inj h1, strs_inj h2]
theorem ok_are_names (F : Fd K "are_names" sAreNames f fd) (g : mg "are_names" = some (.ref f)) (B : Bl mg) (o_is_list : Ok P w K mg base CX0 1 "is_list" sIsList ["value"] spIsList) (o_is_name : Ok P w K mg base CX0 1 "is_name" sIsName ["value"] (spName nameS))
    (o_are_different : Ok P w K mg base CX0 1 "are_different" sDiff ["values"] (spDiff K)) : Ok P w K mg base CX0 2 "are_names" sAreNames ["value", "many"] spAreNames := by
  refine ⟨f, fd, g, F, F.bindsN fun _ _ _ _ _ _ us hl => match us, hl with | [_, _], _ => rfl, F.ok scAreNames (fun vs H Q E h => ?_) (fun cdv A outer s H vs Q E hr h => ?_)⟩
  · obtain ⟨n, v, d, rfl, _⟩ := h
    rfl
  · refine ⟨_, (pss_cons (ps_if (pw_or (pt_not (pt_val (pe_o o_is_list (hr.mono (by decide)) (by rfl) (pa_cons (pv 0) pa_nil)))) (pw_or1 (pt_cmpR op_ne (pe_callB call_len (by rfl) (B.u "len" (by decide +kernel)) boot_len (pa_cons (pv 0) pa_nil)) (pv 1) (nomark _)))).pt
        (pss_one (ps_ret pe_bl))
        pss_nil)
      (pss_one (ps_ret (pe_and (pe_callB (cr_all rfl) (by rfl) (B.u "all" (by decide +kernel)) (by decide +kernel) (pa_cons (pe_lc (own := [("name", 2)]) (g := gName 2) rfl scAreNames.nd (pi_seq (pv 0)) (blkOk_by (N := ["value", "many", "name"]) (sc := defScope sAreNames) (by decide +kernel)) (fun _ _ _ _ _ => (pg_name (i := 2) scAreNames.nd rfl (Or.inl rfl))) (fun _ _ _ _ _ => pts_nil) (fun _ _ _ _ _ => (pe_o o_is_name (hr.mono (by decide)) (by rfl) (pa_cons (pv 2) pa_nil)))) pa_nil)) (pe_one (pe_o o_are_different (hr.mono (by decide)) (by rfl) (pa_cons (pv 0) pa_nil))))))), ?_⟩
    obtain ⟨n, v, d, rfl, r, t, n2, q⟩ := h
    refine ⟨_, rfl, v, d, rfl, r, fun H1 k1 => ⟨_, rfl, iteB (fun e => iteT ?_) fun e => ?_⟩⟩
    · refine q _ _ k1 ⟨(fun z => nomatch z), fun ⟨ns, hr, _⟩ => ?_⟩
      have e := not_t e
      rcases hr with rfl | rfl <;> simp [listD, tyd] at e
    have e := not_f e
    obtain ⟨p, xs, ds, rfl, hp, ra, hd⟩ := row_of r e
    have hp1 := hp.mono k1
    have ra1 := ra.mono k1
    have l := rdds_len ra
    obtain ⟨tl, tm⟩ := tame_len t hd
    refine ⟨_, rfl, _, _, rfl, hp1.len, _, rfl, rfl, _, rfl, iteB (fun e2 => ?_) fun e2 => ?_⟩
    · refine q _ _ k1 ⟨(fun z => nomatch z), fun ⟨ns, hr, ok⟩ => ?_⟩
      have e3 := (isNames_row hd).mp hr
      have e2 := of_decide_eq_false (not_t e2)
      refine absurd (congrArg V.int ?_) e2
      have := ok.len
      rw [l, e3, List.length_map]
      omega
    have e2 : ((xs.length : Nat) : Int) = (n : Int) := V.int.inj (of_decide_eq_true (not_f e2))
    refine ⟨_, rfl, p, xs, rfl, hp1.sq, fun J w D hD => ?_⟩
    refine lc_gen w (fun _ => true) (fun i y _ => y = .bl (strD nameS (ds.getD i .none))) (fun _ _ _ _ _ h => h) hD (by omega) (fun H' k => ?_) ?_ ?_
    · rcases hp1 with h1 | h1
      · rw [h1, del_sub k _ _ h1]
      · rw [h1, del_sub k _ _ h1]
    · rintro i x H2 H3 K1 N1 hi k2 ⟨o, ho⟩ ⟨rfl, hx⟩ hK _
      have hdi : i < ds.length := by omega
      obtain ⟨x', hx', rx⟩ := rdds_get (ra1.mono (del_sub k2)) (List.getElem?_eq_getElem hdi)
      rw [hx] at hx'
      obtain rfl : x = x' := Option.some.inj hx'
      have ed : ds.getD i .none = ds[i] := by rw [List.getD_eq_getElem?_getD, List.getElem?_eq_getElem hdi]; rfl
      rw [ed] at hK
      have tw := tm _ (List.getElem_mem hdi)
      refine ⟨rfl, _, rfl, x, ds[i], rfl, rx, (fun z hz => ?_), fun H4 k4 => hK rfl _ _ k4 rfl⟩
      rw [hz] at tw
      simp only [wt] at tw
      omega
    · intro ys H2 k2 h2 l2 r2
      rw [filt_all] at l2 r2
      have ey := map_of (F := fun i => V.bl (strD nameS (ds.getD i .none))) l2 r2
      have k12 := del_sub k2
      have ey2 : ys = ((List.range xs.length).map fun i => strD nameS (ds.getD i .none)).map V.bl := by rw [ey, List.map_map]; rfl
      refine ⟨D, (List.range xs.length).map fun i => strD nameS (ds.getD i .none), rfl, by rw [← ey2]; exact SqL.of h2, _, rfl, iteB (fun al => ?_) fun al => ?_⟩
      · have each : ∀ d ∈ ds, ∃ z, d = .str z ∧ nameS z = true := fun d' hd' => by
          obtain ⟨i, hi, e⟩ := List.mem_iff_getElem.mp hd'
          have z := List.all_eq_true.mp al (strD nameS (ds.getD i .none)) (List.mem_map.mpr ⟨i, List.mem_range.mpr (by omega), rfl⟩)
          rw [List.getD_eq_getElem?_getD, List.getElem?_eq_getElem hi, e] at z
          change strD nameS d' = true at z
          cases d' with
          | str y => exact ⟨y, rfl, z⟩
          | _ => cases z
        obtain ⟨ns, en, gn⟩ := strs_of each
        have ex := rdds_strs (en ▸ ra1)
        refine ⟨_, rfl, p, ns, rfl, ?_, ?_, ?_⟩
        · rw [← ex]
          exact (hp1.mono k12).sq
        · have := congrArg List.length en
          rw [List.length_map] at this
          omega
        · refine q _ _ (k1.trans k12) ⟨fun z => ⟨ns, (isNames_row hd).mpr en, by
            have := congrArg List.length en
            rw [List.length_map] at this
            omega, gn, of_decide_eq_true z⟩, fun ⟨ms, hm, ok⟩ => ?_⟩
          have e3 := (isNames_row hd).mp hm
          obtain rfl : ns = ms := strs_inj (en.symm.trans e3)
          exact decide_eq_true ok.diff
      · refine q _ _ (k1.trans k12) ⟨(fun z => nomatch z), fun ⟨ns, hr, ok⟩ => ?_⟩
        have e3 := (isNames_row hd).mp hr
        refine absurd ?_ (Bool.not_eq_true _ ▸ al)
        refine List.all_eq_true.mpr fun b hb => ?_
        obtain ⟨i, hi, rfl⟩ := List.mem_map.mp hb
        have hi := List.mem_range.mp hi
        have hi2 : i < ns.length := by
          have := congrArg List.length e3
          rw [List.length_map] at this
          omega
        have e4 : ds.getD i .none = .str ns[i] := by rw [e3, List.getD_eq_getElem?_getD, List.getElem?_map, List.getElem?_eq_getElem hi2]; rfl
        show strD nameS (ds.getD i .none) = true
        rw [e4]
        exact ok.good _ (List.getElem_mem hi2)
end
end K04

namespace K04
open PySem PySem.Spec PyProof.Rows L2
abbrev sCell : Stmt := top 37
theorem scCell : FnScope ["script", "k"] ["script", "k"] (defScope sCell) := ⟨rfl, rfl, rfl, by decide +kernel, rfl, by decide +kernel, by decide +kernel⟩
abbrev sBox : Stmt := top 38
theorem scBox : FnScope ["great"] ["great"] (defScope sBox) := ⟨rfl, rfl, rfl, by decide +kernel, rfl, by decide +kernel, by decide +kernel⟩
abbrev sTake : Stmt := top 39
theorem scTake : FnScope ["box", "many", "digit", "mixed"] ["box", "many"] (defScope sTake) := ⟨rfl, rfl, rfl, by decide +kernel, rfl, by decide +kernel, by decide +kernel⟩
/-- the state of the draws -/
def Box (c : Nat) (xs : List V) : Prop := ∃ (g : Int) (b : Bool) (m k : Int), xs = [.int g, .bl b, .int m, .int k] ∧ 0 ≤ g ∧ 0 ≤ m ∧ m < 2147483629 ∧ 0 ≤ k ∧ k ≤ c
def spCell (K : PySem.W.Frag) : Sp := fun vs H Q _ => ∃ (l : Addr) (ns : List Int) (k : Int), vs = [.ref l, .int k] ∧ SqL K H l (ns.map V.int) ∧ 0 ≤ k ∧ k < 100 ∧
  ∀ (n : Int) H', Same H H' → Q (.int n) H'
def spBox : Sp := fun vs H Q _ => ∃ g : Int, vs = [.int g] ∧ ∀ p xs, H p = none → Box 0 xs → Q (.ref p) (upd H p (.lst xs))
def spTake : Sp := fun vs H Q _ => ∃ (p : Addr) (many : Int) (xs : List V) (c : Nat), vs = [.ref p, .int many] ∧ H p = some (.lst xs) ∧ Box c xs ∧ c < 1000 ∧ 1 ≤ many ∧ many ≤ 100000 ∧
  ∀ (d : Int) ys, 0 ≤ d → d < many → Box (c + 1) ys → Q (.int d) (upd H p (.lst ys))
section
variable {P : Program} {w : World} {K : PySem.W.Frag} {mg : Str → Option Value} {base : Heap} {f : Addr} {fd : FuncData}
theorem ok_cell (F : Fd K "_law_cell" sCell f fd) (g : mg "_law_cell" = some (.ref f)) (B : Bl mg) : Ok P w K mg base CX0 1 "_law_cell" sCell ["script", "k"] (spCell K) := by
  refine ⟨f, fd, g, F, F.bindsN fun _ _ _ _ _ _ us hl => match us, hl with | [_, _], _ => rfl, F.ok scCell (fun vs H Q E h => ?_) (fun cdv A outer s H vs Q E hr h => ?_)⟩
  · obtain ⟨l, ns, k, rfl, _⟩ := h
    rfl
  · refine ⟨_, (pss_one (ps_ret (pe_ifExp (pt_cmpR op_lt (pv 1) (pe_callB call_len (by rfl) (B.u "len" (by decide +kernel)) boot_len (pa_cons (pv 0) pa_nil)) (nomark _)) (pe_ix ix_seq (pv 0) (pv 1) fun _ _ => rfl) (pe_op op_add (pe_op op_mul pe_int (pv 1)) (pe_op op_mod (pe_callB (cr_sum rfl) (by rfl) (B.u "sum" (by decide +kernel)) boot_sum (pa_cons (pe_slice sl_list (pv 0) po_none (po_some pe_int)) pa_nil)) pe_int))))), ?_⟩
    obtain ⟨l, ns, k, rfl, hs, h0, h1, q⟩ := h
    refine ⟨_, rfl, _, rfl, _, _, rfl, .inl ⟨_, hs, rfl⟩, _, _, rfl, rfl, _, rfl, ?_⟩
    have el : ((List.map V.int ns).length : Int) = (ns.length : Int) := by
      rw [List.length_map]
    refine ite2 (fun c => ?_) (fun c => ?_)
    · have c := of_decide_eq_true c
      rw [el] at c
      have hk : k.toNat < ns.length := by omega
      have ha : atI (ns.map V.int) k = some (V.int ns[k.toNat]) := by
        unfold atI ixN
        rw [if_pos h0, if_pos (by rw [List.length_map]; omega)]
        show (ns.map V.int)[k.toNat]? = _
        rw [List.getElem?_map, List.getElem?_eq_getElem hk] <;> rfl
      exact ⟨_, rfl, _, rfl, .inl ⟨l, _, k, _, rfl, rfl, hs, ha, q _ H (Same.refl H)⟩⟩
    · refine ⟨_, rfl, _, _, rfl, rfl, .inl ⟨by decide, by decide⟩, _, rfl, 1, rfl, l, _, rfl, hs, fun p hp => ?_⟩
      have ec : cutV (ns.map V.int) none (some 1) = (ns.take 1).map V.int := by
        cases ns with
        | nil => rfl
        | cons a r =>
          simp [cutV, HT.sIx]
      refine ⟨p, ns.take 1, rfl, ?_, _, _, rfl, rfl, (by show (0 : Int) < 1000033; decide), _, _, rfl, rfl, q _ _ fun b o e => ?_⟩
      · rw [ec]
        exact SqL.of upd_same
      · rw [upd_ne (ne_of_none e hp)]
        exact e
/-- the bounds of the draws -/
theorem ok_box (F : Fd K "_law_box" sBox f fd) (g : mg "_law_box" = some (.ref f)) (B : Bl mg) : Ok P w K mg base CX0 1 "_law_box" sBox ["great"] spBox := by
  refine ⟨f, fd, g, F, F.bindsN fun _ _ _ _ _ _ us hl => match us, hl with | [_], _ => rfl, F.ok scBox (fun vs H Q E h => ?_) (fun cdv A outer s H vs Q E hr h => ?_)⟩
  · obtain ⟨g, rfl, _⟩ := h
    rfl
  · refine ⟨_, (pss_one (ps_ret (pe_lst (pa_cons (pe_callB call_abs (by rfl) (B.u "abs" (by decide +kernel)) (by decide +kernel) (pa_cons (pv 0) pa_nil)) (pa_cons (pe_cmpR op_ge (pe_callB call_abs (by rfl) (B.u "abs" (by decide +kernel)) (by decide +kernel) (pa_cons (pv 0) pa_nil)) (pe_op op_pow pe_int pe_int) (nomark _)) (pa_cons (pe_op op_mod (pe_callTy call_int1 (by rfl) (B.u "int" (by decide +kernel)) (by decide +kernel) (pa_cons (pe_callB call_abs (by rfl) (B.u "abs" (by decide +kernel)) (by decide +kernel) (pa_cons (pv 0) pa_nil)) pa_nil)) pe_int) (pa_cons pe_int pa_nil))))))), ?_⟩
    obtain ⟨g, rfl, q⟩ := h
    refine ⟨_, rfl, _, rfl, _, rfl, _, rfl, _, _, rfl, rfl, ⟨by decide, by decide, by decide⟩, _, _, rfl, rfl, ?_⟩
    refine ⟨_, rfl, _, rfl, .inl ⟨_, rfl, _, _, rfl, rfl, (by show (0 : Int) < 2147483629; decide), ?_⟩⟩
    refine ⟨by show 4 ≤ sizeLine; rw [sizeLine_eq]; decide, fun p hp => q p _ hp ⟨_, _, _, _, rfl, ?_, ?_, ?_, Int.le_refl _, Int.le_refl _⟩⟩
    · split <;> omega
    · exact Int.emod_nonneg _ (by decide)
    · exact Int.emod_lt_of_pos _ (by decide)
theorem ok_take (F : Fd K "_law_take" sTake f fd) (g : mg "_law_take" = some (.ref f)) (B : Bl mg) : Ok P w K mg base CX0 1 "_law_take" sTake ["box", "many"] spTake := by
  refine ⟨f, fd, g, F, F.bindsN fun _ _ _ _ _ _ us hl => match us, hl with | [_, _], _ => rfl, F.ok scTake (fun vs H Q E h => ?_) (fun cdv A outer s H vs Q E hr h => ?_)⟩
  · obtain ⟨p, many, xs, c, rfl, _⟩ := h
    rfl
  · refine ⟨_, (pss_cons (ps_if (pw_and (pt_val (pe_ix ix_seq (pv 0) pe_int fun _ _ => rfl)) (pw_and1 (pt_cmpR op_gt (pe_ix ix_seq (pv 0) pe_int fun _ _ => rfl) pe_int (nomark _)))).pt
        (pss_cons (ps_set (i := 2) scTake.nd rfl (Or.inl rfl) (pe_op op_mod (pe_callTy call_int1 (by rfl) (B.u "int" (by decide +kernel)) (by decide +kernel) (pa_cons (pe_ix ix_seq (pv 0) pe_int fun _ _ => rfl) pa_nil)) (pv 1)))
        (pss_cons (ps_asg (pe_op op_fdiv (pe_ix ix_seq (pv 0) pe_int fun _ _ => rfl) (pv 1)) (pg_sub (pv 0) pe_int set_list fun _ => rfl))
        (pss_one (ps_ret (pv 2)))))
        pss_nil)
      (pss_cons (ps_asg (pe_op op_add (pe_ix ix_seq (pv 0) pe_int fun _ _ => rfl) pe_int) (pg_sub (pv 0) pe_int set_list fun _ => rfl))
      (pss_cons (ps_set (i := 3) scTake.nd rfl (Or.inl rfl) (pe_op op_mod (pe_callTy call_int1 (by rfl) (B.u "int" (by decide +kernel)) (by decide +kernel) (pa_cons (pe_op op_pow (pe_op op_add (pe_op op_add (pe_ix ix_seq (pv 0) pe_int fun _ _ => rfl) (pe_op op_mul pe_int (pe_ix ix_seq (pv 0) pe_int fun _ _ => rfl))) pe_int) pe_int) pa_nil)) pe_int))
      (pss_one (ps_ret (pe_op op_mod (pe_op op_fdiv (pe_op op_mod (pe_callTy call_int1 (by rfl) (B.u "int" (by decide +kernel)) (by decide +kernel) (pa_cons (pe_op op_pow (pe_op op_add (pe_op op_mul (pv 3) pe_int) (pe_op op_mul pe_int (pe_ix ix_seq (pv 0) pe_int fun _ _ => rfl))) pe_int) pa_nil)) pe_int) pe_int) (pv 1))))))), ?_⟩
    obtain ⟨p, many, xs, c, rfl, hp, ⟨g, b, m, k, rfl, b1, b2, b3, b4, b5⟩, hc, m1, m2, q⟩ := h
    have big : sizeLine = 16777216 := sizeLine_eq
    -- the second way
    have last : tSeq (tAsg (tOp (rI0 fun i j => V.int (i + j)) (tOp (rIx K) (tVar 0) (tC (V.int 3))) (tC (V.int 1))) (gSub (tVar 0) (tC (V.int 3)) rSetL))
        (tSeq (tAsg (tOp (rI (fun x j => 0 < j) fun i j => V.int (i % j)) (tCB (fun xs H Q => (∃ i, xs = [V.int i] ∧ Q (V.int i) H) ∨ ∃ k, xs = [V.bl k] ∧ Q (V.int (if k = true then 1 else 0)) H)
          (tCons (tOp (rI CPow fun i j => V.int (i ^ j.toNat)) (tOp (rI0 fun i j => V.int (i + j)) (tOp (rI0 fun i j => V.int (i + j)) (tOp (rIx K) (tVar 0) (tC (V.int 2)))
            (tOp (rI CMul fun i j => V.int (i * j)) (tC (V.int 15485863)) (tOp (rIx K) (tVar 0) (tC (V.int 3))))) (tC (V.int 179424673))) (tC (V.int 5))) tNil)) (tC (V.int 2147483647))) (gName 3))
        (tRet (tOp (rI (fun x j => 0 < j) fun i j => V.int (i % j)) (tOp (rI CDiv fun i j => V.int (i / j)) (tOp (rI (fun x j => 0 < j) fun i j => V.int (i % j))
          (tCB (fun xs H Q => (∃ i, xs = [V.int i] ∧ Q (V.int i) H) ∨ ∃ k, xs = [V.bl k] ∧ Q (V.int (if k = true then 1 else 0)) H)
            (tCons (tOp (rI CPow fun i j => V.int (i ^ j.toNat)) (tOp (rI0 fun i j => V.int (i + j)) (tOp (rI CMul fun i j => V.int (i * j)) (tVar 3) (tC (V.int 48271)))
              (tOp (rI CMul fun i j => V.int (i * j)) (tC (V.int 104729)) (tOp (rIx K) (tVar 0) (tC (V.int 3))))) (tC (V.int 3))) tNil)) (tC (V.int 2147483587))) (tC (V.int 64))) (tVar 1))))
        { nx := fun _ H' => Q V.non H', rt := Q } [some (V.ref p), some (V.int many), none, none] H := by
      refine ⟨_, rfl, ixAt hp rfl ⟨_, _, rfl, rfl, _, rfl, p, _, _, 3, rfl, rfl, hp, rfl, ?_⟩⟩
      refine ⟨_, rfl, ixAt upd_same rfl ⟨_, rfl, ixAt upd_same rfl ⟨_, _, rfl, rfl, .inl ⟨by decide, by decide⟩, _, _, rfl, rfl, _, _, rfl, rfl, ?_⟩⟩⟩
      have hA : (m + 15485863 * (k + 1) + 179424673).natAbs < 2 ^ 64 := by omega
      have n1 : 0 ≤ (m + 15485863 * (k + 1) + 179424673) ^ (5 : Int).toNat % 2147483647 := Int.emod_nonneg _ (by decide)
      have n2 : (m + 15485863 * (k + 1) + 179424673) ^ (5 : Int).toNat % 2147483647 < 2147483647 := Int.emod_lt_of_pos _ (by decide)
      have hB : ((m + 15485863 * (k + 1) + 179424673) ^ (5 : Int).toNat % 2147483647 * 48271 + 104729 * (k + 1)).natAbs < 2 ^ 64 := by
        generalize (m + 15485863 * (k + 1) + 179424673) ^ (5 : Int).toNat % 2147483647 = B1 at n1 n2
        omega
      refine ⟨_, _, rfl, rfl, ⟨by decide, by decide, hA⟩, ?_⟩
      refine .inl ⟨_, rfl, _, _, rfl, rfl, (by show (0 : Int) < 2147483647; decide), ?_⟩
      refine ⟨_, rfl, _, _, rfl, rfl, .inr ⟨by decide, by decide⟩, ?_⟩
      refine ⟨_, rfl, ixAt upd_same rfl ⟨_, _, rfl, rfl, .inl ⟨by decide, by decide⟩, _, _, rfl, rfl, ?_⟩⟩
      refine ⟨_, _, rfl, rfl, ⟨by decide, by decide, hB⟩, ?_⟩
      refine .inl ⟨_, rfl, _, _, rfl, rfl, (by show (0 : Int) < 2147483587; decide), _, _, rfl, rfl, ⟨by decide, by decide⟩, _, rfl, _, _, rfl, rfl, (by show (0 : Int) < many; omega), ?_⟩
      refine q _ _ (Int.emod_nonneg _ (by omega)) (Int.emod_lt_of_pos _ (by omega)) ⟨g, b, m, k + 1, rfl, b1, b2, b3, by omega, by omega⟩
    refine ⟨_, rfl, ixAt hp rfl ⟨b, rfl, ?_⟩⟩
    cases b with
    | false => exact last
    | true =>
      refine ⟨_, rfl, ixAt hp rfl ⟨_, _, rfl, rfl, _, rfl, ?_⟩⟩
      refine ite2 (fun c => ?_) (fun _ => last)
      have c := of_decide_eq_true c
      refine ⟨_, rfl, ixAt hp rfl (.inl ⟨_, rfl, _, rfl, _, _, rfl, rfl, (by show (0 : Int) < many; omega), ?_⟩)⟩
      refine ⟨_, rfl, ixAt hp rfl ⟨_, rfl, _, _, rfl, rfl, ⟨(by show (0 : Int) < many; omega), (by show many < 1073741824; omega)⟩, _, rfl, p, _, _, 0, rfl, rfl, hp, rfl, ?_⟩⟩
      refine ⟨_, rfl, q _ _ (Int.emod_nonneg _ (by omega)) (Int.emod_lt_of_pos _ (by omega)) ⟨g / many, true, m, k, rfl, ?_, b2, b3, b4, by omega⟩⟩
      exact Int.ediv_nonneg b1 (by omega)
end
end K04

/-! xs != [] for any list -/
namespace L2
open PySem PySem.Spec PyProof.Rows
theorem ne_list_lengths {prog : Program} {w : World} {A : Around} {E : Value → Shared → Prop} {s : Shared} {l b : Addr} {items items2 : Array Value} {Q : Value → Shared → Prop}
    (h1 : s.heap.IsList l items) (h2 : s.heap.IsList b items2) (ne : (items.size != items2.size) = true) (hu : A.units < cLine) (q : Q (.bool true) s) : wpAny (model prog w) A (compareOp .NotEq (.ref l) (.ref b)) Q E s := by
  obtain ⟨⟨c1, dd, dt1, sl⟩, g1, e1, n, e2⟩ := id h1
  obtain ⟨⟨c2, dd2, dt2, sl2⟩, g2, e3, n2, e4⟩ := id h2
  simp only at e1 e2 e3 e4
  subst e1 e2 e3 e4
  show wpAny _ _ (richCompare .NotEq _ _) _ _ _
  exact richCompare_meets_room h1.typeIs h2.typeIs F.slot_list_ne F.entry_list_ne (F.args_list_ne_2 _ _) (SeqAt.list_ne_lengthsAt l b items items2 n n2 dd dd2 sl sl2 ne) ⟨g1, g2, by show Value.bool true ≠ Value.notImplemented ∧ _; exact ⟨(fun z => by cases z), q⟩⟩ hu
def rNeNil (K : PySem.W.Frag) : R2 := fun x y H Q => ∃ (a b : Addr) (xs : List V), x = .ref a ∧ y = .ref b ∧ SqL K H a xs ∧ SqL K H b [] ∧ Q (.bl (!xs.isEmpty)) H
theorem op_neNil {X : Cx} (hu : X.A.units + 64 < cLine) : OpR X (compareOp .NotEq) (rNeNil X.K) := by
  intro pins s σ H x y v u Q I rx ry h
  obtain ⟨a, b, xs, rfl, rfl, ha, hb, q⟩ := h
  cases xs with
  | nil => exact op_neD hu pins s σ H _ _ v u Q I rx ry ⟨.list [], .list [], .lst ha .nil, .lst hb .nil, rfl, rfl, q⟩
  | cons z zs =>
    obtain rfl : v = Value.ref a := rx
    obtain rfl : u = Value.ref b := ry
    obtain ⟨i1, r1, p1, _⟩ := I.list ha
    obtain ⟨i2, r2, p2, _⟩ := I.list hb
    cases r2
    cases r1 with
    | cons r1 r3 => exact ne_list_lengths p1.isList p2.isList (by simp) (by omega) ⟨.bl true, H, I, rfl, q⟩
end L2

/-! comprehensions whose items change what stands at p -/
namespace L2
open PySem PySem.Spec PyProof.Rows
theorem but_refl {p : Addr} {H : Hp} : But p H H := fun _ _ _ e => e
theorem lc_genB {J : It} {n : Nat} {G : Hp → Prop} {Y : Nat → Hp → V → Hp → Prop} (w : Walk J n G Y) {g : TG} {tt : TT} {te : TE} {vs : List Nat} {σ : St} {H : Hp} {p D : Addr} {o : HO} {Qd : Hp → Prop} (S : Nat → Hp → Prop) (R : Nat → V → Hp → Prop)
    (Rm : ∀ i y H1 H2, Same H1 H2 → R i y H1 → R i y H2) (Sm : ∀ i H1 H2, H1 p = H2 p → S i H1 → S i H2) (hp : H p = some o) (s0 : S 0 H) (hD : H D = none) (hn : n ≤ 16777215) (hG : ∀ H', Same (del H p) (del (del H' D) p) → G H')
    (he : ∀ i x H1 H2 (K : V → Hp → Prop) (N : Hp → Prop), i < n → Same (del H p) (del (del H1 D) p) → (∃ o, H1 D = some o) → S i H1 → Y i H1 x H2 → (∀ y H4, But p H1 H4 → S (i + 1) H4 → R i y (del (del H4 D) p) → K y H4) →
      g x (wipe σ vs) H2 fun σ2 H2' => wipe σ2 vs = wipe σ vs ∧ tt σ2 H2' fun b H3 => if b = true then te σ2 H3 K else N H3)
    (q : ∀ (ys : List V) (H' : Hp), Same (del H p) (del (del H' D) p) → S n H' → H' D = some (.lst ys) → ys.length = n → (∀ (i : Nat) (y : V), ys[i]? = some y → R i y (del (del H' D) p)) → Qd H') :
    ∃ W : Nat → Nat → Hp → Prop, (∃ m, W 0 m (upd H D (.lst []))) ∧ ∀ i m H, W i m H →
      (J.stop i H ∧ Qd H) ∨ (J.go i H ∧ ∃ Nx : Hp → Prop, (∀ H', Nx H' → ∃ m', m' < m ∧ W (i + 1) m' H') ∧ ∀ x H', J.yld i H x H' → g x (wipe σ vs) H' fun σ2 H2 => wipe σ2 vs = wipe σ vs ∧ tt σ2 H2 fun b H3 =>
        if b = true then te σ2 H3 fun y H4 => ∃ acc, H4 D = some (.lst acc) ∧ acc.length < sizeLine ∧ Nx (upd H4 D (.lst (acc ++ [y]))) else Nx H3) := by
  have nD : p ≠ D := ne_of_none hp hD
  have dd : ∀ {H4 : Hp} {ys : List V}, del (upd H4 D (.lst ys)) D = del H4 D := fun {H4 ys} => by
    funext b
    by_cases nb : b = D
    · rw [nb, del_same, del_same]
    · rw [del_ne nb, del_ne nb, upd_ne nb]
  have bb : ∀ {H1 H4 : Hp}, But p H1 H4 → Same (del (del H1 D) p) (del (del H4 D) p) := fun k b o e => by
    by_cases nb : b = p
    · rw [nb, del_same] at e; cases e
    · rw [del_ne nb] at e ⊢
      by_cases nd : b = D
      · rw [nd, del_same] at e; cases e
      · rw [del_ne nd] at e ⊢
        exact k b o nb e
  refine lc_it w (fun i H' => Same (del H p) (del (del H' D) p) ∧ S i H' ∧ ∃ ys, H' D = some (.lst ys) ∧ ys.length = i ∧ ∀ (j : Nat) (y : V), ys[j]? = some y → R j y (del (del H' D) p)) ?_ (fun i H' _ h => hG H' h.1) ?_ ?_
  · refine ⟨fun b o e => ?_, Sm 0 H _ (by rw [upd_ne nD]) s0, [], upd_same, rfl, fun j y h => by simp at h⟩
    by_cases nb : b = p
    · rw [nb, del_same] at e; cases e
    · rw [del_ne nb] at e ⊢
      rw [del_ne (ne_of_none e hD), upd_ne (ne_of_none e hD)]
      exact e
  · rintro i x H1 H2 hi ⟨k1, s1, ys, h1, l1, r1⟩ hy
    refine he i x H1 H2 _ _ hi k1 ⟨_, h1⟩ s1 hy (fun y H4 k4 s4 r4 => ?_)
    have h4 := k4 D _ nD.symm h1
    refine ⟨ys, h4, by rw [l1]; exact lt_ln (by omega), ?_, Sm _ H4 _ (by rw [upd_ne nD]) s4, _, upd_same, by rw [List.length_append, l1]; rfl, ?_⟩
    · rw [dd]
      exact k1.trans (bb k4)
    · intro j y2 hy2
      rw [dd]
      by_cases c : j < ys.length
      · rw [List.getElem?_append_left c] at hy2
        exact Rm _ _ _ _ (bb k4) (r1 j y2 hy2)
      · have lt := (List.getElem?_eq_some_iff.mp hy2).1
        rw [List.length_append] at lt
        have ek : j = ys.length := by
          have : ([y] : List V).length = 1 := rfl
          omega
        subst ek
        rw [List.getElem?_append_right (Nat.le_refl _), Nat.sub_self] at hy2
        obtain rfl : y = y2 := by simpa using hy2
        rw [l1]
        exact r4
  · rintro H1 ⟨k1, s1, ys, h1, l1, r1⟩
    exact q ys H1 k1 s1 h1 l1 r1
end L2

namespace K04
open PySem PySem.Spec PyProof.Rows L2
abbrev sMixed : Stmt := top 40
theorem scMixed : FnScope ["box", "items", "left", "found"] ["box", "items"] (defScope sMixed) := ⟨rfl, rfl, rfl, by decide +kernel, rfl, by decide +kernel, by decide +kernel⟩
/-- the state of the draws stands at p -/
def BoxAt (H : Hp) (p : Addr) (c : Nat) : Prop := ∃ xs, H p = some (.lst xs) ∧ Box c xs
theorem Box.up {c c' : Nat} {xs : List V} (h : Box c xs) (l : c ≤ c') : Box c' xs := by
  obtain ⟨g, b, m, k, e, h1, h2, h3, h4, h5⟩ := h
  exact ⟨g, b, m, k, e, h1, h2, h3, h4, by omega⟩
theorem BoxAt.up {H : Hp} {p : Addr} {c c' : Nat} (h : BoxAt H p c) (l : c ≤ c') : BoxAt H p c' := h.imp fun _ z => ⟨z.1, z.2.up l⟩
theorem BoxAt.eq {H H' : Hp} {p : Addr} {c : Nat} (h : BoxAt H p c) (e : H' p = H p) : BoxAt H' p c := h.imp fun _ z => ⟨e.trans z.1, z.2⟩
theorem BoxAt.same {H H' : Hp} {p : Addr} {c : Nat} (h : BoxAt H p c) (k : Same H H') : BoxAt H' p c := h.imp fun _ z => ⟨k _ _ z.1, z.2⟩
theorem BoxAt.some {H : Hp} {p : Addr} {c : Nat} (h : BoxAt H p c) : ∃ o, H p = Option.some o := let ⟨_, z, _⟩ := h; ⟨_, z⟩
/-- one number is drawn -/
def spDraw1 : Sp := fun vs H Q _ => ∃ (p : Addr) (many : Int) (c : Nat), vs = [.ref p, .int many] ∧ BoxAt H p c ∧ c < 1000 ∧ 1 ≤ many ∧ many ≤ 100000 ∧
  ∀ (d : Int) H', 0 ≤ d → d < many → But p H H' → BoxAt H' p (c + 1) → (∀ b, b ≠ p → H' b = H b) → Q (.int d) H'
theorem take_draw {vs : List V} {H : Hp} {Q : VK} {E : XK} (h : spDraw1 vs H Q E) : spTake vs H Q E := by
  obtain ⟨p, many, c, rfl, ⟨xs, hp, hb⟩, hc, m1, m2, q⟩ := h
  exact ⟨p, many, xs, c, rfl, hp, hb, hc, m1, m2, fun d ys d0 d1 b => q d _ d0 d1 But.upd ⟨ys, upd_same, b⟩ fun b nb => upd_ne nb⟩
theorem seqIx {j len : Nat} (h : j < len) : seqIndex? (j : Int) len = some j := by
  unfold seqIndex?
  have c1 : ¬ (j : Int) < 0 := by omega
  simp only [if_neg c1]
  have c2 : decide (0 ≤ (j : Int)) = true := decide_eq_true (by omega)
  have c3 : decide ((j : Int) < (len : Int)) = true := decide_eq_true (by omega)
  rw [c2, c3]
  simp
theorem natV_erase : ∀ (l : List Nat) (k : Nat), natV (l.eraseIdx k) = (natV l).eraseIdx k
  | [], _ => rfl
  | x :: l, 0 => rfl
  | x :: l, k + 1 => by
    show V.int (x : Int) :: natV (l.eraseIdx k) = V.int (x : Int) :: (natV l).eraseIdx k
    rw [natV_erase l k]
theorem erase_perm : ∀ {l : List Nat} {i : Nat} (h : i < l.length), (l[i] :: l.eraseIdx i).Perm l
  | a :: l, 0, _ => .refl _
  | a :: l, i + 1, h => by
    have := erase_perm (l := l) (i := i) (by simpa using h)
    simp only [List.getElem_cons_succ, List.eraseIdx_cons_succ]
    exact (List.Perm.swap _ _ _).trans (this.cons a)
theorem erase_permV : ∀ {l : List V} {i : Nat} (h : i < l.length), (l[i] :: l.eraseIdx i).Perm l
  | a :: l, 0, _ => .refl _
  | a :: l, i + 1, h => by
    have := erase_permV (l := l) (i := i) (by simpa using h)
    simp only [List.getElem_cons_succ, List.eraseIdx_cons_succ]
    exact (List.Perm.swap _ _ _).trans (this.cons a)
/-- the items in a drawn order, in a new list -/
def spMixed : Sp := fun vs H Q _ => ∃ (p l : Addr) (c : Nat) (xs : List V), vs = [.ref p, .ref l] ∧ BoxAt H p c ∧ H l = some (.lst xs) ∧ xs.length ≤ 70 ∧ c + xs.length < 1000 ∧
  ∀ ys q H', ys.Perm xs → But p H H' → BoxAt H' p (c + xs.length) → H q = none → q ≠ p → H' q = some (.lst ys) → Q (.ref q) H'
section
variable {P : Program} {w : World} {K : PySem.W.Frag} {mg : Str → Option Value} {base : Heap} {f : Addr} {fd : FuncData}
theorem ok_mixed (F : Fd K "_law_mixed" sMixed f fd) (g : mg "_law_mixed" = some (.ref f)) (B : Bl mg) (o_law_take : Ok P w K mg base CX0 1 "_law_take" sTake ["box", "many"] spDraw1) : Ok P w K mg base CX0 2 "_law_mixed" sMixed ["box", "items"] spMixed := by
  refine ⟨f, fd, g, F, F.bindsN fun _ _ _ _ _ _ us hl => match us, hl with | [_, _], _ => rfl, F.ok scMixed (fun vs H Q E h => ?_) (fun cdv A outer s H vs Q E hr h => ?_)⟩
  · obtain ⟨p, l, c, xs, rfl, _⟩ := h
    rfl
  · have hu : (cxOf CX0 P w K mg base ["box", "items", "left", "found"] "_law_mixed" (defScope sMixed) f cdv A outer s H E).A.units + 64 < cLine := by
      have z := hr.un
      show (A.deeper _).units + 64 < cLine
      omega
    refine ⟨_, (pss_cons (ps_par (i := 2) (j := 3) rfl scMixed.nd rfl rfl (by decide) rfl rfl (pa_cons (pe_callTy call_list_of (by rfl) (B.u "list" (by decide +kernel)) (by decide +kernel) (pa_cons (pv 1) pa_nil)) (pa_cons (pe_lst pa_nil) pa_nil)) rfl)
      (pss_cons (ps_while (passes_of rfl) (pt_cmpR (op_neNil hu) (pv 2) (pe_lst pa_nil) (nomark _))
        (pss_one (ps_expr (pe_bm PySem.F.plainAttrs_list PySem.F.slot_list_append PySem.F.type_list_append mt_append (pv 3) (pa_cons (pe_bm PySem.F.plainAttrs_list PySem.F.slot_list_pop PySem.F.type_list_pop mt_popAt (pv 2) (pa_cons (pe_o o_law_take (hr.mono (by decide)) (by rfl) (pa_cons (pv 0) (pa_cons (pe_callB call_len (by rfl) (B.u "len" (by decide +kernel)) boot_len (pa_cons (pv 2) pa_nil)) pa_nil))) pa_nil)) pa_nil)))))
      (pss_one (ps_ret (pv 3))))), ?_⟩
    obtain ⟨p, l, c, xs, rfl, hp, hl, lx, hc, q⟩ := h
    obtain ⟨ob, hob⟩ := hp.some
    refine ⟨_, rfl, l, xs, rfl, .inl (SqL.of hl), fun po hpo => ⟨two_ln (by decide), fun pm hpm => ?_⟩⟩
    have n_po : p ≠ po := ne_of_none hob hpo
    have hob1 := upd_grow (o := .lst xs) hpo _ _ hob
    have n_pm : p ≠ pm := ne_of_none hob1 hpm
    have n_om : po ≠ pm := fun e => by rw [← e, upd_same] at hpm; cases hpm
    have f_pm : H pm = none := by rw [← upd_ne (o := HO.lst xs) (H := H) n_om.symm]; exact hpm
    refine ⟨_, _, rfl, ?_⟩
    dsimp only [gName, tSeq, gNil, L2.start]
    refine while_by (fun σ H' => ∃ os ms : List V, (ms ++ os).Perm xs ∧ H' po = some (.lst os) ∧ H' pm = some (.lst ms) ∧ BoxAt H' p (c + ms.length) ∧ But p H H' ∧
        σ = [some (.ref p), some (.ref l), some (.ref po), some (.ref pm)])
      (fun σ H' => match H' po with | some (.lst xs) => xs.length | _ => 0) ?_ ?_ ?_
    · refine ⟨xs, [], .refl _, by rw [upd_ne n_om, upd_same], upd_same, hp.eq (by rw [upd_ne n_pm, upd_ne n_po]), fun b o nb e => ?_, rfl⟩
      rw [upd_ne (ne_of_none e f_pm), upd_ne (ne_of_none e hpo)]
      exact e
    · rintro σ H2 ⟨os, ms, pr, h2, h3, hb2, k2, rfl⟩
      have lens : ms.length + os.length = xs.length := by
        have := pr.length_eq
        rwa [List.length_append] at this
      refine ⟨_, rfl, two_ln (by decide), fun pe hpe => ?_⟩
      have g2 : Same H2 (upd H2 pe (.lst [])) := upd_grow hpe
      have h2' := g2 _ _ h2
      have h3' := g2 _ _ h3
      refine ⟨po, pe, os, rfl, rfl, SqL.of h2', SqL.of upd_same, _, rfl, iteB (fun e => ?_) fun e => ?_⟩
      · have l0 : 0 < os.length := by
          cases os with
          | nil => cases e
          | cons _ _ => simp
        refine ⟨_, rfl, .inl ⟨rfl, _, SqL.of h3'⟩, _, rfl, .inl ⟨rfl, _, SqL.of h2'⟩, _, rfl, _, rfl, _, _, rfl, .inl ⟨_, SqL.of h2', rfl⟩, p, _, c + ms.length, rfl, hb2.same g2, by omega, by omega, by omega, fun d H4 d0 d1 k4 hb4 e4 => ?_⟩
        obtain ⟨dn, rfl⟩ : ∃ dn : Nat, d = dn := ⟨d.toNat, by omega⟩
        have dl : dn < os.length := by omega
        have h2'' := k4 _ _ n_po.symm h2'
        have h3'' := k4 _ _ n_pm.symm h3'
        refine ⟨po, os, (dn : Int), dn, os[dn], rfl, rfl, h2'', Int.le_trans (by decide : (-(2 ^ 63) : Int) ≤ 0) (Int.natCast_nonneg _), Int.lt_trans (show (dn : Int) < 71 by omega) (by decide), seqIx dl, List.getElem?_eq_getElem dl, pm, ms, _, rfl, rfl, ?_, lt_ln (by omega), ?_, ?_⟩
        · rw [upd_ne n_om.symm]; exact h3''
        · refine ⟨os.eraseIdx dn, ms ++ [os[dn]], ?_, ?_, by rw [upd_same], ?_, fun b o nb e => ?_, rfl⟩
          · rw [List.append_assoc]
            exact (List.Perm.append_left ms (erase_permV dl)).trans pr
          · rw [upd_ne n_om, upd_same]
          · refine BoxAt.up (BoxAt.eq hb4 ?_) (by simp; omega)
            rw [upd_ne n_pm, upd_ne n_po]
          · rw [upd_ne (ne_of_none e f_pm), upd_ne (ne_of_none e hpo)]
            exact k4 _ _ nb (g2 _ _ (k2 _ _ nb e))
        · show (match (upd (upd H4 po _) pm _) po with | some (HO.lst xs) => xs.length | _ => 0) < (match H2 po with | some (HO.lst xs) => xs.length | _ => 0)
          rw [upd_ne n_om, upd_same, h2]
          simp only [List.length_eraseIdx]
          split <;> omega
      · have os0 : os = [] := by
          cases os with
          | nil => rfl
          | cons _ _ => cases e
        subst os0
        rw [List.append_nil] at pr
        have e1 := pr.length_eq
        refine ⟨_, rfl, q ms pm _ pr (fun b o nb e => g2 _ _ (k2 _ _ nb e)) ((hb2.same g2).up (by omega)) f_pm n_pm.symm h3'⟩
    · rintro σ H1 Q1 Q2 h ⟨v, hv, hz⟩
      refine ⟨v, hv, hz.1, fun pe hpe => ?_⟩
      obtain ⟨a, b, xs, a1, a2, a3, a4, k, hk, q⟩ := hz.2 pe hpe
      exact ⟨a, b, xs, a1, a2, a3, a4, k, hk, h _ _ q⟩
end
end K04

/-! more comprehensions; small words -/
namespace L2
open PySem PySem.Spec PyProof.Rows
/-- .. the new list told: over what is walked, its test p, its items as R tells; the new list at D is no part of what R speaks of -/
theorem lc_genL {J : It} {n : Nat} {G : Hp → Prop} {Y : Nat → Hp → V → Hp → Prop} (w : Walk J n G Y) {g : TG} {tt : TT} {te : TE} {vs : List Nat} {σ : St} {H : Hp} {D : Addr} {Qd : Hp → Prop} (p : Nat → Bool) (R : Nat → V → Hp → Prop)
    (Rm : ∀ i y H1 H2, Same H1 H2 → R i y H1 → R i y H2) (hD : H D = none) (hn : n ≤ 16777215) (hG : ∀ H', Same H (del H' D) → G H')
    (he : ∀ i x H1 H2 (K : V → Hp → Prop) (N : Hp → Prop), i < n → Same H (del H1 D) → (∃ zs, H1 D = some (.lst zs)) → Y i H1 x H2 → (p i = true → ∀ y H4, Same H1 H4 → R i y (del H4 D) → K y H4) → (p i = false → ∀ H4, Same H1 H4 → N H4) →
      g x (wipe σ vs) H2 fun σ2 H2' => wipe σ2 vs = wipe σ vs ∧ tt σ2 H2' fun b H3 => if b = true then te σ2 H3 K else N H3)
    (q : ∀ (ys : List V) (H' : Hp), Same H (del H' D) → H' D = some (.lst ys) → ys.length = ((List.range n).filter p).length → (∀ (k i : Nat) (y : V), ((List.range n).filter p)[k]? = some i → ys[k]? = some y → R i y (del H' D)) → Qd H') :
    ∃ W : Nat → Nat → Hp → Prop, (∃ m, W 0 m (upd H D (.lst []))) ∧ ∀ i m H, W i m H →
      (J.stop i H ∧ Qd H) ∨ (J.go i H ∧ ∃ Nx : Hp → Prop, (∀ H', Nx H' → ∃ m', m' < m ∧ W (i + 1) m' H') ∧ ∀ x H', J.yld i H x H' → g x (wipe σ vs) H' fun σ2 H2 => wipe σ2 vs = wipe σ vs ∧ tt σ2 H2 fun b H3 =>
        if b = true then te σ2 H3 fun y H4 => ∃ acc, H4 D = some (.lst acc) ∧ acc.length < sizeLine ∧ Nx (upd H4 D (.lst (acc ++ [y]))) else Nx H3) := by
  have step : ∀ i, (List.range (i + 1)).filter p = (List.range i).filter p ++ (if p i = true then [i] else []) := fun i => by
    rw [List.range_succ, List.filter_append]
    by_cases e : p i = true
    · rw [if_pos e, List.filter_cons_of_pos e] <;> rfl
    · rw [if_neg e, List.filter_cons_of_neg e] <;> rfl
  refine lc_it w (fun i H' => Same H (del H' D) ∧ ∃ ys, H' D = some (.lst ys) ∧ ys.length = ((List.range i).filter p).length ∧ ∀ (k j : Nat) (y : V), ((List.range i).filter p)[k]? = some j → ys[k]? = some y → R j y (del H' D)) ?_ (fun i H' _ h => hG H' h.1) ?_ ?_
  · refine ⟨fun b o e => ?_, [], upd_same, rfl, fun k j y h => by simp at h⟩
    rw [del_ne (ne_of_none e hD), upd_ne (ne_of_none e hD)]
    exact e
  · rintro i x H1 H2 hi ⟨k1, ys, h1, l1, r1⟩ hy
    have bound : ((List.range i).filter p).length ≤ i := by
      have := List.length_filter_le p (List.range i)
      rwa [List.length_range] at this
    refine he i x H1 H2 _ _ hi k1 ⟨_, h1⟩ hy (fun e y H4 k4 r4 => ?_) (fun e H4 k4 => ?_)
    · refine ⟨ys, k4 _ _ h1, by rw [l1]; exact lt_ln (by omega), (fun b o z => ?_), _, upd_same, ?_, ?_⟩
      · have z1 := k1 b o z
        have nb : b ≠ D := ne_of_none z hD
        rw [del_ne nb] at z1 ⊢
        rw [upd_ne nb]
        exact k4 _ _ z1
      · rw [step, if_pos e, List.length_append, List.length_append, l1] <;> rfl
      · intro k j y2 hk hy2
        have dd : del (upd H4 D (.lst (ys ++ [y]))) D = del H4 D := by
          funext b
          by_cases nb : b = D
          · rw [nb, del_same, del_same]
          · rw [del_ne nb, del_ne nb, upd_ne nb]
        rw [dd]
        rw [step, if_pos e] at hk
        by_cases c : k < ys.length
        · rw [List.getElem?_append_left (by omega)] at hk
          rw [List.getElem?_append_left c] at hy2
          exact Rm _ _ _ _ (del_mono k4) (r1 k j y2 hk hy2)
        · have lt := (List.getElem?_eq_some_iff.mp hy2).1
          rw [List.length_append] at lt
          have ek : k = ys.length := by
            have : ([y] : List V).length = 1 := rfl
            omega
          subst ek
          rw [List.getElem?_append_right (by omega)] at hk
          rw [List.getElem?_append_right (Nat.le_refl _)] at hy2
          rw [← l1, Nat.sub_self] at hk
          rw [Nat.sub_self] at hy2
          obtain rfl : i = j := by simpa using hk
          obtain rfl : y = y2 := by simpa using hy2
          exact r4
    · refine ⟨(fun b o z => ?_), ys, k4 _ _ h1, ?_, ?_⟩
      · have z1 := k1 b o z
        have nb : b ≠ D := ne_of_none z hD
        rw [del_ne nb] at z1 ⊢
        exact k4 _ _ z1
      · rw [step, if_neg (by rw [e]; exact Bool.false_ne_true), List.append_nil, l1]
      · intro k j y2 hk hy2
        rw [step, if_neg (by rw [e]; exact Bool.false_ne_true), List.append_nil] at hk
        exact Rm _ _ _ _ (del_mono k4) (r1 k j y2 hk hy2)
  · rintro H1 ⟨k1, ys, h1, l1, r1⟩
    exact q ys H1 k1 h1 l1 r1
theorem lc_genBL {J : It} {n : Nat} {G : Hp → Prop} {Y : Nat → Hp → V → Hp → Prop} (w : Walk J n G Y) {g : TG} {tt : TT} {te : TE} {vs : List Nat} {σ : St} {H : Hp} {p D : Addr} {o : HO} {Qd : Hp → Prop} (S : Nat → Hp → Prop) (R : Nat → V → Hp → Prop)
    (Rm : ∀ i y H1 H2, Same H1 H2 → R i y H1 → R i y H2) (Sm : ∀ i H1 H2, H1 p = H2 p → S i H1 → S i H2) (hp : H p = some o) (s0 : S 0 H) (hD : H D = none) (hn : n ≤ 16777215) (hG : ∀ H', Same (del H p) (del (del H' D) p) → G H')
    (he : ∀ i x H1 H2 (K : V → Hp → Prop) (N : Hp → Prop), i < n → Same (del H p) (del (del H1 D) p) → (∃ zs, H1 D = some (.lst zs)) → S i H1 → Y i H1 x H2 → (∀ y H4, But p H1 H4 → S (i + 1) H4 → R i y (del (del H4 D) p) → K y H4) →
      g x (wipe σ vs) H2 fun σ2 H2' => wipe σ2 vs = wipe σ vs ∧ tt σ2 H2' fun b H3 => if b = true then te σ2 H3 K else N H3)
    (q : ∀ (ys : List V) (H' : Hp), Same (del H p) (del (del H' D) p) → S n H' → H' D = some (.lst ys) → ys.length = n → (∀ (i : Nat) (y : V), ys[i]? = some y → R i y (del (del H' D) p)) → Qd H') :
    ∃ W : Nat → Nat → Hp → Prop, (∃ m, W 0 m (upd H D (.lst []))) ∧ ∀ i m H, W i m H →
      (J.stop i H ∧ Qd H) ∨ (J.go i H ∧ ∃ Nx : Hp → Prop, (∀ H', Nx H' → ∃ m', m' < m ∧ W (i + 1) m' H') ∧ ∀ x H', J.yld i H x H' → g x (wipe σ vs) H' fun σ2 H2 => wipe σ2 vs = wipe σ vs ∧ tt σ2 H2 fun b H3 =>
        if b = true then te σ2 H3 fun y H4 => ∃ acc, H4 D = some (.lst acc) ∧ acc.length < sizeLine ∧ Nx (upd H4 D (.lst (acc ++ [y]))) else Nx H3) := by
  have nD : p ≠ D := ne_of_none hp hD
  have dd : ∀ {H4 : Hp} {ys : List V}, del (upd H4 D (.lst ys)) D = del H4 D := fun {H4 ys} => by
    funext b
    by_cases nb : b = D
    · rw [nb, del_same, del_same]
    · rw [del_ne nb, del_ne nb, upd_ne nb]
  have bb : ∀ {H1 H4 : Hp}, But p H1 H4 → Same (del (del H1 D) p) (del (del H4 D) p) := fun k b o e => by
    by_cases nb : b = p
    · rw [nb, del_same] at e; cases e
    · rw [del_ne nb] at e ⊢
      by_cases nd : b = D
      · rw [nd, del_same] at e; cases e
      · rw [del_ne nd] at e ⊢
        exact k b o nb e
  refine lc_it w (fun i H' => Same (del H p) (del (del H' D) p) ∧ S i H' ∧ ∃ ys, H' D = some (.lst ys) ∧ ys.length = i ∧ ∀ (j : Nat) (y : V), ys[j]? = some y → R j y (del (del H' D) p)) ?_ (fun i H' _ h => hG H' h.1) ?_ ?_
  · refine ⟨fun b o e => ?_, Sm 0 H _ (by rw [upd_ne nD]) s0, [], upd_same, rfl, fun j y h => by simp at h⟩
    by_cases nb : b = p
    · rw [nb, del_same] at e; cases e
    · rw [del_ne nb] at e ⊢
      rw [del_ne (ne_of_none e hD), upd_ne (ne_of_none e hD)]
      exact e
  · rintro i x H1 H2 hi ⟨k1, s1, ys, h1, l1, r1⟩ hy
    refine he i x H1 H2 _ _ hi k1 ⟨_, h1⟩ s1 hy (fun y H4 k4 s4 r4 => ?_)
    have h4 := k4 D _ nD.symm h1
    refine ⟨ys, h4, by rw [l1]; exact lt_ln (by omega), ?_, Sm _ H4 _ (by rw [upd_ne nD]) s4, _, upd_same, by rw [List.length_append, l1]; rfl, ?_⟩
    · rw [dd]
      exact k1.trans (bb k4)
    · intro j y2 hy2
      rw [dd]
      by_cases c : j < ys.length
      · rw [List.getElem?_append_left c] at hy2
        exact Rm _ _ _ _ (bb k4) (r1 j y2 hy2)
      · have lt := (List.getElem?_eq_some_iff.mp hy2).1
        rw [List.length_append] at lt
        have ek : j = ys.length := by
          have : ([y] : List V).length = 1 := rfl
          omega
        subst ek
        rw [List.getElem?_append_right (Nat.le_refl _), Nat.sub_self] at hy2
        obtain rfl : y = y2 := by simpa using hy2
        rw [l1]
        exact r4
  · rintro H1 ⟨k1, s1, ys, h1, l1, r1⟩
    exact q ys H1 k1 s1 h1 l1 r1

theorem del_comm {H : Hp} {a b : Addr} : del (del H a) b = del (del H b) a := by
  funext c
  unfold del
  split <;> split <;> rfl
theorem but_of {p D : Addr} {H H' : Hp} (k : Same (del H p) (del (del H' D) p)) : But p H H' := fun b o nb e => del_le _ _ (del_le _ _ (k b o (by rw [del_ne nb]; exact e)))
theorem tSeq_by {a b : TS} {D : Ends} {σ : L2.St} {H : Hp} (R : L2.St → Hp → Prop) (h1 : ∀ σ' H', R σ' H' → b D σ' H') (h2 : (∀ σ' H', R σ' H' → b D σ' H') → a { nx := b D, rt := D.rt, bk := D.bk, ct := D.ct } σ H) : tSeq a b D σ H := h2 h1
theorem rdd_ne {X : Hp} {p : Addr} {v : V} {d : PyData} (r : Rdd (del X p) v d) : v ≠ .ref p := by
  rintro rfl
  cases r with
  | lst h _ => rw [del_same] at h; cases h
  | tup h _ => rw [del_same] at h; cases h
  | dK h _ _ => rw [del_same] at h; cases h
theorem eq_list_lengths {prog : Program} {w : World} {A : Around} {E : Value → Shared → Prop} {s : Shared} {l b : Addr} {items items2 : Array Value} {Q : Value → Shared → Prop}
    (h1 : s.heap.IsList l items) (h2 : s.heap.IsList b items2) (ne : (items.size != items2.size) = true) (hu : A.units < cLine) (q : Q (.bool false) s) : wpAny (model prog w) A (compareOp .Eq (.ref l) (.ref b)) Q E s := by
  obtain ⟨⟨c1, dd, dt1, sl⟩, g1, e1, n, e2⟩ := id h1
  obtain ⟨⟨c2, dd2, dt2, sl2⟩, g2, e3, n2, e4⟩ := id h2
  simp only at e1 e2 e3 e4
  subst e1 e2 e3 e4
  show wpAny _ _ (richCompare .Eq _ _) _ _ _
  exact richCompare_meets_room h1.typeIs h2.typeIs F.slot_list_eq F.entry_list_eq (F.args_list_eq_2 _ _) (SeqAt.list_eq_lengthsAt l b items items2 n n2 dd dd2 sl sl2 ne) ⟨g1, g2, by show Value.bool false ≠ Value.notImplemented ∧ _; exact ⟨(fun z => by cases z), q⟩⟩ hu
/-- xs == [], whatever the items are -/
def rEqNil (K : PySem.W.Frag) : R2 := fun x y H Q => ∃ (a b : Addr) (xs : List V), x = .ref a ∧ y = .ref b ∧ SqL K H a xs ∧ SqL K H b [] ∧ Q (.bl xs.isEmpty) H
theorem op_eqNil {X : Cx} (hu : X.A.units + 64 < cLine) : OpR X (compareOp .Eq) (rEqNil X.K) := by
  intro pins s σ H x y v u Q I rx ry h
  obtain ⟨a, b, xs, rfl, rfl, ha, hb, q⟩ := h
  cases xs with
  | nil => exact op_eqD hu pins s σ H _ _ v u Q I rx ry ⟨.list [], .list [], .lst ha .nil, .lst hb .nil, rfl, rfl, q⟩
  | cons z zs =>
    obtain rfl : v = Value.ref a := rx
    obtain rfl : u = Value.ref b := ry
    obtain ⟨i1, r1, p1, _⟩ := I.list ha
    obtain ⟨i2, r2, p2, _⟩ := I.list hb
    cases r2
    cases r1 with
    | cons r1 r3 => exact eq_list_lengths p1.isList p2.isList (by simp) (by omega) ⟨.bl false, H, I, rfl, q⟩
end L2

namespace K04
open PySem PySem.Spec PyProof.Rows L2
abbrev sRoads : Stmt := top 41
theorem scRoads : FnScope ["box", "houses", "kind", "pairs", "k", "order", "a", "b"] ["box", "houses"] (defScope sRoads) := ⟨rfl, rfl, rfl, by decide +kernel, rfl, by decide +kernel, by decide +kernel⟩
def spRoads : Sp := fun vs H Q _ => ∃ (p : Addr) (n c : Nat), vs = [.ref p, .int n] ∧ BoxAt H p c ∧ 1 ≤ n ∧ n ≤ 63 ∧ c + 2 * n < 1000 ∧
  ∀ rs q H', Tm.RoadsOk n rs → Tm.Joined n rs → But p H H' → BoxAt H' p (c + 2 * n) → H q = none → q ≠ p → Rdd (del H' p) (.ref q) (.list (rs.map rd)) → Q (.ref q) H'
theorem two_srt {ns : List Int} {x y : Nat} (h : ns.Perm [(x : Int), (y : Int)]) (s : ns.Pairwise (· ≤ ·)) : ns.map V.int = [V.int ((Tm.mkR x y).1 : Nat), V.int ((Tm.mkR x y).2 : Nat)] := by
  have l := h.length_eq
  match ns, l with
  | [a, b], _ =>
    have hab : a ≤ b := by
      have := List.pairwise_cons.mp s
      exact this.1 b (by simp)
    have h1 : (x : Int) ∈ [a, b] := h.mem_iff.mpr (by simp)
    have h2 : (y : Int) ∈ [a, b] := h.mem_iff.mpr (by simp)
    have h3 : a ∈ [(x : Int), (y : Int)] := h.mem_iff.mp (by simp)
    have h4 : b ∈ [(x : Int), (y : Int)] := h.mem_iff.mp (by simp)
    simp only [List.mem_cons, List.not_mem_nil, or_false] at h1 h2 h3 h4
    have e1 : a = ((min x y : Nat) : Int) := by omega
    have e2 : b = ((max x y : Nat) : Int) := by omega
    rw [e1, e2]
    rfl
def toN : V → Nat
  | .int i => i.toNat
  | _ => 0
theorem natV_perm {ys : List V} {l : List Nat} (h : ys.Perm (natV l)) : ∃ ms, ys = natV ms ∧ ms.Perm l := by
  refine ⟨ys.map toN, ?_, ?_⟩
  · have all : ∀ y ∈ ys, ∃ k : Nat, y = .int k := fun y hy => by
      obtain ⟨k, _, e⟩ := List.mem_map.mp (h.mem_iff.mp hy)
      exact ⟨k, e.symm⟩
    clear h
    induction ys with
    | nil => rfl
    | cons y ys ih =>
      obtain ⟨k, rfl⟩ := all y List.mem_cons_self
      have := ih fun z hz => all z (List.mem_cons_of_mem _ hz)
      show V.int k :: ys = V.int ((Int.toNat k : Nat) : Int) :: natV (ys.map toN)
      rw [← this]
      rfl
  · have z := h.map toN
    have e : (natV l).map toN = l := by
      unfold natV
      rw [List.map_map]
      exact (List.map_congr_left fun _ _ => rfl).trans (List.map_id l)
    rwa [e] at z
section
variable {P : Program} {w : World} {K : PySem.W.Frag} {mg : Str → Option Value} {base : Heap} {f : Addr} {fd : FuncData}
theorem ok_roads (F : Fd K "_law_roads" sRoads f fd) (g : mg "_law_roads" = some (.ref f)) (B : Bl mg) (o_law_take : Ok P w K mg base CX0 1 "_law_take" sTake ["box", "many"] spDraw1) (o_law_mixed : Ok P w K mg base CX0 2 "_law_mixed" sMixed ["box", "items"] spMixed) :
    Ok P w K mg base CX0 3 "_law_roads" sRoads ["box", "houses"] spRoads := by
  refine ⟨f, fd, g, F, F.bindsN fun _ _ _ _ _ _ us hl => match us, hl with | [_, _], _ => rfl, F.ok scRoads (fun vs H Q E h => ?_) (fun cdv A outer s H vs Q E hr h => ?_)⟩
  · obtain ⟨p, n, c, rfl, _⟩ := h
    rfl
  · refine ⟨_, (pss_cons (ps_set (i := 2) scRoads.nd rfl (Or.inr rfl) (pe_o o_law_take (hr.mono (by decide)) (by rfl) (pa_cons (pv 0) (pa_cons pe_int pa_nil))))
      (pss_cons (ps_setLc (i := 3) (own := [("k", 4)]) (g := gName 4) rfl scRoads.nd rfl rfl (sw_true rfl rfl rfl (by decide +kernel)) (pi_range2 (by rfl) (B.u "range" (by decide +kernel)) (pa_cons pe_int (pa_cons (pv 1) pa_nil))) (blkOk_by (N := ["box", "houses", "kind", "pairs", "k", "order", "a", "b"]) (sc := defScope sRoads) (by decide +kernel)) (fun _ _ _ _ _ => (pg_name (i := 4) scRoads.nd rfl (Or.inl rfl))) (fun _ _ _ _ _ => pts_nil) (fun _ _ _ _ _ => (pe_tup (pa_cons (pv 4) (pa_cons (pe_ix (r := rIx K) ix_seq (pe_lst (pa_cons (pe_op op_sub (pv 4) pe_int) (pa_cons pe_int (pa_cons (pe_o o_law_take (hr.mono (by decide)) (by rfl) (pa_cons (pv 0) (pa_cons (pv 4) pa_nil))) pa_nil)))) (pv 2) fun _ _ => rfl) pa_nil)))))
      (pss_cons (ps_set (i := 5) scRoads.nd rfl (Or.inr rfl) (pe_o o_law_mixed (hr.mono (by decide)) (by rfl) (pa_cons (pv 0) (pa_cons (pe_listRg rfl (by rfl) (B.u "list" (by decide +kernel)) (prg_1 (by rfl) (B.u "range" (by decide +kernel)) (pv 1))) pa_nil))))
      (pss_one (ps_ret (pe_callB cr_sortedPO (by rfl) (B.u "sorted" (by decide +kernel)) (by decide +kernel) (pa_cons (pe_lc (own := [("a", 6), ("b", 7)]) (g := gTup K 2 (gCons (gName 6) (gCons (gName 7) gNil))) rfl scRoads.nd (pi_list (pv 3)) (blkOk_by (N := ["box", "houses", "kind", "pairs", "k", "order", "a", "b"]) (sc := defScope sRoads) (by decide +kernel)) (fun _ _ _ _ _ => (pg_tup rfl (pgs_cons (pg_name (i := 6) scRoads.nd rfl (Or.inl rfl)) (pgs_cons (pg_name (i := 7) scRoads.nd rfl (Or.inl rfl)) pgs_nil)))) (fun _ _ _ _ _ => pts_nil) (fun _ _ _ _ _ => (pe_callTy (r := rTupOf K) (by exact call_tuple_of) (by rfl) (B.u "tuple" (by decide +kernel)) (by decide +kernel) (pa_cons (pe_callB (id := "sorted") (r := rSorted K) (by exact cr_sorted) (by rfl) (B.u "sorted" (by decide +kernel)) (by decide +kernel) (pa_cons (pe_lst (pa_cons (pe_ix (r := rIx K) ix_seq (pv 5) (pv 6) fun _ _ => rfl) (pa_cons (pe_ix (r := rIx K) ix_seq (pv 5) (pv 7) fun _ _ => rfl) pa_nil))) pa_nil)) pa_nil)))) pa_nil))))))), ?_⟩
    obtain ⟨p, n, c, rfl, hp, n1, n2, hc, q⟩ := h
    refine ⟨_, rfl, p, 3, c, rfl, hp, by omega, by decide, by decide, fun kind H1 kd0 kd1 k1 hp1 e1 => ?_⟩
    obtain ⟨ob, hob⟩ := hp1.some
    refine ⟨_, rfl, _, _, rfl, ⟨by decide, by decide, by omega, by omega⟩, fun D hD => ?_⟩
    have nDp : p ≠ D := ne_of_none hob hD
    have en : ((n : Int) - 1).toNat = n - 1 := by omega
    show ∃ W : Nat → Nat → Hp → Prop, _
    rw [en]
    refine lc_genB (p := p) (walk_range (lo := 1) (n := n - 1)) (fun i H' => BoxAt H' p (c + 1 + i)) (fun i y H' => ∃ t j, y = .ref t ∧ j ≤ i ∧ H' t = some (.tup [.int (i + 1 : Nat), .int (j : Nat)]))
      (fun i y _ _ k ⟨t, j, a, b, h⟩ => ⟨t, j, a, b, k _ _ h⟩) (fun i H1 H2 e h => h.eq e.symm) hob hp1 hD (by omega) (fun _ _ => True.intro) ?_ ?_
    · rintro i x H0 H4 K1 N1 hi k4 ⟨o, ho⟩ s4 ⟨rfl, hx⟩ hK
      have e2 : (1 : Int) + i = ((i + 1 : Nat) : Int) := by omega
      have hx : x = V.int ((i + 1 : Nat) : Int) := hx.trans (congrArg V.int e2)
      subst hx
      refine ⟨rfl, _, rfl, _, rfl, _, _, rfl, rfl, _, rfl, _, rfl, p, _, _, rfl, s4, by omega, by omega, by omega, fun d H5 d0 d1 k5 hb5 e5 => ⟨two_ln (by show 3 ≤ _; decide), fun pl hpl => ⟨_, rfl, ?_⟩⟩⟩
      have k_pl := upd_grow (o := .lst [.int (((i + 1 : Nat) : Int) - 1), .int 0, .int d]) hpl
      have h_pl := upd_same (H := H5) (a := pl) (o := .lst [.int (((i + 1 : Nat) : Int) - 1), .int 0, .int d])
      generalize upd H5 pl (.lst [.int (((i + 1 : Nat) : Int) - 1), .int 0, .int d]) = H6 at k_pl h_pl ⊢
      obtain ⟨ob5, hob5⟩ := hb5.some
      have npl : p ≠ pl := ne_of_none hob5 hpl
      have fin : ∀ j : Nat, j ≤ i → ∀ v, v = V.int (j : Int) → [V.int ((i + 1 : Nat) : Int), v].length ≤ sizeLine ∧ ∀ t, H6 t = none → K1 (.ref t) (upd H6 t (.tup [.int ((i + 1 : Nat) : Int), v])) := by
        rintro j hj _ rfl
        refine ⟨two_ln (by show 2 ≤ _; decide), fun t ht => ?_⟩
        have hob6 := k_pl _ _ hob5
        have npt : p ≠ t := ne_of_none hob6 ht
        have ho6 := k_pl _ _ (k5 D o nDp.symm ho)
        have nDt : D ≠ t := ne_of_none ho6 ht
        refine hK _ _ (k5.trans ((But.of k_pl).trans (But.of (upd_grow ht)))) ((hb5.same k_pl).same (upd_grow ht)) ⟨t, j, rfl, hj, by rw [del_ne npt.symm, del_ne nDt.symm, upd_same]⟩
      have three : kind = 0 ∨ kind = 1 ∨ kind = 2 := by omega
      rcases three with rfl | rfl | rfl
      · have e0 : (((i + 1 : Nat) : Int) - 1) = (i : Nat) := by omega
        exact ixAt h_pl rfl (fin i (Nat.le_refl _) _ (congrArg V.int e0))
      · exact ixAt h_pl rfl (fin 0 (Nat.zero_le _) _ rfl)
      · obtain ⟨dn, rfl⟩ : ∃ dn : Nat, d = dn := ⟨d.toNat, by omega⟩
        exact ixAt h_pl rfl (fin dn (by omega) _ rfl)
    · intro ys H4 k4 s4 h4 l4 r4
      have kb := but_of k4
      have pair : ∀ i (y : V), ys[i]? = some y → ∃ t j, y = .ref t ∧ j ≤ i ∧ t ≠ p ∧ H4 t = some (.tup [.int (i + 1 : Nat), .int (j : Nat)]) := fun i y hy => by
        obtain ⟨t, j, e, hj, ht⟩ := r4 i y hy
        have nt : t ≠ p := fun z => by rw [z, del_same] at ht; cases ht
        rw [del_ne nt] at ht
        exact ⟨t, j, e, hj, nt, del_le _ _ ht⟩
      obtain ⟨ob4, hob4⟩ := s4.some
      refine ⟨_, rfl, _, rfl, _, rfl, RgOk.of_le (by decide) (by omega) (by decide) (by omega), fun po hpo => ?_⟩
      have rg : rgV 0 n = natV (List.range n) := by
        unfold rgV natV
        have : ((n : Int) - 0).toNat = n := by omega
        rw [this]
        refine List.map_congr_left fun x _ => ?_
        rw [Int.zero_add]
      rw [rg]
      have k_po := upd_grow (o := .lst (natV (List.range n))) hpo
      have h_po := upd_same (H := H4) (a := po) (o := .lst (natV (List.range n)))
      generalize upd H4 po (.lst (natV (List.range n))) = HP at k_po h_po ⊢
      have lr : (natV (List.range n)).length = n := by simp [natV]
      refine ⟨p, po, _, _, rfl, s4.same k_po, h_po, by omega, by omega, fun os pm HM pr0 kM hbM fM nM hM => ?_⟩
      obtain ⟨ms, rfl, pr⟩ := natV_perm pr0
      have lens : ms.length = n := by rw [pr.length_eq, List.length_range]
      have nd : ms.Nodup := pr.nodup_iff.mpr List.nodup_range
      have bdm : ∀ x ∈ ms, x < n := fun x hx => List.mem_range.mp (pr.mem_iff.mp hx)
      have mget : ∀ i, i < n → (natV ms)[i]? = some (.int (ms.getD i 0 : Nat)) := fun i hi => by
        unfold natV
        rw [List.getElem?_map, List.getD_eq_getElem?_getD, List.getElem?_eq_getElem (by omega)]
        rfl
      have k4M : But p H4 HM := (But.of k_po).trans kM
      have kall : But p H HM := k1.trans (kb.trans k4M)
      have hDM := k4M _ _ nDp.symm h4
      have s4 : BoxAt HM p (c + 1 + (n - 1) + n) := hbM.up (by omega)
      refine ⟨_, rfl, D, rfl, ⟨_, SqL.of hDM⟩, fun D2 hD2 => ?_⟩
      refine lc_gen walk_list (fun _ => true) (fun i y H' => ∃ t j, y = .ref t ∧ j ≤ i ∧ H' t = some (.tup [.int ((Tm.mkR (ms.getD (i + 1) 0) (ms.getD j 0)).1 : Nat), .int ((Tm.mkR (ms.getD (i + 1) 0) (ms.getD j 0)).2 : Nat)]))
        (fun i y _ _ k ⟨t, j, a, b, h⟩ => ⟨t, j, a, b, k _ _ h⟩) hD2 (by omega) (fun H' k => SqL.of (del_sub k _ _ hDM)) ?_ ?_
      · rintro i x H0 H5 K1 N1 hi k5 ⟨o, ho⟩ ⟨rfl, hx⟩ hK _
        have hi : i < ys.length := hi
        obtain ⟨t, j, rfl, hj, nt, ht⟩ := pair i x hx
        have ht5 := del_sub k5 _ _ (k4M _ _ nt ht)
        have hm5 := del_sub k5 _ _ hM
        refine ⟨t, _, rfl, SqT.of ht5, rfl, _, _, rfl, _, _, rfl, rfl, ?_⟩
        refine ⟨rfl, _, rfl, _, rfl, ixAt hm5 (atI_nat (mget (i + 1) (by omega))) ⟨_, rfl, _, rfl, ixAt hm5 (atI_nat (mget j (by omega))) ⟨two_ln (by show 2 ≤ _; decide), fun pl hpl => ?_⟩⟩⟩
        have k_pl := upd_grow (o := .lst [.int ((ms.getD (i + 1) 0 : Nat) : Int), .int ((ms.getD j 0 : Nat) : Int)]) hpl
        have h_pl := upd_same (H := H5) (a := pl) (o := .lst [.int ((ms.getD (i + 1) 0 : Nat) : Int), .int ((ms.getD j 0 : Nat) : Int)])
        generalize upd H5 pl (.lst [.int ((ms.getD (i + 1) 0 : Nat) : Int), .int ((ms.getD j 0 : Nat) : Int)]) = H6 at k_pl h_pl ⊢
        refine ⟨pl, [((ms.getD (i + 1) 0 : Nat) : Int), ((ms.getD j 0 : Nat) : Int)], rfl, SqL.of h_pl, by show 2 < 64; decide, fun ns' ps pm2 srt hps => ?_⟩
        rw [two_srt pm2 srt]
        have k_ps := upd_grow (o := .lst [V.int ((Tm.mkR (ms.getD (i + 1) 0) (ms.getD j 0)).1 : Nat), V.int ((Tm.mkR (ms.getD (i + 1) 0) (ms.getD j 0)).2 : Nat)]) hps
        have h_ps := upd_same (H := H6) (a := ps) (o := .lst [V.int ((Tm.mkR (ms.getD (i + 1) 0) (ms.getD j 0)).1 : Nat), V.int ((Tm.mkR (ms.getD (i + 1) 0) (ms.getD j 0)).2 : Nat)])
        generalize upd H6 ps (.lst [V.int ((Tm.mkR (ms.getD (i + 1) 0) (ms.getD j 0)).1 : Nat), V.int ((Tm.mkR (ms.getD (i + 1) 0) (ms.getD j 0)).2 : Nat)]) = H7 at k_ps h_ps ⊢
        refine ⟨ps, _, rfl, .inl ⟨SqL.of h_ps, fun pt hpt => ?_⟩⟩
        have ho7 := k_ps _ _ (k_pl _ _ ho)
        refine hK rfl _ _ (k_pl.trans (k_ps.trans (upd_grow hpt))) ⟨pt, j, rfl, hj, ?_⟩
        rw [del_new ho7 hpt]
      · intro zs H5 k5 h5 l5 r5
        rw [filt_all, List.length_range] at l5
        rw [filt_all] at r5
        have l5 : zs.length = n - 1 := l5.trans l4
        have hb5 : BoxAt H5 p (c + 2 * n) := (s4.same (del_sub k5)).up (by omega)
        obtain ⟨bxs, hbx, _⟩ := id hb5
        have each : ∀ i, i < n - 1 → ∃ j, j ≤ i ∧ ∃ t, zs[i]? = some (.ref t) ∧ t ≠ p ∧ H5 t = some (.tup [.int ((Tm.mkR (ms.getD (i + 1) 0) (ms.getD j 0)).1 : Nat), .int ((Tm.mkR (ms.getD (i + 1) 0) (ms.getD j 0)).2 : Nat)]) := fun i hi => by
          have lz : i < zs.length := by omega
          obtain ⟨t, j, e, hj, ht⟩ := r5 i i zs[i] (by rw [List.getElem?_eq_getElem (by rw [List.length_range]; omega)]; simp) (List.getElem?_eq_getElem lz)
          have ht2 := del_le _ _ ht
          exact ⟨j, hj, t, by rw [List.getElem?_eq_getElem lz, e], (fun z => by rw [z, hbx] at ht2; cases ht2), ht2⟩
        obtain ⟨js, hjs⟩ : ∃ js : Nat → Nat, ∀ i, i < n - 1 → js (i + 1) ≤ i ∧ ∃ t, zs[i]? = some (.ref t) ∧ t ≠ p ∧ H5 t = some (.tup [.int ((Tm.mkR (ms.getD (i + 1) 0) (ms.getD (js (i + 1)) 0)).1 : Nat), .int ((Tm.mkR (ms.getD (i + 1) 0) (ms.getD (js (i + 1)) 0)).2 : Nat)]) := by
          refine ⟨fun k => if h : k - 1 < n - 1 then Classical.choose (each (k - 1) h) else 0, fun i hi => ?_⟩
          have z := Classical.choose_spec (each i hi)
          have e : (if h : i + 1 - 1 < n - 1 then Classical.choose (each (i + 1 - 1) h) else 0) = Classical.choose (each i hi) := dif_pos (by simpa using hi)
          simp only [e]
          exact z
        let kf : V → Int × Int := fun x => match x with
          | .ref t => match H5 t with
            | some (.tup [.int a, .int b]) => (a, b)
            | _ => (0, 0)
          | _ => (0, 0)
        have kat : ∀ i, i < n - 1 → ∃ t, zs[i]? = some (.ref t) ∧ t ≠ p ∧ H5 t = some (.tup [.int (kf (.ref t)).1, .int (kf (.ref t)).2]) ∧ kf (.ref t) = ((((Tm.mkR (ms.getD (i + 1) 0) (ms.getD (js (i + 1)) 0)).1 : Nat) : Int), (((Tm.mkR (ms.getD (i + 1) 0) (ms.getD (js (i + 1)) 0)).2 : Nat) : Int)) := fun i hi => by
          obtain ⟨_, t, h1, h2, h3⟩ := hjs i hi
          have e : kf (.ref t) = ((((Tm.mkR (ms.getD (i + 1) 0) (ms.getD (js (i + 1)) 0)).1 : Nat) : Int), (((Tm.mkR (ms.getD (i + 1) 0) (ms.getD (js (i + 1)) 0)).2 : Nat) : Int)) := by simp only [kf, h3]
          exact ⟨t, h1, h2, by rw [e]; exact h3, e⟩
        have kmem : ∀ x ∈ zs, ∃ t, x = .ref t ∧ t ≠ p ∧ H5 t = some (.tup [.int (kf x).1, .int (kf x).2]) ∧ ∃ a b : Nat, kf x = ((a : Int), (b : Int)) := fun x hx => by
          obtain ⟨i, hi, e⟩ := List.mem_iff_getElem.mp hx
          obtain ⟨t, h1, h2, h3, h4⟩ := kat i (by omega)
          rw [List.getElem?_eq_getElem hi, e] at h1
          obtain rfl : x = .ref t := Option.some.inj h1
          exact ⟨t, rfl, h2, h3, _, _, h4⟩
        refine ⟨D2, zs, kf, rfl, SqL.of h5, (fun x hx => let ⟨t, a, _, b, _⟩ := kmem x hx; ⟨t, a, b⟩), fun ys' p' srt stb hp' => ?_⟩
        have pm' := stb.perm
        have ymem : ∀ x ∈ ys', ∃ t, x = .ref t ∧ t ≠ p ∧ H5 t = some (.tup [.int (kf x).1, .int (kf x).2]) ∧ ∃ a b : Nat, kf x = ((a : Int), (b : Int)) := fun x hx => kmem x (pm'.mem_iff.mp hx)
        let road : V → Tm.Road := fun y => ((kf y).1.toNat, (kf y).2.toNat)
        have zr : zs.map road = (List.range (n - 1)).map fun i => Tm.mkR (ms.getD (i + 1) 0) (ms.getD (js (i + 1)) 0) := by
          apply List.ext_getElem
          · simp; omega
          · intro i h1 h2
            have hi : i < n - 1 := by simpa using h2
            obtain ⟨t, e1, _, _, e4⟩ := kat i hi
            have lz : i < zs.length := by omega
            rw [List.getElem?_eq_getElem lz] at e1
            have e1 := Option.some.inj e1
            rw [List.getElem_map, List.getElem_map, List.getElem_range, e1]
            simp only [road, e4, Int.toNat_natCast]
        obtain ⟨ok, jo⟩ := Tm.tree_of (ms := ms) (js := js) (rs := ys'.map road) n1 lens nd bdm (fun i hi => (hjs i (by omega)).1) (by rw [← zr]; exact pm'.map road) (by
          refine List.pairwise_map.mpr (srt.imp_of_mem fun {x y} hx hy e => ?_)
          obtain ⟨_, _, _, _, a, b, ex⟩ := ymem x hx
          obtain ⟨_, _, _, _, a2, b2, ey⟩ := ymem y hy
          simp only [ltP, ex, ey] at e
          have e : ¬ SrtO.lexB ((a2 : Int), (b2 : Int)) ((a : Int), (b : Int)) = true := by rw [e]; exact Bool.false_ne_true
          rw [SrtO.lexB_iff] at e
          simp only [road, ex, ey, Int.toNat_natCast, Tm.ltR]
          simp only at e
          have c1 : ¬ (a2 < a ∨ a2 = a ∧ b2 < b) := fun z => e (by omega)
          simpa using c1)
        have hp5 : p ≠ p' := fun z => by rw [← z, hbx] at hp'; cases hp'
        refine q (ys'.map road) p' _ ok jo (fun b o nb e => ?_) (hb5.eq (upd_ne hp5)) ?_ hp5.symm (.lst (by rw [del_ne hp5.symm, upd_same]) ?_)
        · have z := del_sub k5 _ _ (kall _ _ nb e)
          rw [upd_ne (ne_of_none z hp')]
          exact z
        · cases e : H p' with
          | none => rfl
          | some o => rw [del_sub k5 _ _ (kall _ _ hp5.symm e)] at hp'; cases hp'
        · refine rdds_of (by simp) fun i y d hy hd => ?_
          rw [List.map_map, List.getElem?_map, hy] at hd
          obtain rfl := Option.some.inj hd
          obtain ⟨t, rfl, nt, ht, a, b, ek⟩ := ymem y (List.mem_of_getElem? hy)
          have e : rd (road (.ref t)) = .tuple [.int (kf (.ref t)).1, .int (kf (.ref t)).2] := by simp only [rd, road, ek, Int.toNat_natCast]
          show Rdd _ _ (rd (road (.ref t)))
          rw [e]
          exact .tup (by rw [del_ne nt, upd_ne (ne_of_none ht hp')]; exact ht) (.cons (.int _) (.cons (.int _) .nil))

end
end K04

/-! numbers as signs, there and back -/
namespace Tn
open PySem PySem.NumText TL
/-- the signs of a number -/
def dg (n : Nat) : List Nat := (Nat.toDigits 10 n).map Char.toNat
theorem dg_all (n : Nat) : AllDigits (dg n) := by
  intro c hc
  obtain ⟨ch, hch, e⟩ := List.mem_map.mp hc
  have r := PyProof.Rows.digit_range (Nat.isDigit_of_mem_toDigits (by decide) (by decide) hch)
  rw [← e]
  exact r
theorem dg_ne (n : Nat) : dg n ≠ [] := by
  intro e
  have h := PySem.toDigits_len_ge 10 n
  rw [List.map_eq_nil_iff.mp e] at h
  exact absurd h (by decide)
theorem dg_val (n : Nat) : digitsVal (dg n) = n := PySem.W.KIN.val_back n
/-- no zero ahead -/
def Canon (cs : List Nat) : Prop := cs = [48] ∨ cs.head? ≠ some 48
instance (cs : List Nat) : Decidable (Canon cs) := inferInstanceAs (Decidable (_ ∨ _))
theorem dg_small {n : Nat} (h : n < 10) : dg n = [48 + n] := by
  unfold dg
  rw [Nat.toDigits_of_lt_base h, digitChar_of n h]
  have : ∀ d : Nat, d < 10 → [(Char.ofNat (48 + d)).toNat] = [48 + d] := by decide
  exact this n h
theorem dg_step {n : Nat} (h : 10 ≤ n) : dg n = dg (n / 10) ++ dg (n % 10) := by
  have hm : n % 10 < 10 := Nat.mod_lt n (by decide)
  have t : Nat.toDigits 10 (n / 10) ++ Nat.toDigits 10 (n % 10) = Nat.toDigits 10 (10 * (n / 10) + n % 10) := Nat.toDigits_append_toDigits (by decide) (by omega) hm
  rw [Nat.div_add_mod] at t
  unfold dg
  rw [← t, List.map_append]
theorem dg_head (n : Nat) (h : 0 < n) : (dg n).head? ≠ some 48 := by
  induction n using Nat.strongRecOn with
  | _ n ih =>
    by_cases c : n < 10
    · rw [dg_small c]
      simp
      omega
    · rw [dg_step (by omega)]
      have i := ih (n / 10) (by omega) (by omega)
      cases e : dg (n / 10) with
      | nil => exact absurd e (dg_ne _)
      | cons a l => rw [e] at i; simpa using i
theorem dg_canon (n : Nat) : Canon (dg n) := by
  by_cases h : n = 0
  · subst h
    exact .inl (dg_small (by decide))
  · exact .inr (dg_head n (by omega))
theorem canon_dg {cs : List Nat} (h : AllDigits cs) (ne : cs ≠ []) (c : Canon cs) : dg (digitsVal cs) = cs := by
  have l : ∃ n, cs.length = n + 1 := ⟨cs.length - 1, by have := List.length_pos_iff.mpr ne; omega⟩
  obtain ⟨n, l⟩ := l
  have k := toDigits_digitsVal n cs l h ?_
  · unfold dg
    rw [k, List.map_map]
    conv => rhs; rw [← List.map_id cs]
    apply List.map_congr_left
    intro a ha
    have r := h a ha
    have : ∀ d : Nat, d < 58 → (Char.ofNat d).toNat = d := by decide
    exact this a (by omega)
  · rcases c with c | c
    · subst c
      left
      simpa using l.symm
    · right
      cases cs with
      | nil => exact absurd rfl ne
      | cons a r =>
        refine ⟨a, r, rfl, ?_⟩
        have := h.head
        have : a ≠ 48 := fun z => c (by rw [z]; rfl)
        omega
theorem dg_inj {a b : Nat} (h : dg a = dg b) : a = b := by
  rw [← dg_val a, ← dg_val b, h]
/-- a number's signs, each of it looked at -/
def isNum (cs : List Nat) : Bool := decide (cs ≠ []) && (cs.all (fun c => decide (48 ≤ c) && decide (c ≤ 57)) && decide (Canon cs))
theorem isNum_iff {cs : List Nat} : isNum cs = true ↔ ∃ n, cs = dg n := by
  unfold isNum
  simp only [Bool.and_eq_true, decide_eq_true_eq, List.all_eq_true]
  constructor
  · rintro ⟨h1, h2, h3⟩
    exact ⟨digitsVal cs, (canon_dg (fun c hc => h2 c hc) h1 h3).symm⟩
  · rintro ⟨n, rfl⟩
    exact ⟨dg_ne n, dg_all n, dg_canon n⟩
theorem dg_len {n : Nat} (h : n < 100) : (dg n).length ≤ 2 := by
  have : ∀ n : Nat, n < 100 → (dg n).length ≤ 2 := by decide +kernel
  exact this n h
theorem dg_two {n : Nat} (h : (dg n).length ≤ 2) : n < 100 := by
  by_cases c : n < 100
  · exact c
  · have e := dg_step (n := n) (by omega)
    have e2 := dg_step (n := n / 10) (by omega)
    have l0 : ∀ m, 1 ≤ (dg m).length := fun m => List.length_pos_iff.mpr (dg_ne m)
    rw [e, e2, List.length_append, List.length_append] at h
    have := l0 (n / 10 / 10)
    have := l0 (n / 10 % 10)
    have := l0 (n % 10)
    omega
theorem dg_free {n k : Nat} (h : k < 48 ∨ 57 < k) : k ∉ dg n := fun m => by
  have := dg_all n k m
  omega
/-- the text of a number -/
theorem num_tl (n : Nat) : tl (Str.ofString (toString ((n : Nat) : Int))) = dg n := PySem.W.KIN.signs_num n
theorem int_num {x : Str} {n : Nat} (h : tl x = dg n) (l : x.length ≤ 640) : PySem.intText? x = some (n : Int) := by
  have a : AllDigits x.cps.toList := by
    show AllDigits (tl x)
    rw [h]
    exact dg_all n
  have ne : x.cps.toList ≠ [] := by
    show tl x ≠ []
    rw [h]
    exact dg_ne n
  rw [intText_digits a ne (by omega)]
  show some ((digitsVal (tl x) : Nat) : Int) = _
  rw [h, dg_val]
/-! ### one separator -/
theorem pre_one (s c : Nat) (r : List Nat) : pre [s] (c :: r) = decide (c = s) := by
  show ([c] == [s]) = _
  by_cases h : c = s
  · subst h; simp
  · rw [decide_eq_false h]
    simp [h]
theorem joinL_cons {S p : List Nat} {l : List (List Nat)} (h : l ≠ []) : joinL S (p :: l) = p ++ (S ++ joinL S l) := by
  cases l with
  | nil => exact absurd rfl h
  | cons q r => rfl
theorem spl_ne (s : Nat) : ∀ (acc l : List Nat), spl [s] 0 acc l ≠ []
  | acc, [] => by rw [spl_nil]; simp
  | acc, c :: r => by
    by_cases h : c = s
    · rw [spl_hit (by rw [pre_one]; exact decide_eq_true h)]
      simp
    · rw [spl_miss (by rw [pre_one]; exact decide_eq_false h)]
      exact spl_ne s _ r
theorem join_spl (s : Nat) : ∀ (acc l : List Nat), joinL [s] (spl [s] 0 acc l) = acc ++ l
  | acc, [] => by rw [spl_nil, List.append_nil]; rfl
  | acc, c :: r => by
    by_cases h : c = s
    · rw [spl_hit (by rw [pre_one]; exact decide_eq_true h)]
      show joinL [s] (acc :: spl [s] 0 [] r) = _
      rw [joinL_cons (spl_ne s _ _), join_spl s [] r, h]
      rfl
    · rw [spl_miss (by rw [pre_one]; exact decide_eq_false h), join_spl s _ r, List.append_assoc]
      rfl
theorem spl_free (s : Nat) : ∀ (acc l : List Nat), s ∉ acc → ∀ p ∈ spl [s] 0 acc l, s ∉ p
  | acc, [], h, p, hp => by
    rw [spl_nil, List.mem_singleton] at hp
    rw [hp]
    exact h
  | acc, c :: r, h, p, hp => by
    by_cases e : c = s
    · rw [spl_hit (by rw [pre_one]; exact decide_eq_true e)] at hp
      rcases List.mem_cons.mp hp with rfl | hp
      · exact h
      · exact spl_free s [] r (by simp) p hp
    · rw [spl_miss (by rw [pre_one]; exact decide_eq_false e)] at hp
      refine spl_free s _ r (fun m => ?_) p hp
      rcases List.mem_append.mp m with m | m
      · exact h m
      · exact e (List.mem_singleton.mp m).symm
/-- a text's words, by the sign s -/
abbrev parts (s : Nat) (l : List Nat) : List (List Nat) := spl [s] 0 [] l
theorem join_parts (s : Nat) (l : List Nat) : joinL [s] (parts s l) = l := by
  rw [join_spl, List.nil_append]
theorem parts_join {s : Nat} {ps : List (List Nat)} (h : ps ≠ []) (f : ∀ p ∈ ps, s ∉ p) : parts s (joinL [s] ps) = ps := spl_join h f
theorem parts_len (s : Nat) : ∀ (acc l : List Nat), ∀ p ∈ spl [s] 0 acc l, p.length ≤ acc.length + l.length
  | acc, [], p, hp => by
    rw [spl_nil, List.mem_singleton] at hp
    rw [hp]
    simp
  | acc, c :: r, p, hp => by
    by_cases e : c = s
    · rw [spl_hit (by rw [pre_one]; exact decide_eq_true e)] at hp
      rcases List.mem_cons.mp hp with rfl | hp
      · omega
      · have := parts_len s [] r p hp
        simp only [List.length_cons, List.length_nil] at this ⊢
        omega
    · rw [spl_miss (by rw [pre_one]; exact decide_eq_false e)] at hp
      have := parts_len s _ r p hp
      simp only [List.length_append, List.length_cons, List.length_nil] at this ⊢
      omega
theorem parts_many (s : Nat) : ∀ (acc l : List Nat), (spl [s] 0 acc l).length ≤ l.length + 1
  | acc, [] => by rw [spl_nil]; simp
  | acc, c :: r => by
    by_cases e : c = s
    · rw [spl_hit (by rw [pre_one]; exact decide_eq_true e)]
      have := parts_many s [] r
      show (acc :: spl [s] 0 [] r).length ≤ _
      simp only [List.length_cons] at this ⊢
      omega
    · rw [spl_miss (by rw [pre_one]; exact decide_eq_false e)]
      have := parts_many s (acc ++ [c]) r
      simp only [List.length_cons] at this ⊢
      omega
/-- two parts -/
theorem par_some {s : Nat} : ∀ (acc : List Nat) {l a b : List Nat}, s ∉ acc → par [s] acc l = some (a, b) → acc ++ l = a ++ s :: b ∧ s ∉ a
  | acc, [], a, b, _, h => by cases h
  | acc, c :: r, a, b, n, h => by
    by_cases e : c = s
    · rw [par_hit (by rw [pre_one]; exact decide_eq_true e)] at h
      cases h
      subst e
      exact ⟨rfl, n⟩
    · rw [par_miss (by rw [pre_one]; exact decide_eq_false e)] at h
      obtain ⟨h1, h2⟩ := par_some (acc ++ [c]) (l := r) (fun m => by
        rcases List.mem_append.mp m with m | m
        · exact n m
        · exact e (List.mem_singleton.mp m).symm) h
      refine ⟨?_, h2⟩
      rw [← h1, List.append_assoc]
      rfl
theorem par_of {s : Nat} {a b : List Nat} (n : s ∉ a) : par [s] [] (a ++ s :: b) = some (a, b) := by
  have := par_part1 (S := []) (rest := b) (acc := []) n
  simpa using this
theorem par_non {s : Nat} : ∀ (acc : List Nat) {l : List Nat}, par [s] acc l = none → s ∉ l
  | acc, [], _ => by simp
  | acc, c :: r, h => by
    by_cases e : c = s
    · rw [par_hit (by rw [pre_one]; exact decide_eq_true e)] at h
      cases h
    · rw [par_miss (by rw [pre_one]; exact decide_eq_false e)] at h
      intro m
      rcases List.mem_cons.mp m with m | m
      · exact e m.symm
      · exact par_non _ h m
end Tn

namespace Tm
/-! ways in a tree, from any house -/
theorem Up.head {b : B} {s x : Nat} {l : List Nat} (u : Up b s x l) : l.head? = some x := by cases u <;> rfl
/-- step by step -/
theorem Up.get {b : B} {s x : Nat} {l : List Nat} (u : Up b s x l) : ∀ i (h : i < l.length), (i + 1 < l.length → ∃ h2 : i + 1 < l.length, (l[i], l[i + 1]) ∈ b ∧ l[i] ≠ s) ∧ (i + 1 = l.length → l[i] = s) := by
  induction u with
  | here =>
    intro i h
    simp only [List.length_cons, List.length_nil] at h
    have : i = 0 := by omega
    subst this
    exact ⟨fun z => by simp at z, fun _ => rfl⟩
  | @step x p l ne m u ih =>
    intro i h
    cases i with
    | zero =>
      cases u with
      | here => exact ⟨fun z => ⟨z, m, ne⟩, fun z => by simp at z⟩
      | step a c d => exact ⟨fun z => ⟨z, m, ne⟩, fun z => by simp at z⟩
    | succ i =>
      have h' : i < l.length := by simpa using h
      obtain ⟨h1, h2⟩ := ih i h'
      refine ⟨fun z => ?_, fun z => ?_⟩
      · have z' : i + 1 < l.length := by simpa using z
        obtain ⟨z2, e1, e2⟩ := h1 z'
        exact ⟨z, e1, e2⟩
      · have z' : i + 1 = l.length := by simpa using z
        exact h2 z'
/-- from any house all others are reached -/
theorem joined_from {n : Nat} {rs : List Road} (ok : RoadsOk n rs) (j : Joined n rs) {s : Nat} (hs : s < n) {r : B} (d : Dfs (near rs) none [(s, s)] [s] r) : ∀ x, x < n → x ∈ keys r := by
  obtain ⟨b, d0, e⟩ := j
  have G0 := d0.going .start
  have G := d.going .start
  have ne : ∀ r ∈ rs, r.1 < r.2 := fun r hr => (ok.bnd r hr).1
  have lt : ∀ h, ∀ x ∈ near rs h, x < n := fun h x hx => (near_lt ok.bnd hx).1
  have n0 : 0 < n := by omega
  have cl : ∀ x y, x ∈ keys r → y ∈ near rs x → y ∈ keys r := fun x y hx hy => G.c x hx (fun z => nomatch z) y hy (fun z => nomatch z)
  have key : ∀ b : B, Grown (near rs) none 0 b → ∀ x ∈ keys b, (x ∈ keys r ↔ 0 ∈ keys r) := by
    intro b g
    induction g with
    | base =>
      intro x hx
      simp [keys] at hx
      rw [hx]
    | @grow b x p g hp hx nb nk ih =>
      intro y hy
      rw [keys_snoc] at hy
      rcases List.mem_append.mp hy with hy | hy
      · exact ih y hy
      · simp at hy
        subst hy
        rw [← ih p hp]
        exact ⟨fun z => cl _ _ z (near_sym ne hx), fun z => cl _ _ z hx⟩
  have all := all_keys G0.g.nodup (G0.g.bound n0 lt) (by simpa [keys] using e)
  intro x hx
  rw [key b G0.g x (all x hx), ← key b G0.g s (all s hs)]
  exact G.g.start
/-- l is the way from a to b -/
def Way (rs : List Road) (a b : Nat) (l : List Nat) : Prop := ∃ r, Dfs (near rs) none [(b, b)] [b] r ∧ Up r b a l
theorem Way.det {rs : List Road} {a b : Nat} {l l' : List Nat} (h : Way rs a b l) (k : Way rs a b l') : l = l' := by
  obtain ⟨r, d, u⟩ := h
  obtain ⟨r', d', u'⟩ := k
  have := d.det d'
  subst this
  exact u.det (d.going .start).g.nodup u'
theorem way_path {n : Nat} {rs : List Road} {a b : Nat} {l : List Nat} (ok : RoadsOk n rs) (j : Joined n rs) (ha : a < n) (hb : b < n) (h : Way rs a b l) : Path (near rs) a b l ∧ ∀ x ∈ l, x < n := by
  obtain ⟨r, d, u⟩ := h
  have G := d.going .start
  have lt : ∀ h, ∀ x ∈ near rs h, x < n := fun h x hx => (near_lt ok.bnd hx).1
  obtain ⟨l', u', p, sub⟩ := G.g.up a (joined_from ok j hb d a ha)
  have := u.det G.g.nodup u'
  subst this
  exact ⟨p, fun x hx => G.g.bound hb lt x (sub x hx)⟩
theorem way_ex {n : Nat} {rs : List Road} {a b : Nat} (ok : RoadsOk n rs) (j : Joined n rs) (ha : a < n) (hb : b < n) : ∃ l, Way rs a b l := by
  have lt : ∀ h, ∀ x ∈ near rs h, x < n := fun h x hx => (near_lt ok.bnd hx).1
  obtain ⟨r, d, G⟩ := dfs_all (nr := near rs) (bar := none) hb lt
  obtain ⟨l, u, _⟩ := G.g.up a (joined_from ok j hb d a ha)
  exact ⟨l, r, d, u⟩
/-- the foot of c on the way from a to b -/
theorem way_foot {n : Nat} {rs : List Road} {a b c : Nat} {L M1 M2 : List Nat} (ok : RoadsOk n rs) (j : Joined n rs) (ha : a < n) (hb : b < n) (hc : c < n) (h : Way rs a b L) (h1 : Way rs c a M1) (h2 : Way rs c b M2) :
    ∃ m, (M1.filter fun h => decide (h ∈ L)).head? = some m ∧ (L.filter fun h => decide (h ∈ M1) && decide (h ∈ M2)).head? = some m ∧ m ∈ L := by
  obtain ⟨b0, R⟩ := rooted ok j
  exact foot_eq R hb hc (way_path ok j ha hb h).1 (way_path ok j hc ha h1).1 (way_path ok j hc hb h2).1
/-- sorted lists with the same items are equal -/
theorem sort_one : ∀ {l l' : List Int}, l.Perm l' → l.Pairwise (· ≤ ·) → l'.Pairwise (· ≤ ·) → l = l'
  | [], l', p, _, _ => by rw [List.nil_perm.mp p]
  | a :: l, [], p, _, _ => by have := p.length_eq; simp at this
  | a :: l, b :: l', p, h, h' => by
    have h1 := List.pairwise_cons.mp h
    have h2 := List.pairwise_cons.mp h'
    have e : a = b := by
      have m1 : a ∈ b :: l' := p.mem_iff.mp List.mem_cons_self
      have m2 : b ∈ a :: l := p.mem_iff.mpr List.mem_cons_self
      have l1 : b ≤ a := by
        rcases List.mem_cons.mp m1 with z | z
        · omega
        · exact h2.1 a z
      have l2 : a ≤ b := by
        rcases List.mem_cons.mp m2 with z | z
        · omega
        · exact h1.1 b z
      omega
    subst e
    rw [sort_one (List.perm_cons a |>.mp p) h1.2 h2.2]
end Tm

/-! trees as lines of signs -/
namespace Tn
open PySem PySem.NumText TL
def wordL (r : Tm.Road) : List Nat := dg r.1 ++ 45 :: dg r.2
def headL (n : Nat) : List Nat := dg n ++ [58]
def lineL (n : Nat) (rs : List Tm.Road) : List Nat := joinL [32] (headL n :: rs.map wordL)
/-- z is the line of the tree n, rs -/
structure Reads (z : List Nat) (n : Nat) (rs : List Tm.Road) : Prop where
  eq : z = lineL n rs
  ge : 1 ≤ n
  le : n ≤ 64
  ok : Tm.RoadsOk n rs
  jo : Tm.Joined n rs
theorem word_free (r : Tm.Road) : 32 ∉ wordL r := fun m => by
  unfold wordL at m
  rcases List.mem_append.mp m with m | m
  · exact dg_free (.inl (by decide)) m
  · rcases List.mem_cons.mp m with m | m
    · cases m
    · exact dg_free (.inl (by decide)) m
theorem head_free (n : Nat) : 32 ∉ headL n := fun m => by
  unfold headL at m
  rcases List.mem_append.mp m with m | m
  · exact dg_free (.inl (by decide)) m
  · simp at m
theorem parts_line (n : Nat) (rs : List Tm.Road) : parts 32 (lineL n rs) = headL n :: rs.map wordL := by
  refine parts_join (by simp) fun p hp => ?_
  rcases List.mem_cons.mp hp with rfl | hp
  · exact head_free n
  · obtain ⟨r, _, rfl⟩ := List.mem_map.mp hp
    exact word_free r
theorem app_one {a b c d : List Nat} {s : Nat} (h : a ++ s :: b = c ++ s :: d) (na : s ∉ a) (nc : s ∉ c) : a = c ∧ b = d := by
  have h1 := par_of (b := b) na
  rw [h, par_of nc] at h1
  have := Option.some.inj h1
  exact ⟨(Prod.mk.inj this).1.symm, (Prod.mk.inj this).2.symm⟩
theorem dash_free (n : Nat) : 45 ∉ dg n := dg_free (.inl (by decide))
theorem word_inj {r q : Tm.Road} (h : wordL r = wordL q) : r = q := by
  obtain ⟨h1, h2⟩ := app_one h (dash_free _) (dash_free _)
  exact Prod.ext (dg_inj h1) (dg_inj h2)
theorem head_inj {n m : Nat} (h : headL n = headL m) : n = m := by
  unfold headL at h
  exact dg_inj (List.append_cancel_right h)
theorem map_word_inj : ∀ {rs qs : List Tm.Road}, rs.map wordL = qs.map wordL → rs = qs
  | [], [], _ => rfl
  | [], _ :: _, h => by simp at h
  | _ :: _, [], h => by simp at h
  | a :: rs, b :: qs, h => by
    rw [List.map_cons, List.map_cons] at h
    injection h with h1 h2
    rw [word_inj h1, map_word_inj h2]
theorem line_inj {n m : Nat} {rs qs : List Tm.Road} (h : lineL n rs = lineL m qs) : n = m ∧ rs = qs := by
  have e := congrArg (parts 32) h
  rw [parts_line, parts_line] at e
  injection e with h1 h2
  exact ⟨head_inj h1, map_word_inj h2⟩
theorem Reads.inj {z : List Nat} {n m : Nat} {rs qs : List Tm.Road} (h : Reads z n rs) (k : Reads z m qs) : n = m ∧ rs = qs := line_inj (h.eq.symm.trans k.eq)
theorem parts_word (r : Tm.Road) : parts 45 (wordL r) = [dg r.1, dg r.2] := by
  have e : wordL r = joinL [45] [dg r.1, dg r.2] := rfl
  rw [e]
  refine parts_join (by simp) fun p hp => ?_
  simp only [List.mem_cons, List.not_mem_nil, or_false] at hp
  rcases hp with rfl | rfl <;> exact dash_free _
theorem word_of {w a b : List Nat} (h : parts 45 w = [a, b]) : w = a ++ 45 :: b := by
  rw [← join_parts 45 w, h]
  rfl
theorem par_word (r : Tm.Road) : par [45] [] (wordL r) = some (dg r.1, dg r.2) := par_of (dash_free _)
/-- z's words are those of a line -/
theorem line_of {z : List Nat} {n : Nat} {rs : List Tm.Road} (h : parts 32 z = headL n :: rs.map wordL) : z = lineL n rs := by
  rw [← join_parts 32 z, h]
  rfl
theorem joinL_flat (s : Nat) : ∀ (p : List Nat) (ps : List (List Nat)), joinL [s] (p :: ps) = p ++ (ps.map (s :: ·)).flatten
  | p, [] => by simp [joinL]
  | p, q :: ps => by
    rw [joinL_cons (by simp), joinL_flat s q ps]
    simp
theorem joinL_nil : ∀ (ps : List (List Nat)), joinL [] ps = ps.flatten
  | [] => rfl
  | [p] => by simp [joinL]
  | p :: q :: r => by
    rw [joinL_cons (by simp), joinL_nil (q :: r)]
    simp
theorem line_flat (n : Nat) (rs : List Tm.Road) : lineL n rs = headL n ++ (rs.map fun r => 32 :: wordL r).flatten := by
  unfold lineL
  rw [joinL_flat, List.map_map]
  rfl
theorem word_len {r : Tm.Road} (h1 : r.1 < 100) (h2 : r.2 < 100) : (wordL r).length ≤ 5 := by
  have := dg_len h1
  have := dg_len h2
  unfold wordL
  rw [List.length_append, List.length_cons]
  omega
theorem head_len {n : Nat} (h : n < 100) : (headL n).length ≤ 3 := by
  have := dg_len h
  unfold headL
  rw [List.length_append]
  simp only [List.length_cons, List.length_nil]
  omega
theorem flat_len : ∀ {rs : List Tm.Road}, (∀ r ∈ rs, r.1 < 100 ∧ r.2 < 100) → ((rs.map fun r => 32 :: wordL r).flatten).length ≤ 6 * rs.length
  | [], _ => by simp
  | r :: rs, h => by
    have h1 := h r List.mem_cons_self
    have := word_len h1.1 h1.2
    have := flat_len (rs := rs) fun q hq => h q (List.mem_cons_of_mem _ hq)
    simp only [List.map_cons, List.flatten_cons, List.length_append, List.length_cons] at this ⊢
    omega
theorem line_len {n : Nat} {rs : List Tm.Road} (h : n < 100) (b : ∀ r ∈ rs, r.1 < 100 ∧ r.2 < 100) : (lineL n rs).length ≤ 3 + 6 * rs.length := by
  rw [line_flat, List.length_append]
  have := head_len h
  have := flat_len b
  omega
/-! ### joined, by lots that are drawn together -/
def mrg (lot : List Nat) (r : Tm.Road) : List Nat := lot.map fun one => if one = lot.getD r.1 0 then lot.getD r.2 0 else one
def lots (n : Nat) (rs : List Tm.Road) : List Nat := rs.foldl mrg (List.range n)
theorem mrg_len (lot : List Nat) (r : Tm.Road) : (mrg lot r).length = lot.length := List.length_map _
theorem mrg_get {lot : List Nat} {r : Tm.Road} {a : Nat} (h : a < lot.length) : (mrg lot r).getD a 0 = if lot.getD a 0 = lot.getD r.1 0 then lot.getD r.2 0 else lot.getD a 0 := by
  unfold mrg
  rw [List.getD_eq_getElem?_getD, List.getElem?_map, List.getElem?_eq_getElem h]
  have e : lot.getD a 0 = lot[a] := by rw [List.getD_eq_getElem?_getD, List.getElem?_eq_getElem h]; rfl
  rw [e]
  rfl
theorem lots_snoc (n : Nat) (rs : List Tm.Road) (r : Tm.Road) : lots n (rs ++ [r]) = mrg (lots n rs) r := by
  unfold lots
  rw [List.foldl_append]
  rfl
theorem fold_len : ∀ (rs : List Tm.Road) (lot : List Nat), (rs.foldl mrg lot).length = lot.length
  | [], _ => rfl
  | r :: rs, lot => by
    rw [List.foldl_cons, fold_len rs, mrg_len]
theorem lots_len (n : Nat) (rs : List Tm.Road) : (lots n rs).length = n := by
  unfold lots
  rw [fold_len, List.length_range]
theorem fold_keep {a b : Nat} : ∀ (rs : List Tm.Road) (lot : List Nat), a < lot.length → b < lot.length → lot.getD a 0 = lot.getD b 0 → (rs.foldl mrg lot).getD a 0 = (rs.foldl mrg lot).getD b 0
  | [], _, _, _, h => h
  | r :: rs, lot, ha, hb, h => by
    rw [List.foldl_cons]
    refine fold_keep rs _ (by rw [mrg_len]; exact ha) (by rw [mrg_len]; exact hb) ?_
    rw [mrg_get ha, mrg_get hb, h]
theorem fold_road {u v : Nat} : ∀ (rs : List Tm.Road) (lot : List Nat), u < lot.length → v < lot.length → (u, v) ∈ rs → (rs.foldl mrg lot).getD u 0 = (rs.foldl mrg lot).getD v 0
  | r :: rs, lot, ha, hb, h => by
    rw [List.foldl_cons]
    rcases List.mem_cons.mp h with rfl | h
    · refine fold_keep rs _ (by rw [mrg_len]; exact ha) (by rw [mrg_len]; exact hb) ?_
      rw [mrg_get ha, mrg_get hb, if_pos rfl]
      simp only
      split <;> rfl
    · exact fold_road rs _ (by rw [mrg_len]; exact ha) (by rw [mrg_len]; exact hb) h
theorem fold_sound {n : Nat} {S : List Nat} : ∀ (rs : List Tm.Road) (lot : List Nat), lot.length = n → (∀ r ∈ rs, r.1 < n ∧ r.2 < n ∧ (r.1 ∈ S ↔ r.2 ∈ S)) → (∀ a b, a < n → b < n → lot.getD a 0 = lot.getD b 0 → (a ∈ S ↔ b ∈ S)) →
    ∀ a b, a < n → b < n → (rs.foldl mrg lot).getD a 0 = (rs.foldl mrg lot).getD b 0 → (a ∈ S ↔ b ∈ S)
  | [], _, _, _, h => h
  | r :: rs, lot, hl, hr, h => by
    rw [List.foldl_cons]
    have ⟨r1, r2, r3⟩ := hr r List.mem_cons_self
    refine fold_sound rs _ (by rw [mrg_len]; exact hl) (fun q hq => hr q (List.mem_cons_of_mem _ hq)) fun a b ha hb e => ?_
    rw [mrg_get (by omega), mrg_get (by omega)] at e
    by_cases c1 : lot.getD a 0 = lot.getD r.1 0
    · by_cases c2 : lot.getD b 0 = lot.getD r.1 0
      · exact h a b ha hb (c1.trans c2.symm)
      · rw [if_pos c1, if_neg c2] at e
        exact (h a r.1 ha r1 c1).trans (r3.trans (h r.2 b r2 hb e))
    · by_cases c2 : lot.getD b 0 = lot.getD r.1 0
      · rw [if_neg c1, if_pos c2] at e
        exact (h a r.2 ha r2 e).trans (r3.symm.trans (h b r.1 hb r1 c2).symm)
      · rw [if_neg c1, if_neg c2] at e
        exact h a b ha hb e
theorem joined_iff {n : Nat} {rs : List Tm.Road} (ok : Tm.RoadsOk n rs) : Tm.Joined n rs ↔ ∀ a, a < n → (lots n rs).getD a 0 = (lots n rs).getD 0 0 := by
  have n0 : 0 < n := by have := ok.len; omega
  have lt : ∀ h, ∀ x ∈ Tm.near rs h, x < n := fun h x hx => (Tm.near_lt ok.bnd hx).1
  have ne : ∀ r ∈ rs, r.1 < r.2 := fun r hr => (ok.bnd r hr).1
  have rl : (List.range n).length = n := List.length_range
  constructor
  · rintro ⟨b, hd, hb⟩ a ha
    have G := hd.going (s := 0) .start
    have key : ∀ x ∈ Tm.keys b, (lots n rs).getD x 0 = (lots n rs).getD 0 0 := by
      have gr := G.g
      generalize b = b' at gr
      induction gr with
      | base =>
        intro x hx
        simp [Tm.keys] at hx
        rw [hx]
      | @grow b x p g hp hx _ _ ih =>
        intro y hy
        rw [Tm.keys_snoc] at hy
        rcases List.mem_append.mp hy with hy | hy
        · exact ih y hy
        · rw [List.mem_singleton.mp hy, ← ih p hp]
          have := (Tm.near_lt ok.bnd hx)
          rcases Tm.mem_near hx with m | m
          · exact (fold_road rs _ (by rw [rl]; omega) (by rw [rl]; omega) m).symm
          · exact fold_road rs _ (by rw [rl]; omega) (by rw [rl]; omega) m
    exact key a (Tm.joined_from ok ⟨b, hd, hb⟩ n0 hd a ha)
  · intro h
    obtain ⟨b, hd, G⟩ := Tm.dfs_all (nr := Tm.near rs) (bar := none) n0 lt
    refine ⟨b, hd, ?_⟩
    have cl : ∀ {x y : Nat}, x ∈ Tm.keys b → y ∈ Tm.near rs x → y ∈ Tm.keys b := fun {x y} hx hy => G.c x hx (by simp) y hy (by simp)
    have snd := fold_sound (n := n) (S := Tm.keys b) rs (List.range n) rl (fun r hr => by
      have bd := ok.bnd r hr
      refine ⟨by omega, bd.2, fun m => cl m (Tm.near_of ne (.inl hr)), fun m => cl m (Tm.near_of ne (.inr hr))⟩) (fun a c ha hc e => by
      have g : ∀ a, a < n → (List.range n).getD a 0 = a := fun a ha => by
        rw [List.getD_eq_getElem?_getD, List.getElem?_eq_getElem (by rw [rl]; exact ha)]
        simp
      rw [g a ha, g c hc] at e
      rw [e])
    have all : ∀ a, a < n → a ∈ Tm.keys b := fun a ha => (snd a 0 ha n0 (h a ha)).mpr G.g.start
    have up := G.room n0 lt
    have dn : n ≤ b.length := by
      have c2 : ∀ (l m : List Nat), l.Nodup → (∀ x ∈ l, x ∈ m) → l.length ≤ m.length := by
        intro l
        induction l with
        | nil => intro m _ _; exact Nat.zero_le _
        | cons a l ih =>
          intro m d s
          have d' := List.nodup_cons.mp d
          have ha := s a List.mem_cons_self
          have l1 := List.length_erase_of_mem ha
          have l2 := List.length_pos_of_mem ha
          have i := ih (m.erase a) d'.2 fun y hy => (List.mem_erase_of_ne fun q => d'.1 (by rw [← q]; exact hy)).mpr (s y (List.mem_cons_of_mem _ hy))
          rw [List.length_cons]
          omega
      have := c2 (List.range n) (Tm.keys b) List.nodup_range fun x hx => all x (List.mem_range.mp hx)
      rw [rl] at this
      simpa [Tm.keys] using this
    omega
end Tn

/-! new values, told as data, that do not reach the draws' box at p -/
namespace L2
open PySem PySem.Spec PyProof.Rows
theorem fresh_of {H H' : Hp} {a : Addr} (k : Same H H') (h : H' a = none) : H a = none := by
  cases e : H a with
  | none => rfl
  | some o => rw [k _ _ e] at h; cases h
def tG (S : St → Prop) (p : Addr) (d : PyData) : TE := fun σ H Q => S σ ∧ (∃ o, H p = some o) ∧ ∀ v H', Same H H' → Rdd (del H' p) v d → (∀ a, v = .ref a → H a = none) → Q v H'
def tGs (S : St → Prop) (p : Addr) (ds : List PyData) : TA := fun σ H Q => S σ ∧ (∃ o, H p = some o) ∧ ∀ vs H', Same H H' → RddAll (del H' p) vs ds → (∀ a, V.ref a ∈ vs → H a = none) → Q vs H'
section
variable {X : Cx} {S : St → Prop} {p : Addr} {e : Expr} {es : List Expr} {d : PyData} {ds : List PyData} {pos : Pos}
theorem pa_g0 : PA X [] (tGs S p []) := pa_nil.mono fun σ H Q ⟨_, _, q⟩ => q [] H (Same.refl H) .nil fun _ z => nomatch z
theorem pa_g1 (he : PE X e (tG S p d)) (h : PA X es (tGs S p ds)) (hs : starEach (e :: es) X.env = (false, eval e X.env) :: starEach es X.env := by rfl) : PA X (e :: es) (tGs S p (d :: ds)) := by
  refine (pa_cons he h hs).mono fun σ H Q ⟨s, ⟨o, ho⟩, q⟩ => ⟨s, ⟨o, ho⟩, fun v H1 k1 r1 f1 => ⟨s, ⟨o, k1 _ _ ho⟩, fun vs H2 k2 r2 f2 => q _ H2 (k1.trans k2) (.cons (r1.mono (del_mono k2)) r2) fun a ha => ?_⟩⟩
  rcases List.mem_cons.mp ha with e | ha
  · exact f1 a e.symm
  · exact fresh_of k1 (f2 a ha)
/-- a constant -/
theorem pe_gC {v : V} (h : PE X e (tC v)) (r : ∀ H, Rdd H v d) (nr : ∀ a, v ≠ .ref a) : PE X e (tG S p d) := h.mono fun σ H Q ⟨_, _, q⟩ => q v H (Same.refl H) (r _) fun a z => absurd z (nr a)
/-- what is told by the names -/
theorem pe_gS {t : TE} {v : V} (h : PE X e t) (k : ∀ σ H (Q : VK), S σ → Q v H → t σ H Q) (r : ∀ H, Rdd H v d) (nr : ∀ a, v ≠ .ref a) : PE X e (tG S p d) := h.mono fun σ H Q ⟨s, _, q⟩ => k σ H Q s (q v H (Same.refl H) (r _) fun a z => absurd z (nr a))
theorem pe_gtup {k : Nat} (h : PA X es (tGs S p ds)) (l : ds.length ≤ 16777216 := by decide) : PE X (.Tuple es k pos) (tG S p (.tuple ds)) := (pe_tup h).mono fun σ H Q ⟨s, ⟨o, ho⟩, q⟩ => ⟨s, ⟨o, ho⟩, fun vs H1 k1 r1 f1 =>
  ⟨two_ln (by rw [rdds_len r1]; exact l), fun t ht => q _ _ (k1.trans (upd_grow ht)) (.tup (del_new (k1 _ _ ho) ht) (r1.mono (del_mono (upd_grow ht)))) fun a e => by cases e; exact fresh_of k1 ht⟩⟩
theorem pe_glst (h : PA X es (tGs S p ds)) (l : ds.length ≤ 16777216 := by decide) : PE X (.List es pos) (tG S p (.list ds)) := (pe_lst h).mono fun σ H Q ⟨s, ⟨o, ho⟩, q⟩ => ⟨s, ⟨o, ho⟩, fun vs H1 k1 r1 f1 =>
  ⟨two_ln (by rw [rdds_len r1]; exact l), fun t ht => q _ _ (k1.trans (upd_grow ht)) (.lst (del_new (k1 _ _ ho) ht) (r1.mono (del_mono (upd_grow ht)))) fun a e => by cases e; exact fresh_of k1 ht⟩⟩
theorem pe_gdict0 : PE X (.Dict [] [] pos) (tG S p (.dict [])) := pe_dnewK.mono fun σ H Q ⟨s, ⟨o, ho⟩, q⟩ a ha =>
  q _ _ (upd_grow ha) (.dK (del_new ho ha) .nil .nil) fun b e => by cases e; exact ha
/-- {"..": c} -/
theorem pe_gdict1 {e1 e2 : Expr} {x : Str} {v : V} (h1 : PE X e1 (tC (.str x))) (h2 : PE X e2 (tC v)) (r : ∀ H, Rdd H v d) (h : PPs X pos [some e1] [e2] [(tC (.str x), tC v)]) : PE X (.Dict [some e1] [e2] pos) (tG S p (.dict [(.str x, d)])) :=
  (pe_disp h rfl rfl (by simp) (by show 1 ≤ 15; decide)).mono fun σ H Q ⟨s, ⟨o, ho⟩, q⟩ a ha => by
    refine ⟨upd_same, [(.inr x, v)], rfl, (by show 1 ≤ 15; decide), ?_⟩
    have e : mergeK [] [((.inr x : Key), v)] = [(.inr x, v)] := rfl
    rw [e, upd_upd]
    exact q _ _ (upd_grow ha) (.dK (del_new ho ha) (.cons (.str _) .nil) (.cons (r _) .nil)) fun b z => by cases z; exact ha
end
end L2

namespace K04
open PySem PySem.Spec PyProof.Rows L2 Tn TL
abbrev sPart : Stmt := top 42
theorem scPart : FnScope ["box", "signs", "many", "start"] ["box", "signs", "many"] (defScope sPart) := ⟨rfl, rfl, rfl, by decide +kernel, rfl, by decide +kernel, by decide +kernel⟩
abbrev sTexts : Stmt := top 44
theorem scTexts : FnScope ["box", "signs", "many"] ["box"] (defScope sTexts) := ⟨rfl, rfl, rfl, by decide +kernel, rfl, by decide +kernel, by decide +kernel⟩
abbrev sLText : Stmt := top 48
theorem scLText : FnScope ["value", "sign"] ["value"] (defScope sLText) := ⟨rfl, rfl, rfl, by decide +kernel, rfl, by decide +kernel, by decide +kernel⟩
abbrev sLHouse : Stmt := top 47
theorem scLHouse : FnScope ["net", "value"] ["net", "value"] (defScope sLHouse) := ⟨rfl, rfl, rfl, by decide +kernel, rfl, by decide +kernel, by decide +kernel⟩
theorem len_tl4 (z : Str) : z.length = z.cps.toList.length := (Array.length_toList).symm
theorem cut_both (y : Str) {a b : Nat} (ha : a ≤ y.length) (hb : b ≤ y.length) : (cutS y (some (a : Int)) (some (b : Int))).cps.toList = (y.cps.toList.drop a).take (b - a) := by
  unfold cutS
  show ((y.cps.toList.drop (HT.sIx y.length 0 (some (a : Int)))).take (HT.sIx y.length y.length (some (b : Int)) - HT.sIx y.length 0 (some (a : Int)))) = _
  rw [HT.sIx_nat, HT.sIx_nat, Nat.min_eq_left ha, Nat.min_eq_left hb]
/-- many signs that follow one another in z, around -/
def Part (z z' : Str) (many : Nat) : Prop := ∃ k, k < z.length ∧ z'.cps.toList = ((z.cps.toList ++ z.cps.toList).drop k).take many
theorem Part.len {z z' : Str} {many : Nat} (h : Part z z' many) (l : many ≤ z.length) : z'.length = many := by
  obtain ⟨k, hk, e⟩ := h
  have lz := len_tl4 z
  rw [len_tl4, e, List.length_take, List.length_drop, List.length_append]
  omega
theorem Part.mem {z z' : Str} {many : Nat} (h : Part z z' many) {c : Nat} (m : c ∈ z'.cps.toList) : c ∈ z.cps.toList := by
  obtain ⟨k, hk, e⟩ := h
  rw [e] at m
  have := List.mem_of_mem_drop (List.mem_of_mem_take m)
  simpa using this
def spPart : Sp := fun vs H Q _ => ∃ (p : Addr) (z : Str) (many c : Nat), vs = [.ref p, .str z, .int many] ∧ BoxAt H p c ∧ c < 1000 ∧ 1 ≤ z.length ∧ z.length ≤ 1000 ∧ many ≤ z.length ∧ ∀ z' H', But p H H' → BoxAt H' p (c + 1) → Part z z' many → Q (.str z') H'
section
variable {P : Program} {w : World} {K : PySem.W.Frag} {mg : Str → Option Value} {base : Heap} {f : Addr} {fd : FuncData}
theorem ok_part (F : Fd K "_law_part" sPart f fd) (g : mg "_law_part" = some (.ref f)) (B : Bl mg) (o_law_take : Ok P w K mg base CX0 1 "_law_take" sTake ["box", "many"] spDraw1) : Ok P w K mg base CX0 2 "_law_part" sPart ["box", "signs", "many"] spPart := by
  refine ⟨f, fd, g, F, F.bindsN fun _ _ _ _ _ _ us hl => match us, hl with | [_, _, _], _ => rfl, F.ok scPart (fun vs H Q E h => ?_) (fun cdv A outer s H vs Q E hr h => ?_)⟩
  · obtain ⟨p, z, m, c, rfl, _⟩ := h
    rfl
  · refine ⟨_, (pss_cons (ps_set (i := 3) scPart.nd rfl (Or.inl rfl) (pe_o o_law_take (hr.mono (by decide)) (by rfl) (pa_cons (pv 0) (pa_cons (pe_callB call_len (by rfl) (B.u "len" (by decide +kernel)) boot_len (pa_cons (pv 1) pa_nil)) pa_nil))))
      (pss_one (ps_ret (pe_slice sl_str (pe_op op_add_str (pv 1) (pv 1)) (po_some (pv 3)) (po_some (pe_op op_add (pv 3) (pv 2))))))), ?_⟩
    obtain ⟨p, z, m, c, rfl, hp, hc, l1, l2, lm, q⟩ := h
    refine ⟨_, rfl, _, rfl, _, _, rfl, ⟨two_ln (by omega), rfl⟩, p, _, c, rfl, hp, hc, by omega, by omega, fun d H1 d0 d1 k1 hp1 e1 => ?_⟩
    obtain ⟨k, rfl⟩ : ∃ k : Nat, d = k := ⟨d.toNat, by omega⟩
    refine ⟨_, rfl, _, rfl, _, _, rfl, rfl, two_ln (by omega), ?_⟩
    have l2z : (z ++ z).length = z.length + z.length := strLen_append z z
    refine ⟨_, rfl, _, rfl, _, rfl, _, rfl, _, _, rfl, rfl, _, rfl, z ++ z, rfl, two_ln (by omega), q _ _ k1 hp1 ⟨k, by omega, ?_⟩⟩
    have e : ((k : Int) + (m : Int)) = ((k + m : Nat) : Int) := by omega
    have t : (z ++ z).cps.toList = z.cps.toList ++ z.cps.toList := tl_append z z
    rw [e, cut_both (z ++ z) (by omega) (by omega), t, Nat.add_sub_cancel_left]
/-- texts of printable signs, at most 40 -/
def spTexts : Sp := fun vs H Q _ => ∃ (p : Addr) (c : Nat), vs = [.ref p] ∧ BoxAt H p c ∧ c + 6 < 1000 ∧ ∀ (l : Addr) (xs : List Str) H', But p H H' → BoxAt H' p (c + 6) → H l = none → l ≠ p → H' l = some (.lst (xs.map V.str)) → xs.length = 6 → (∀ z ∈ xs, textS z = true) → Q (.ref l) H'
theorem textS_of {z : Str} (l : z.length ≤ 40) (h : ∀ c ∈ z.cps.toList, 32 ≤ c ∧ c ≤ 126) : textS z = true := by
  unfold textS signs
  rw [decide_eq_true l, Bool.true_and]
  exact List.all_eq_true.mpr fun c hc => by rw [decide_eq_true (h c hc).1, decide_eq_true (h c hc).2]; rfl
theorem texts_of : ∀ {ys : List V}, (∀ (i : Nat) (y : V), ys[i]? = some y → ∃ z : Str, y = .str z ∧ textS z = true) → ∃ zs : List Str, ys = zs.map V.str ∧ ∀ z ∈ zs, textS z = true
  | [], _ => ⟨[], rfl, fun _ h => nomatch h⟩
  | y :: ys, h => by
    obtain ⟨z, rfl, g⟩ := h 0 y rfl
    obtain ⟨zs, rfl, gs⟩ := texts_of (ys := ys) fun i y hy => h (i + 1) y hy
    exact ⟨z :: zs, rfl, fun w hw => (List.mem_cons.mp hw).elim (fun e => e ▸ g) (gs w)⟩
theorem ok_texts (F : Fd K "_law_texts" sTexts f fd) (g : mg "_law_texts" = some (.ref f)) (B : Bl mg) (o_law_part : Ok P w K mg base CX0 2 "_law_part" sPart ["box", "signs", "many"] spPart) : Ok P w K mg base CX0 3 "_law_texts" sTexts ["box"] spTexts := by
  refine ⟨f, fd, g, F, F.bindsN fun _ _ _ _ _ _ us hl => match us, hl with | [_], _ => rfl, F.ok scTexts (fun vs H Q E h => ?_) (fun cdv A outer s H vs Q E hr h => ?_)⟩
  · obtain ⟨p, c, rfl, _⟩ := h
    rfl
  · refine ⟨_, (pss_cons (ps_set (i := 1) scTexts.nd rfl (Or.inr rfl) pe_str)
      (pss_one (ps_ret (pe_lc (own := [("many", 2)]) (g := gName 2) rfl scTexts.nd (pi_list (pe_lst (pa_cons pe_int (pa_cons pe_int (pa_cons pe_int (pa_cons pe_int (pa_cons pe_int (pa_cons pe_int pa_nil)))))))) (blkOk_by (N := ["box", "signs", "many"]) (sc := defScope sTexts) (by decide +kernel)) (fun _ _ _ _ _ => (pg_name (i := 2) scTexts.nd rfl (Or.inl rfl))) (fun _ _ _ _ _ => pts_nil) (fun _ _ _ _ _ => (pe_o o_law_part (hr.mono (by decide)) (by rfl) (pa_cons (pv 0) (pa_cons (pv 1) (pa_cons (pv 2) pa_nil))))))))), ?_⟩
    obtain ⟨p, c, rfl, hp, hc, q⟩ := h
    obtain ⟨ob, hob⟩ := hp.some
    refine ⟨two_ln (by show 6 ≤ _; decide), fun pl hpl => ?_⟩
    have k_pl := upd_grow (o := .lst [.int 0, .int 1, .int 2, .int 40, .int 7, .int 3]) hpl
    have h_pl := upd_same (H := H) (a := pl) (o := .lst [.int 0, .int 1, .int 2, .int 40, .int 7, .int 3])
    generalize upd H pl (.lst [.int 0, .int 1, .int 2, .int 40, .int 7, .int 3]) = H1 at k_pl h_pl ⊢
    have hob1 := k_pl _ _ hob
    have npl : pl ≠ p := (ne_of_none hob hpl).symm
    generalize hS : (Str.ofString " !\"#$&'()*+,-./0123456789:;<=>?@ABCDEFGHIJKLMNOPQRSTUVWXYZ[\\]^_`abcdefghijklmnopqrstuvwxyz{|}~") = S
    have lS : S.length = 94 := by rw [← hS]; decide +kernel
    have aS : ∀ c ∈ S.cps.toList, 32 ≤ c ∧ c ≤ 126 := by rw [← hS]; decide +kernel
    refine ⟨pl, rfl, ⟨_, SqL.of h_pl⟩, fun D hD => ?_⟩
    refine lc_genB (p := p) walk_list (fun i H' => BoxAt H' p (c + i)) (fun i y _ => ∃ z : Str, y = .str z ∧ textS z = true) (fun _ _ _ _ _ h => h) (fun i H1 H2 e h => h.eq e.symm) hob1 (hp.same k_pl) hD (by show 6 ≤ _; decide) (fun H' k => SqL.of (but_of k _ _ npl h_pl)) ?_ ?_
    · rintro i x H2 H3 K1 N1 hi k2 ⟨o, ho⟩ s2 ⟨rfl, hx⟩ hK
      have hi : i < 6 := hi
      obtain ⟨m, rfl, lm⟩ : ∃ m : Nat, x = .int m ∧ m ≤ 40 := by
        match i, hi with
        | 0, _ => exact ⟨0, (Option.some.inj hx).symm, by decide⟩
        | 1, _ => exact ⟨1, (Option.some.inj hx).symm, by decide⟩
        | 2, _ => exact ⟨2, (Option.some.inj hx).symm, by decide⟩
        | 3, _ => exact ⟨40, (Option.some.inj hx).symm, by decide⟩
        | 4, _ => exact ⟨7, (Option.some.inj hx).symm, by decide⟩
        | 5, _ => exact ⟨3, (Option.some.inj hx).symm, by decide⟩
      exact ⟨rfl, _, rfl, _, rfl, _, rfl, p, S, m, _, rfl, s2, by omega, by omega, by omega, by omega, fun z' H4 k4 hp4 pz => hK _ _ k4 hp4 ⟨z', rfl, textS_of (by rw [pz.len (by omega)]; exact lm) fun c hc => aS c (pz.mem hc)⟩⟩
    · intro ys H2 k2 s2 h2 l2 r2
      have kb := but_of k2
      obtain ⟨zs, rfl, gz⟩ := texts_of r2
      exact q D zs H2 ((But.of k_pl).trans kb) s2 (fresh_of k_pl hD) (ne_of_none hob1 hD).symm h2 (by rw [List.length_map] at l2; exact l2) gz
end
end K04

namespace K04
open PySem PySem.Spec PyProof.Rows L2 Tn TL
abbrev sNames : Stmt := top 43
theorem scNames : FnScope ["box", "houses", "letters", "on", "first", "by", "stem", "names", "k"] ["box", "houses"] (defScope sNames) := ⟨rfl, rfl, rfl, by decide +kernel, rfl, by decide +kernel, by decide +kernel⟩
/-- small letters only -/
def Lett (e : Str) : Prop := ∀ c ∈ e.cps.toList, 97 ≤ c ∧ c ≤ 122
theorem letters_in {L : Str} (h : L.cps.toList = (List.range 26).map fun i => 97 + i) {c : Nat} (m : c ∈ L.cps.toList) : 97 ≤ c ∧ c ≤ 122 := by
  rw [h] at m
  obtain ⟨i, hi, rfl⟩ := List.mem_map.mp m
  have := List.mem_range.mp hi
  omega
theorem strs_with {F : Nat → Str → Str → Prop} : ∀ {ys : List V}, (∀ (i : Nat) (y : V), ys[i]? = some y → ∃ z e : Str, y = .str z ∧ F i z e) → ∃ zs : List Str, ys = zs.map V.str ∧ ∀ (i : Nat) (z : Str), zs[i]? = some z → ∃ e, F i z e := by
  intro ys
  induction ys generalizing F with
  | nil => exact fun _ => ⟨[], rfl, fun i z h => by simp at h⟩
  | cons y ys ih =>
    intro h
    obtain ⟨z, e, rfl, g⟩ := h 0 y rfl
    obtain ⟨zs, rfl, gs⟩ := ih (F := fun i => F (i + 1)) fun i y hy => h (i + 1) y hy
    refine ⟨z :: zs, rfl, fun i w hw => ?_⟩
    cases i with
    | zero => exact ⟨e, by rw [← Option.some.inj hw]; exact g⟩
    | succ i => exact gs i w hw
def spNames : Sp := fun vs H Q _ => ∃ (p : Addr) (n c : Nat), vs = [.ref p, .int n] ∧ BoxAt H p c ∧ 1 ≤ n ∧ n ≤ 6 ∧ c + 60 < 1000 ∧ ∀ (l : Addr) (ns : List Str) H', But p H H' → BoxAt H' p (c + 30) → H l = none → l ≠ p → H' l = some (.lst (ns.map V.str)) → NamesOk n ns → Q (.ref l) H'
theorem dist26 : ∀ f, f < 26 → ∀ i, i < 6 → ∀ j, j < 6 → ∀ y ∈ [1, 3, 5, 7, 9, 11, 15, 17], (f + i * y) % 26 = (f + j * y) % 26 → i = j := by decide +kernel
/-- a name: the stem, the letter of the idx-th, an end -/
def NameAt (st : Str) (f y idx : Nat) (z e : Str) : Prop := z.cps.toList = st.cps.toList ++ (97 + (f + idx * y) % 26) :: e.cps.toList
theorem NameAt.good {st z e : Str} {f y i : Nat} (h : NameAt st f y i z e) (l : st.length + 1 + e.length ≤ 8) (a : Lett st) (b : Lett e) : nameS z = true := by
  have ls := len_tl4 st
  have le := len_tl4 e
  have lz := len_tl4 z
  rw [h, List.length_append, List.length_cons] at lz
  unfold nameS signs
  rw [decide_eq_true (by omega : 1 ≤ z.length), decide_eq_true (by omega : z.length ≤ 8), Bool.true_and, Bool.true_and]
  refine List.all_eq_true.mpr fun c hc => ?_
  rw [h] at hc
  have : 97 ≤ c ∧ c ≤ 122 := by
    rcases List.mem_append.mp hc with hc | hc
    · exact a c hc
    · rcases List.mem_cons.mp hc with rfl | hc
      · omega
      · exact b c hc
  rw [decide_eq_true this.1, decide_eq_true this.2]
  rfl
theorem NameAt.same {st z e e' : Str} {f y i j : Nat} (h : NameAt st f y i z e) (k : NameAt st f y j z e') (hf : f < 26) (hi : i < 6) (hj : j < 6) (hy : y ∈ [1, 3, 5, 7, 9, 11, 15, 17]) : i = j := by
  have e1 := h.symm.trans k
  have e2 := List.append_cancel_left e1
  injection e2 with e3 _
  exact dist26 f hf i hi j hj y hy (by omega)
theorem nodup_by {zs : List Str} (h : ∀ (i j : Nat) (z : Str), zs[i]? = some z → zs[j]? = some z → i = j) : zs.Nodup := by
  rw [List.nodup_iff_pairwise_ne, List.pairwise_iff_getElem]
  intro i j hi hj lt e
  have := h i j zs[i] (List.getElem?_eq_getElem hi) (by rw [List.getElem?_eq_getElem hj, e])
  omega
theorem names_ok {st : Str} {f y n : Nat} {zs : List Str} (lz : zs.length = n) (n2 : n ≤ 6) (ls : st.length ≤ 3) (hf : f < 26) (hy : y ∈ [1, 3, 5, 7, 9, 11, 15, 17]) (a : Lett st)
    (g : ∀ (i : Nat) (z : Str), zs[i]? = some z → ∃ e, z.cps.toList = st.cps.toList ++ (97 + (f + i * y) % 26) :: e.cps.toList ∧ e.length ≤ 4 ∧ Lett e) : NamesOk n zs := by
  refine ⟨lz, fun z hz => ?_, nodup_by fun i j z hi hj => ?_⟩
  · obtain ⟨i, hi, e⟩ := List.mem_iff_getElem.mp hz
    obtain ⟨e, h1, h2, h3⟩ := g i z (by rw [List.getElem?_eq_getElem hi, e])
    exact NameAt.good (f := f) (y := y) (i := i) h1 (by omega) a h3
  · obtain ⟨e, h1, _⟩ := g i z hi
    obtain ⟨e', h1', _⟩ := g j z hj
    have li := (List.getElem?_eq_some_iff.mp hi).1
    have lj := (List.getElem?_eq_some_iff.mp hj).1
    exact NameAt.same (f := f) (y := y) h1 h1' hf (by omega) (by omega) hy
theorem NameAt.len {st z e : Str} {f y idx : Nat} (h : NameAt st f y idx z e) : z.length = st.length + 1 + e.length := by
  have ls := len_tl4 st
  have le := len_tl4 e
  have lz := len_tl4 z
  rw [h, List.length_append, List.length_cons] at lz
  omega
theorem names_set {st z0 : Str} {f y n : Nat} {zs : List Str} (lz : zs.length = n) (n2 : n ≤ 6) (n1 : 1 < n) (ls : st.length ≤ 3) (hf : f < 26) (hy : y ∈ [1, 3, 5, 7, 9, 11, 15, 17]) (a : Lett st)
    (g : ∀ (i : Nat) (z : Str), zs[i]? = some z → ∃ e, z.cps.toList = st.cps.toList ++ (97 + (f + i * y) % 26) :: e.cps.toList ∧ e.length ≤ 4 ∧ Lett e) (h0 : zs[0]? = some z0) (l0 : z0.length < 8) : NamesOk n (zs.set 1 (z0 ++ ⟨#[97 + f]⟩)) := by
  obtain ⟨e0, q1, q2, q3⟩ := g 0 z0 h0
  have k0 := NameAt.len (f := f) (y := y) (idx := 0) q1
  have tw : NameAt st f y 0 (z0 ++ ⟨#[97 + f]⟩) (e0 ++ ⟨#[97 + f]⟩) := by
    show tl (z0 ++ ⟨#[97 + f]⟩) = tl st ++ (97 + (f + 0 * y) % 26) :: tl (e0 ++ ⟨#[97 + f]⟩)
    have q1 : tl z0 = tl st ++ (97 + (f + 0 * y) % 26) :: tl e0 := q1
    rw [tl_append, tl_append, q1, List.append_assoc]
    rfl
  have le : (e0 ++ ⟨#[97 + f]⟩ : Str).length = e0.length + 1 := strLen_append _ _
  have ge : Lett (e0 ++ ⟨#[97 + f]⟩) := fun c hc => by
    have hc : c ∈ tl (e0 ++ ⟨#[97 + f]⟩) := hc
    rw [tl_append] at hc
    rcases List.mem_append.mp hc with hc | hc
    · exact q3 c hc
    · have : c = 97 + f := List.mem_singleton.mp hc
      omega
  have lw := NameAt.len tw
  have each : ∀ (i : Nat) (z : Str), (zs.set 1 (z0 ++ ⟨#[97 + f]⟩))[i]? = some z → ∃ e, NameAt st f y (if i = 1 then 0 else i) z e ∧ st.length + 1 + e.length ≤ 8 ∧ Lett e ∧ i < n ∧ (i = 1 → z = z0 ++ ⟨#[97 + f]⟩) ∧ (i = 0 → z = z0) := fun i z hz => by
    have li := (List.getElem?_eq_some_iff.mp hz).1
    rw [List.length_set] at li
    by_cases e1 : i = 1
    · subst e1
      rw [List.getElem?_set_self (by omega)] at hz
      obtain rfl := Option.some.inj hz
      exact ⟨_, tw, by omega, ge, by omega, fun _ => rfl, fun h => absurd h (by decide)⟩
    · rw [List.getElem?_set_ne (Ne.symm e1)] at hz
      obtain ⟨e, h1, h2, h3⟩ := g i z hz
      rw [if_neg e1]
      refine ⟨e, h1, by omega, h3, by omega, fun h => absurd h e1, fun h => ?_⟩
      subst h
      exact Option.some.inj (hz.symm.trans h0)
  refine ⟨by rw [List.length_set]; exact lz, fun z hz => ?_, nodup_by fun i j z hi hj => ?_⟩
  · obtain ⟨i, hi, e⟩ := List.mem_iff_getElem.mp hz
    obtain ⟨e, h1, h2, h3, _⟩ := each i z (by rw [List.getElem?_eq_getElem hi, e])
    exact h1.good h2 a h3
  · obtain ⟨e, h1, _, _, i6, i1, i0⟩ := each i z hi
    obtain ⟨e', h1', _, _, j6, j1, j0⟩ := each j z hj
    have z01 : ∀ y : Str, y = z0 → y = z0 ++ ⟨#[97 + f]⟩ → False := fun y a b => by
      have := congrArg Str.length (a.symm.trans b)
      rw [lw, k0, le] at this
      omega
    have s := NameAt.same (f := f) (y := y) h1 h1' hf (by split <;> omega) (by split <;> omega) hy
    by_cases a1 : i = 1
    · by_cases b1 : j = 1
      · omega
      · rw [if_pos a1, if_neg b1] at s
        exact (z01 z (j0 s.symm) (i1 a1)).elim
    · by_cases b1 : j = 1
      · rw [if_neg a1, if_pos b1] at s
        exact (z01 z (i0 s) (j1 b1)).elim
      · rw [if_neg a1, if_neg b1] at s
        exact s
theorem ixN_nat {n k : Nat} (h : k < n) : ixN n (k : Int) = some k := by
  unfold ixN
  rw [if_pos (Int.natCast_nonneg k), if_pos (by omega)]
  rfl
def toS : V → Str
  | .str z => z
  | _ => Str.empty
theorem strV_perm {ys : List V} {l : List Str} (h : ys.Perm (l.map V.str)) : ∃ ms : List Str, ys = ms.map V.str ∧ ms.Perm l := by
  refine ⟨ys.map toS, ?_, ?_⟩
  · have all : ∀ y ∈ ys, ∃ k : Str, y = .str k := fun y hy => by
      obtain ⟨k, _, e⟩ := List.mem_map.mp (h.mem_iff.mp hy)
      exact ⟨k, e.symm⟩
    clear h
    induction ys with
    | nil => rfl
    | cons y ys ih =>
      obtain ⟨k, rfl⟩ := all y List.mem_cons_self
      have := ih fun z hz => all z (List.mem_cons_of_mem _ hz)
      show V.str k :: ys = V.str k :: (ys.map toS).map V.str
      rw [← this]
  · have z := h.map toS
    rw [List.map_map] at z
    have e : l.map (toS ∘ V.str) = l := (List.map_congr_left fun _ _ => rfl).trans (List.map_id l)
    rwa [e] at z
theorem fresh_but {p a : Addr} {H H' : Hp} (k : But p H H') (n : a ≠ p) (h : H' a = none) : H a = none := by
  cases e : H a with
  | none => rfl
  | some o =>
    rw [k _ _ n e] at h
    cases h
section
variable {P : Program} {w : World} {K : PySem.W.Frag} {mg : Str → Option Value} {base : Heap} {f : Addr} {fd : FuncData}
theorem ok_names (F : Fd K "_law_names" sNames f fd) (g : mg "_law_names" = some (.ref f)) (B : Bl mg) (o_law_take : Ok P w K mg base CX0 1 "_law_take" sTake ["box", "many"] spDraw1) (o_law_part : Ok P w K mg base CX0 2 "_law_part" sPart ["box", "signs", "many"] spPart)
    (o_law_mixed : Ok P w K mg base CX0 2 "_law_mixed" sMixed ["box", "items"] spMixed) : Ok P w K mg base CX0 3 "_law_names" sNames ["box", "houses"] spNames := by
  refine ⟨f, fd, g, F, F.bindsN fun _ _ _ _ _ _ us hl => match us, hl with | [_, _], _ => rfl, F.ok scNames (fun vs H Q E h => ?_) (fun cdv A outer s H vs Q E hr h => ?_)⟩
  · obtain ⟨p, n, c, rfl, _⟩ := h
    rfl
  · refine ⟨_, (pss_cons (ps_set (i := 2) scNames.nd rfl (Or.inr rfl) pe_str)
      (pss_cons (ps_asg (pe_tup (pa_cons (pe_o o_law_take (hr.mono (by decide)) (by rfl) (pa_cons (pv 0) (pa_cons pe_int pa_nil))) (pa_cons (pe_o o_law_take (hr.mono (by decide)) (by rfl) (pa_cons (pv 0) (pa_cons pe_int pa_nil))) (pa_cons (pe_ix ix_seq (pe_lst (pa_cons pe_int (pa_cons pe_int (pa_cons pe_int (pa_cons pe_int (pa_cons pe_int (pa_cons pe_int (pa_cons pe_int (pa_cons pe_int pa_nil))))))))) (pe_o o_law_take (hr.mono (by decide)) (by rfl) (pa_cons (pv 0) (pa_cons pe_int pa_nil))) fun _ _ => rfl) pa_nil)))) (pg_tup rfl (pgs_cons (pg_name (i := 3) scNames.nd rfl (Or.inl rfl)) (pgs_cons (pg_name (i := 4) scNames.nd rfl (Or.inr rfl)) (pgs_cons (pg_name (i := 5) scNames.nd rfl (Or.inr rfl)) pgs_nil)))))
      (pss_cons (ps_set (i := 6) scNames.nd rfl (Or.inr rfl) (pe_o o_law_part (hr.mono (by decide)) (by rfl) (pa_cons (pv 0) (pa_cons (pv 2) (pa_cons (pe_o o_law_take (hr.mono (by decide)) (by rfl) (pa_cons (pv 0) (pa_cons pe_int pa_nil))) pa_nil)))))
      (pss_cons (ps_setLc (i := 7) (own := [("k", 8)]) (g := gName 8) rfl scNames.nd rfl rfl (sw_true rfl rfl rfl (by decide +kernel)) (pi_range1 (by rfl) (B.u "range" (by decide +kernel)) (pa_cons (pv 1) pa_nil)) (blkOk_by (N := ["box", "houses", "letters", "on", "first", "by", "stem", "names", "k"]) (sc := defScope sNames) (by decide +kernel)) (fun _ _ _ _ _ => (pg_name (i := 8) scNames.nd rfl (Or.inl rfl))) (fun _ _ _ _ _ => pts_nil) (fun _ _ _ _ _ => (pe_op op_add_str (pe_op op_add_str (pv 6) (pe_ix (r := rIx K) ix_seq (pv 2) (pe_op op_mod (pe_callTy call_int1 (by rfl) (B.u "int" (by decide +kernel)) (by decide +kernel) (pa_cons (pe_op op_add (pv 4) (pe_op op_mul (pv 8) (pv 5))) pa_nil)) pe_int) fun _ _ => rfl)) (pe_o o_law_part (hr.mono (by decide)) (by rfl) (pa_cons (pv 0) (pa_cons (pv 2) (pa_cons (pe_o o_law_take (hr.mono (by decide)) (by rfl) (pa_cons (pv 0) (pa_cons pe_int pa_nil))) pa_nil)))))))
      (pss_cons (ps_if (pw_and (pt_cmpR op_eq (pv 3) pe_int (nomark _)) (pw_and (pt_cmpR op_gt (pv 1) pe_int (nomark _)) (pw_and1 (pt_cmpR op_lt (pe_callB call_len (by rfl) (B.u "len" (by decide +kernel)) boot_len (pa_cons (pe_ix ix_seq (pv 7) pe_int fun _ _ => rfl) pa_nil)) pe_int (nomark _))))).pt
        (pss_one (ps_asg (pe_op op_add_str (pe_ix ix_seq (pv 7) pe_int fun _ _ => rfl) (pe_ix ix_seq (pv 2) (pv 4) fun _ _ => rfl)) (pg_sub (pv 7) pe_int set_list fun _ => rfl)))
        pss_nil)
      (pss_one (ps_ret (pe_o o_law_mixed (hr.mono (by decide)) (by rfl) (pa_cons (pv 0) (pa_cons (pv 7) pa_nil)))))))))), ?_⟩
    obtain ⟨p, n, c, rfl, hp, n1, n2, hc, q⟩ := h
    obtain ⟨ob, hob⟩ := hp.some
    generalize hL : (Str.ofString "abcdefghijklmnopqrstuvwxyz") = L
    have lL : L.length = 26 := by rw [← hL]; decide +kernel
    have aL : L.cps.toList = (List.range 26).map fun i => 97 + i := by rw [← hL]; decide +kernel
    refine ⟨_, rfl, p, 3, c, rfl, hp, by omega, by decide, by decide, fun on H1 o0 o1 k1 hp1 e1 => ?_⟩
    refine ⟨_, rfl, p, 26, _, rfl, hp1, by omega, by decide, by decide, fun fi H2 f0 f1 k2 hp2 e2 => ⟨two_ln (by show 8 ≤ _; decide), fun pl hpl => ?_⟩⟩
    have k_pl := upd_grow (o := .lst [.int 1, .int 3, .int 5, .int 7, .int 9, .int 11, .int 15, .int 17]) hpl
    have h_pl := upd_same (H := H2) (a := pl) (o := .lst [.int 1, .int 3, .int 5, .int 7, .int 9, .int 11, .int 15, .int 17])
    generalize upd H2 pl (.lst [.int 1, .int 3, .int 5, .int 7, .int 9, .int 11, .int 15, .int 17]) = H3 at k_pl h_pl ⊢
    obtain ⟨ob2, hob2⟩ := hp2.some
    have npl : pl ≠ p := (ne_of_none hob2 hpl).symm
    refine ⟨_, rfl, p, 8, _, rfl, hp2.same k_pl, by omega, by decide, by decide, fun bi H4 b0 b1 k4 hp4 e4 => ?_⟩
    obtain ⟨fn, rfl⟩ : ∃ fn : Nat, fi = fn := ⟨fi.toNat, by omega⟩
    obtain ⟨bn, rfl⟩ : ∃ bn : Nat, bi = bn := ⟨bi.toNat, by omega⟩
    obtain ⟨by', hby, mby⟩ : ∃ y : Nat, ([.int 1, .int 3, .int 5, .int 7, .int 9, .int 11, .int 15, .int 17] : List V)[bn]? = some (.int y) ∧ y ∈ [1, 3, 5, 7, 9, 11, 15, 17] := by
      have h8 : bn < 8 := by omega
      match bn, h8 with
      | 0, _ => exact ⟨1, rfl, by decide⟩
      | 1, _ => exact ⟨3, rfl, by decide⟩
      | 2, _ => exact ⟨5, rfl, by decide⟩
      | 3, _ => exact ⟨7, rfl, by decide⟩
      | 4, _ => exact ⟨9, rfl, by decide⟩
      | 5, _ => exact ⟨11, rfl, by decide⟩
      | 6, _ => exact ⟨15, rfl, by decide⟩
      | 7, _ => exact ⟨17, rfl, by decide⟩
    refine ixAt (k4 _ _ npl h_pl) (atI_nat hby) ⟨two_ln (by show 3 ≤ _; decide), fun pt hpt => ?_⟩
    have k_pt := upd_grow (o := .tup [.int on, .int (fn : Nat), .int (by' : Nat)]) hpt
    have h_pt := upd_same (H := H4) (a := pt) (o := .tup [.int on, .int (fn : Nat), .int (by' : Nat)])
    generalize upd H4 pt (.tup [.int on, .int (fn : Nat), .int (by' : Nat)]) = H5 at k_pt h_pt ⊢
    refine ⟨pt, _, rfl, SqT.of h_pt, rfl, _, _, rfl, _, _, rfl, _, _, rfl, rfl, ?_⟩
    have k05 : But p H H5 := k1.trans (k2.trans ((But.of k_pl).trans (k4.trans (But.of k_pt))))
    refine ⟨_, rfl, _, rfl, _, rfl, p, 4, _, rfl, hp4.same k_pt, by omega, by decide, by decide, fun si H6 s0 s1 k6 hp6 e6 => ?_⟩
    obtain ⟨sn, rfl⟩ : ∃ sn : Nat, si = sn := ⟨si.toNat, by omega⟩
    refine ⟨p, L, sn, _, rfl, hp6, by omega, by omega, by omega, by omega, fun st H7 k7 hp7 pst => ?_⟩
    have k07 := k05.trans (k6.trans k7)
    dsimp only [gName, tSeq, gNil, gCons, L2.start]
    obtain ⟨ob7, hob7⟩ := hp7.some
    have lst : st.length = sn := pst.len (by omega)
    refine ⟨_, rfl, _, rfl, by omega, by omega, fun D hD => ?_⟩
    have nDp : D ≠ p := (ne_of_none hob7 hD).symm
    have en : ((n : Nat) : Int).toNat = n := by omega
    show ∃ W : Nat → Nat → Hp → Prop, _
    rw [en]
    refine lc_genB (p := p) (walk_range (lo := 0) (n := n)) (fun i H' => BoxAt H' p (c + 5 + 2 * i)) (fun i y _ => ∃ z e : Str, y = .str z ∧ z.cps.toList = st.cps.toList ++ (97 + (fn + i * by') % 26) :: e.cps.toList ∧ e.length ≤ 4 ∧ Lett e) (fun _ _ _ _ _ h => h) (fun i H1 H2 e h => h.eq e.symm) hob7 hp7 hD (by omega) (fun _ _ => True.intro) ?_ ?_
    · rintro i x H8 H9 K1 N1 hi k8 ⟨o, ho⟩ s8 ⟨rfl, rfl⟩ hK
      have hi : i < n := hi
      have ei : (0 : Int) + i = (i : Nat) := by omega
      dsimp only [gName]
      rw [show V.int ((0 : Int) + i) = V.int ((i : Nat) : Int) from congrArg V.int ei]
      have em : ((fn : Int) + (i : Int) * (by' : Int)) % 26 = (((fn + i * by') % 26 : Nat) : Int) := by
        rw [show (i : Int) * (by' : Int) = ((i * by' : Nat) : Int) from (Int.natCast_mul i by').symm]
        omega
      have lt26 : (fn + i * by') % 26 < 26 := Nat.mod_lt _ (by decide)
      refine ⟨rfl, _, rfl, _, rfl, _, rfl, _, rfl, _, rfl, _, _, rfl, rfl, .inl ⟨by omega, by omega⟩, _, _, rfl, rfl, .inl ⟨_, rfl, _, _, rfl, rfl, (by show (0 : Int) < 26; decide), ?_⟩⟩
      show rIx _ (V.str L) (V.int (((fn : Int) + (i : Int) * (by' : Int)) % 26)) _ _
      rw [em]
      refine .inr (.inr ⟨L, _, 97 + (fn + i * by') % 26, rfl, rfl, two_ln (by omega), atI_nat (by rw [aL, List.getElem?_map, List.getElem?_range lt26]; rfl), _, _, rfl, rfl, ?_, ?_⟩)
      · refine two_ln ?_
        show st.length + 1 ≤ _
        omega
      · refine ⟨_, rfl, _, rfl, _, rfl, p, 5, _, rfl, s8, by omega, by decide, by decide, fun ej HA j0 j1 kA hpA eA => ?_⟩
        obtain ⟨jn, rfl⟩ : ∃ jn : Nat, ej = jn := ⟨ej.toNat, by omega⟩
        refine ⟨p, L, jn, _, rfl, hpA, by omega, by omega, by omega, by omega, fun z' HB kB hpB pz => ⟨_, _, rfl, rfl, ?_, ?_⟩⟩
        · have lz := pz.len (by omega)
          refine two_ln ?_
          rw [strLen_append]
          show st.length + 1 + z'.length ≤ _
          omega
        · refine hK _ _ (kA.trans kB) (hpB.up (by omega)) ⟨_, z', rfl, ?_, by rw [pz.len (by omega)]; omega, fun c hc => letters_in aL (pz.mem hc)⟩
          show tl ((st ++ ⟨#[97 + (fn + i * by') % 26]⟩) ++ z') = _
          rw [tl_append, tl_append]
          show (tl st ++ [97 + (fn + i * by') % 26]) ++ tl z' = _
          rw [List.append_assoc]
          rfl
    · intro ys H8 k8 s8 h8 l8 r8
      have kb := but_of k8
      have k08 := k07.trans kb
      obtain ⟨zs, rfl, gz⟩ := strs_with r8
      have lz : zs.length = n := by rw [List.length_map] at l8; exact l8
      have gS : Lett st := fun c hc => letters_in aL (pst.mem hc)
      have NO := names_ok (st := st) (f := fn) (y := by') lz n2 (by omega) (by omega) mby gS gz
      dsimp only [gName]
      refine tSeq_by (fun σ H' => ∃ ws : List Str, NamesOk n ws ∧ But p H7 H' ∧ BoxAt H' p (c + 5 + 2 * n) ∧ H' D = some (.lst (ws.map V.str)) ∧ σ = [some (.ref p), some (.int n), some (.str L), some (.int on), some (.int fn), some (.int by'), some (.str st), some (.ref D), none]) ?_ fun rest => ?_
      · rintro σ H9 ⟨ws, NW, k9, hp9, h9, rfl⟩
        have lw := NW.len
        refine ⟨_, rfl, _, rfl, p, D, _, _, rfl, hp9, h9, by rw [List.length_map]; omega, by rw [List.length_map]; omega, fun ys q' HA pm kA hpA fA nA hA => ?_⟩
        obtain ⟨vs, rfl, pv⟩ := strV_perm pm
        exact q q' vs HA (k07.trans (k9.trans kA)) (hpA.up (by rw [List.length_map]; omega)) (fresh_but (k07.trans k9) nA fA) nA hA ⟨by rw [pv.length_eq]; exact NW.len, fun z hz => NW.good z (pv.mem_iff.mp hz), pv.nodup_iff.mpr NW.diff⟩
      · have same : ∃ ws : List Str, NamesOk n ws ∧ But p H7 H8 ∧ BoxAt H8 p (c + 5 + 2 * n) ∧ H8 D = some (.lst (ws.map V.str)) ∧ [some (V.ref p), some (V.int (n : Int)), some (V.str L), some (V.int on), some (V.int (fn : Int)), some (V.int (by' : Int)), some (V.str st), some (V.ref D), none] = [some (.ref p), some (.int n), some (.str L), some (.int on), some (.int fn), some (.int by'), some (.str st), some (.ref D), none] :=
          ⟨zs, NO, kb, s8, h8, rfl⟩
        refine ⟨_, rfl, rfl, _, rfl, iteB (fun _ => ?_) fun _ => rest _ _ same⟩
        refine ⟨_, rfl, _, _, rfl, rfl, _, rfl, iteB (fun e1 => ?_) fun _ => rest _ _ same⟩
        have n1' : 1 < n := by have := of_decide_eq_true e1; omega
        obtain ⟨z0, hz0⟩ : ∃ z0, zs[0]? = some z0 := ⟨zs[0], List.getElem?_eq_getElem (by omega)⟩
        have at0' : atI (zs.map V.str) ((0 : Nat) : Int) = some (.str z0) := atI_nat (by rw [List.getElem?_map, hz0]; rfl)
        refine ⟨_, rfl, ixAt (v := .str z0) h8 at0' ⟨_, _, rfl, ⟨?_, rfl⟩, _, _, rfl, rfl, _, rfl, iteB (fun e2 => ?_) fun _ => rest _ _ same⟩⟩
        · obtain ⟨e0, q1, q2, _⟩ := gz 0 z0 hz0
          have l0 := NameAt.len (f := fn) (y := by') (idx := 0) q1
          exact two_ln (by omega)
        · have e2 := of_decide_eq_true e2
          have lf : fn < 26 := by omega
          have ch : L.cps.toList[fn]? = some (97 + fn) := by rw [aL, List.getElem?_map, List.getElem?_range lf]; rfl
          refine ⟨_, rfl, ixAt (v := .str z0) h8 at0' ⟨_, rfl, _, rfl, .inr (.inr ⟨L, _, 97 + fn, rfl, rfl, two_ln (by omega), atI_nat ch, _, _, rfl, rfl, ?_, ?_⟩)⟩⟩
          · refine two_ln ?_
            show z0.length + 1 ≤ _
            omega
          · refine ⟨_, rfl, D, _, (1 : Int), 1, rfl, rfl, h8, ixN_nat (k := 1) (by rw [List.length_map]; omega), ?_⟩
            refine rest _ _ ⟨zs.set 1 (z0 ++ ⟨#[97 + fn]⟩), names_set (st := st) (f := fn) (y := by') lz n2 n1' (by omega) lf mby gS gz hz0 (by omega), (fun b o nb e => by rw [upd_ne (ne_of_none e hD)]; exact kb _ _ nb e), s8.eq (upd_ne nDp.symm), by rw [upd_same, List.map_set], rfl⟩
end
end K04

namespace K04
open PySem PySem.Spec PyProof.Rows L2 Tn TL
/-- which types are which -/
structure KitK (K : PySem.W.Frag) : Prop where
  tt : ∀ T ∈ tys, ∀ U ∈ ["int", "bool", "str", "list"], PySem.W.kitOne K (.type T) (.type U) = some (decide (T = U) || (decide (T = "bool") && decide (U = "int")))
def spLText : Sp := fun vs H Q _ => ∃ v d, vs = [v] ∧ Rdd H v d ∧ (∀ z, d = .str z → z.length ≤ 100000) ∧ ∀ H', Same H H' → Q (.bl (strD textS d)) H'
section
variable {P : Program} {w : World} {K : PySem.W.Frag} {mg : Str → Option Value} {base : Heap} {f : Addr} {fd : FuncData}
theorem ok_ltext (F : Fd K "_law_text" sLText f fd) (g : mg "_law_text" = some (.ref f)) (B : Bl mg) (T : KitK K) : Ok P w K mg base CX0 1 "_law_text" sLText ["value"] spLText := by
  refine ⟨f, fd, g, F, F.bindsN fun _ _ _ _ _ _ us hl => match us, hl with | [_], _ => rfl, F.ok scLText (fun vs H Q E h => ?_) (fun cdv A outer s H vs Q E hr h => ?_)⟩
  · obtain ⟨v, d, rfl, _⟩ := h
    rfl
  · have hu : (cxOf CX0 P w K mg base ["value", "sign"] "_law_text" (defScope sLText) f cdv A outer s H E).A.units + 64 < cLine := by
      have z := hr.un
      show (A.deeper _).units + 64 < cLine
      omega
    refine ⟨_, (pss_one (ps_ret (pe_and (pe_callB call_isi (by rfl) (B.u "isinstance" (by decide +kernel)) boot_isinstance (pa_cons (pv 0) (pa_cons (pe_bltn (by rfl) (B.u "str" (by decide +kernel)) (by decide +kernel) (v := .ty "str") rfl) pa_nil))) (pe_and (pe_cmpR op_lt (pe_callB call_len (by rfl) (B.u "len" (by decide +kernel)) boot_len (pa_cons (pv 0) pa_nil)) pe_int (nomark _)) (pe_one (pe_cmpR (op_eqNil hu) (pe_lc (own := [("sign", 1)]) (g := gName 1) rfl scLText.nd (pi_str (pv 0)) (blkOk_by (N := ["value", "sign"]) (sc := defScope sLText) (by decide +kernel)) (fun _ _ _ _ _ => (pg_name (i := 1) scLText.nd rfl (Or.inl rfl))) (fun _ _ _ _ _ => (pts_one (pt_not (pt_chain op_le_str op_le_str pe_str (pv 1) pe_str)))) (fun _ _ _ _ _ => (pv 1))) (pe_lst pa_nil) (nomark _))))))), ?_⟩
    obtain ⟨v, d, rfl, r, hz, q⟩ := h
    refine ⟨_, rfl, v, _, _, _, _, rfl, .ty _, r.tx, T.tt _ (tyd_mem d) "str" (by decide), _, rfl, iteB (fun e => ?_) fun e => ?_⟩
    · have e : tyd d = "str" := by
        have d2 : decide ("str" = "int") = false := by decide
        rw [d2, Bool.and_false, Bool.or_false] at e
        exact of_decide_eq_true e
      obtain ⟨z, rfl, rfl⟩ := str_of r e
      have hz := hz z rfl
      have lz := len_tl4 z
      have szz : z.cps.size = z.cps.toList.length := lz
      refine ⟨_, rfl, _, _, rfl, ⟨two_ln (by omega), rfl⟩, _, _, rfl, rfl, _, rfl, iteB (fun e1 => ?_) fun e1 => ?_⟩
      · have l40 : z.length ≤ 40 := by have := of_decide_eq_true e1; omega
        refine ⟨_, rfl, _, rfl, fun D hD => ?_⟩
        refine lc_gen walk_str (fun i => !(decide (32 ≤ z.cps.toList.getD i 0) && decide (z.cps.toList.getD i 0 ≤ 126))) (fun i y _ => True) (fun _ _ _ _ _ h => h) hD (by rw [szz, ← lz]; omega) (fun _ _ => True.intro) ?_ ?_
        · rintro i x H1 H2 K1 N1 hi k1 ⟨o, ho⟩ ⟨rfl, c, hc, rfl⟩ hK hN
          have gc : z.cps.toList.getD i 0 = c := by
            rw [List.getD_eq_getElem?_getD, Array.getElem?_toList, hc]
            rfl
          rw [gc] at hK hN
          refine ⟨rfl, _, rfl, _, _, rfl, rfl, _, rfl, ?_⟩
          show if (!decide ([c] < [32])) = true then _ else _
          rw [lt1]
          refine iteB (fun e1 => ⟨_, _, rfl, rfl, _, rfl, ?_⟩) fun e1 => ?_
          · show if (!(!decide ([126] < [c]))) = true then _ else _
            rw [lt1]
            have g1 : ¬ c < 32 := by simpa using e1
            refine iteB (fun e2 => ⟨_, rfl, hK ?_ _ _ (Same.refl _) True.intro⟩) fun e2 => hN ?_ _ (Same.refl _)
            · have : 126 < c := by simpa using e2
              simp
              omega
            · have : ¬ 126 < c := by simpa using e2
              simp
              omega
          · refine ⟨false, rfl, iteT ⟨_, rfl, hK ?_ _ _ (Same.refl _) True.intro⟩⟩
            have : c < 32 := by simpa using e1
            simp
            omega
        · intro ys H1 k1 h1 l1 _
          have k2 := del_sub k1
          refine ⟨two_ln (by show 0 ≤ _; decide), fun pe hpe => ⟨D, pe, ys, rfl, rfl, SqL.of (upd_grow hpe _ _ h1), SqL.of upd_same, ?_⟩⟩
          have eq : ys.isEmpty = strD textS (.str z) := by
            show ys.isEmpty = textS z
            unfold textS signs
            rw [decide_eq_true l40, Bool.true_and, Bool.eq_iff_iff, List.isEmpty_iff, List.all_eq_true]
            constructor
            · intro y0 c hc
              rw [y0] at l1
              have fe := List.eq_nil_of_length_eq_zero l1.symm
              rw [List.filter_eq_nil_iff] at fe
              obtain ⟨i, hi, e⟩ := List.mem_iff_getElem.mp hc
              have := fe i (List.mem_range.mpr (by omega))
              rw [List.getD_eq_getElem?_getD, List.getElem?_eq_getElem hi, e] at this
              simpa using this
            · intro al
              refine List.eq_nil_of_length_eq_zero (l1.trans ?_)
              rw [List.filter_eq_nil_iff.mpr ?_]
              · rfl
              · intro i hi
                have hi : i < z.cps.toList.length := by rw [← szz]; exact List.mem_range.mp hi
                have := al _ (List.getElem_mem hi)
                rw [List.getD_eq_getElem?_getD, List.getElem?_eq_getElem hi]
                simpa using this
          rw [eq]
          exact q _ (k2.trans (upd_grow hpe))
      · have l40 : ¬ z.length ≤ 40 := by have := of_decide_eq_false e1; omega
        have e : false = strD textS (.str z) := by
          show false = textS z
          unfold textS
          rw [decide_eq_false l40]
          rfl
        exact e ▸ q H (Same.refl H)
    · have e : tyd d ≠ "str" := fun h => by rw [h] at e; simp at e
      exact (strD_no (f := textS) e) ▸ q H (Same.refl H)
/-- net's second item has n items -/
def spLHouse (K : PySem.W.Frag) : Sp := fun vs H Q _ => ∃ (nt nm : Addr) (ys xs : List V) (v : V) (d : PyData), vs = [.ref nt, v] ∧ H nt = some (.lst ys) ∧ ys[1]? = some (.ref nm) ∧ SqL K H nm xs ∧ Rdd H v d ∧ Q (.bl (belowD xs.length d)) H
theorem ok_lhouse (F : Fd K "_law_house" sLHouse f fd) (g : mg "_law_house" = some (.ref f)) (B : Bl mg) (T : KitK K) : Ok P w K mg base CX0 1 "_law_house" sLHouse ["net", "value"] (spLHouse K) := by
  refine ⟨f, fd, g, F, F.bindsN fun _ _ _ _ _ _ us hl => match us, hl with | [_, _], _ => rfl, F.ok scLHouse (fun vs H Q E h => ?_) (fun cdv A outer s H vs Q E hr h => ?_)⟩
  · obtain ⟨nt, nm, ys, xs, v, d, rfl, _⟩ := h
    rfl
  · refine ⟨_, (pss_one (ps_ret (pe_and (pe_callB call_isi (by rfl) (B.u "isinstance" (by decide +kernel)) boot_isinstance (pa_cons (pv 1) (pa_cons (pe_bltn (by rfl) (B.u "int" (by decide +kernel)) (by decide +kernel) (v := .ty "int") rfl) pa_nil))) (pe_and (pe_not (pe_callB call_isi (by rfl) (B.u "isinstance" (by decide +kernel)) boot_isinstance (pa_cons (pv 1) (pa_cons (pe_bltn (by rfl) (B.u "bool" (by decide +kernel)) (by decide +kernel) (v := .ty "bool") rfl) pa_nil)))) (pe_one (pe_chain op_le op_lt pe_int (pv 1) (pe_callB call_len (by rfl) (B.u "len" (by decide +kernel)) boot_len (pa_cons (pe_ix ix_seq (pv 0) pe_int fun _ _ => rfl) pa_nil)))))))), ?_⟩
    obtain ⟨nt, nm, ys, xs, v, d, rfl, h1, h2, h3, r, q⟩ := h
    refine ⟨_, rfl, v, _, _, _, _, rfl, .ty _, r.tx, T.tt _ (tyd_mem d) "int" (by decide), _, rfl, iteB (fun e => ?_) fun e => ?_⟩
    · refine ⟨_, rfl, v, _, _, _, _, rfl, .ty _, r.tx, T.tt _ (tyd_mem d) "bool" (by decide), _, rfl, _, rfl, iteB (fun e1 => ?_) fun e1 => ?_⟩
      · have ti : tyd d = "int" := by
          have e1 := not_t e1
          cases d <;> simp [tyd] at e e1 ⊢
        obtain ⟨i, rfl, rfl⟩ := r.int_of ti
        refine ⟨_, rfl, _, _, rfl, rfl, _, rfl, iteB (fun e1 => ⟨_, rfl, ixAt h1 (atI_nat (j := 1) h2) ⟨_, _, rfl, .inl ⟨_, h3, rfl⟩, _, _, rfl, rfl, ?_⟩⟩) fun e1 => ?_⟩
        · have z : belowD xs.length (.int i) = decide (i < (xs.length : Int)) := by
            simp [belowD, of_decide_eq_true e1]
          rw [z] at q
          exact q
        · have z : belowD xs.length (.int i) = false := by
            have e2 := of_decide_eq_false e1
            simp only [belowD, decide_eq_false e2, Bool.false_and]
          rw [z] at q
          exact q
      · have z : belowD xs.length d = false := by
          have e1 := not_f e1
          cases d <;> simp [tyd, belowD] at e e1 ⊢
        rw [z] at q
        exact q
    · have z : belowD xs.length d = false := by
        cases d <;> simp [tyd, belowD] at e ⊢
      rw [z] at q
      exact q
end
end K04

namespace K04
open PySem PySem.Spec PyProof.Rows L2 Tn TL
abbrev sBoth : Stmt := top 35
theorem scBoth : FnScope ["tree", "u", "v"] ["tree"] (defScope sBoth) := ⟨rfl, rfl, rfl, by decide +kernel, rfl, by decide +kernel, by decide +kernel⟩
/-- all roads, then all of them the other way -/
def both (rs : List Tm.Road) : List Tm.Road := rs ++ rs.map fun r => (r.2, r.1)
def spBoth (K : PySem.W.Frag) : Sp := fun vs H Q _ => ∃ (t : Addr) (n : Nat) (rs : List Tm.Road), vs = [.ref t] ∧ TreeAt K H t n rs ∧ ∀ l ys H', Same H H' → H l = none → H' l = some (.lst ys) → RddAll H' ys ((both rs).map rd) → Q (.ref l) H'
section
variable {P : Program} {w : World} {K : PySem.W.Frag} {mg : Str → Option Value} {base : Heap} {f : Addr} {fd : FuncData}
theorem ok_both (F : Fd K "both_ways" sBoth f fd) (g : mg "both_ways" = some (.ref f)) (B : Bl mg) (C : TreeK K mg) : Ok P w K mg base CX0 1 "both_ways" sBoth ["tree"] (spBoth K) := by
  refine ⟨f, fd, g, F, F.bindsN fun _ _ _ _ _ _ us hl => match us, hl with | [_], _ => rfl, F.ok scBoth (fun vs H Q E h => ?_) (fun cdv A outer s H vs Q E hr h => ?_)⟩
  · obtain ⟨t, n, rs, rfl, _⟩ := h
    rfl
  · refine ⟨_, (pss_one (ps_ret (pe_lst (StX.pa_star (pe_fld (pv 0) rfl) (StX.pa_star (pe_lc (own := [("u", 1), ("v", 2)]) (g := gTup K 2 (gCons (gName 1) (gCons (gName 2) gNil))) rfl scBoth.nd (pi_seq (pe_fld (pv 0) rfl)) (blkOk_by (N := ["tree", "u", "v"]) (sc := defScope sBoth) (by decide +kernel)) (fun _ _ _ _ _ => (pg_tup rfl (pgs_cons (pg_name (i := 1) scBoth.nd rfl (Or.inl rfl)) (pgs_cons (pg_name (i := 2) scBoth.nd rfl (Or.inl rfl)) pgs_nil)))) (fun _ _ _ _ _ => pts_nil) (fun _ _ _ _ _ => (pe_tup (pa_cons (pv 2) (pa_cons (pv 1) pa_nil))))) pa_nil))))), ?_⟩
    obtain ⟨t, n, rs, rfl, T, q⟩ := h
    obtain ⟨dx, rt, nt, g1, g2, g3⟩ := T.ex
    have lrs : rs.length ≤ 63 := by have := T.ok.len; have := T.le; omega
    cases g2 with
    | @tup p xs ds hp ra =>
      have l := rdds_len ra
      rw [List.length_map] at l
      refine ⟨_, rfl, _, _, _, _, _, rfl, g1, C.cl, C.nr, rfl, rt, xs, rfl, .inl (SqT.of hp), ?_⟩
      refine ⟨_, rfl, _, _, _, _, _, rfl, g1, C.cl, C.nr, rfl, rt, xs, rfl, .inr (SqT.of hp), fun J w D hD => ?_⟩
      refine lc_gen w (fun _ => true) (fun i y H' => Rdd H' y (rd ((rs.getD i (0, 0)).2, (rs.getD i (0, 0)).1))) (fun i y _ _ k h => h.mono k) hD (by omega) (fun H' k => by rw [hp, del_sub k _ _ hp]) ?_ ?_
      · rintro i x H2 H3 K1 N1 hi k2 ⟨o, ho⟩ ⟨rfl, hx⟩ hK _
        have hdi : i < rs.length := by omega
        obtain ⟨x', hx', rx⟩ := rdds_get (ra.mono (del_sub k2)) (show (rs.map rd)[i]? = some (rd rs[i]) by rw [List.getElem?_map, List.getElem?_eq_getElem hdi]; rfl)
        rw [hx] at hx'
        obtain rfl : x = x' := Option.some.inj hx'
        have ed : rs.getD i (0, 0) = rs[i] := by rw [List.getD_eq_getElem?_getD, List.getElem?_eq_getElem hdi]; rfl
        rw [ed] at hK
        generalize hr2 : rs[i] = r at rx hK
        obtain ⟨u, v⟩ := r
        unfold rd at rx
        cases rx with
        | @tup pt ys es h r2 =>
          obtain ⟨y1, y2, rfl, r3, r4⟩ := rdds_two r2
          cases r3
          cases r4
          refine ⟨pt, _, rfl, SqT.of h, rfl, _, _, rfl, _, _, rfl, rfl, ?_⟩
          exact ⟨rfl, _, rfl, _, rfl, two_ln (by show 2 ≤ _; decide), fun pt2 hpt2 => hK rfl _ _ (upd_grow hpt2) (.tup (del_new ho hpt2) (.cons (.int _) (.cons (.int _) .nil)))⟩
      · intro ys H2 k2 h2 l2 r2
        rw [filt_all] at l2 r2
        rw [List.length_range] at l2
        have k12 := del_sub k2
        refine ⟨D, ys, rfl, .inr (SqL.of h2), by rw [List.length_append, List.append_nil]; show _ ≤ _; have : (126 : Nat) ≤ sizeLine := by decide
                                                 omega, fun pl hpl => ?_⟩
        refine q pl _ _ ((k12).trans (upd_grow hpl)) ?_ upd_same ?_
        · cases e : H pl with
          | none => rfl
          | some o => rw [k12 _ _ e] at hpl; cases hpl
        · unfold both
          rw [List.map_append, List.append_nil]
          refine rdds_app ((ra.mono k12).mono (upd_grow hpl)) (rdds_of (by rw [List.length_map, List.length_map]; omega) fun i y d h1 h3 => ?_)
          have hi := (List.getElem?_eq_some_iff.mp h1).1
          have hir : i < rs.length := by omega
          rw [List.getElem?_map, List.getElem?_map, List.getElem?_eq_getElem hir] at h3
          obtain rfl := Option.some.inj h3
          have z := r2 i i y (by rw [List.getElem?_eq_getElem (by rw [List.length_range]; omega)]; simp) h1
          rw [List.getD_eq_getElem?_getD, List.getElem?_eq_getElem hir] at z
          exact (z.mono del_le).mono (upd_grow hpl)
end
end K04

/-! {k: v for .. in ..} whose keys are tuples of numbers and texts -/
namespace L2
open PySem PySem.Spec PyProof.Rows
/-- one key, one value -/
theorem put_tup {X : Cx} {pins : List (Addr × Obj)} {σ : St} {H : Hp} {s : Shared} {E : Value → Shared → Prop} {D b : Addr} {kvs : List (List Key × V)} {k : List Key} {v : V} {r : Value} {Q : Unit → Shared → Prop} (room : X.A.units + 1 < cLine) (J : Inv X pins σ H s)
    (hD : H D = some (.dT kvs)) (hb : H b = some (.tup (k.map kV))) (few : kvs.length < sizeLine) (rv : RelV v r) (next : ∀ s', Inv X pins σ (upd H D (.dT (putK kvs k v))) s' → Q () s') : wpAny (model X.prog X.w) X.A (dictSet D (.ref b) r) Q E s := by
  obtain ⟨z, nsys, xs, rel, dd⟩ := dt_of J.hok hD
  have len : xs.length ≤ sizeLine := by rw [← Paired.length rel]; exact z
  have len2 : (putK kvs k v).length ≤ sizeLine := by have := length_putK kvs k v; omega
  refine wpAny_dictSet_heap (hsz := len) (show X.A.units < cLine by omega) (key_of J.hok hb) dd fun h' dd' sb => next _ ?_
  obtain ⟨q, es, ep, hq, a2, a3, a4, _, a5⟩ := dd'
  refine d_write J (by rw [hD]; trivial) sb ⟨q, hq⟩ ⟨len2, nsys, _, (rel.put k hb rv).keeps fun c ys ec => ?_, q, es, ep, hq, a2, a3, a4, a5⟩
  rw [upd_ne (ne_of ec hD fun z => nomatch z), ec]
section
variable {X : Cx} {kx vx tg iter : Expr} {ifs : List Expr} {scope : Scope} {own : List (Str × Nat)} {pos pos' : Pos} {wi : TI} {g : TG} {tt : TT} {tk tv : TE}
/-- the block's turns: D the new table -/
def tDcT (wi : TI) (g : TG) (tt : TT) (tk tv : TE) (vs : List Nat) : TE := fun σ H Q => wi σ H fun J H1 => ∀ D, H1 D = none → ∃ W : Nat → Nat → Hp → Prop, (∃ m, W 0 m (upd H1 D (.dT []))) ∧ ∀ i m H, W i m H →
  (J.stop i H ∧ Q (.ref D) H) ∨ (J.go i H ∧ ∃ Nx : Hp → Prop, (∀ H', Nx H' → ∃ m', m' < m ∧ W (i + 1) m' H') ∧ ∀ x H', J.yld i H x H' → g x (wipe σ vs) H' fun σ2 H2 => wipe σ2 vs = wipe σ vs ∧ tt σ2 H2 fun b H3 =>
    if b = true then tk σ2 H3 fun y H4 => tv σ2 H4 fun z H5 => ∃ kvs k t, y = .ref t ∧ H5 t = some (.tup (k.map kV)) ∧ H5 D = some (.dT kvs) ∧ kvs.length < sizeLine ∧ Nx (upd H5 D (.dT (putK kvs k z))) else Nx H3)
abbrev dictObj : Obj := { cls := .type "dict", data := .dict #[] }
theorem pe_dcT (calm : X.calm = true) (room : X.A.units + 1 < cLine) (nd : X.N.Nodup) (hi : PI X tg iter wi) (ok : BlkOk X.N X.env.scope scope own)
    (hg : ∀ (z : Shared) (H : Hp) (C : Addr) (cl : List (Str × Addr)) (fp : List Addr), PG (X.blk z H scope (compEnvC scope cl C X.env) fp) tg g)
    (ht : ∀ (z : Shared) (H : Hp) (C : Addr) (cl : List (Str × Addr)) (fp : List Addr), PTs (X.blk z H scope (compEnvC scope cl C X.env) fp) ifs tt)
    (hk : ∀ (z : Shared) (H : Hp) (C : Addr) (cl : List (Str × Addr)) (fp : List Addr), PE (X.blk z H scope (compEnvC scope cl C X.env) fp) kx tk)
    (hv : ∀ (z : Shared) (H : Hp) (C : Addr) (cl : List (Str × Addr)) (fp : List Addr), PE (X.blk z H scope (compEnvC scope cl C X.env) fp) vx tv) (fold : ∀ x, foldedSetIterable iter X.env x = pure x := by intro _; rfl) :
    PE X (.DictComp kx vx [⟨tg, iter, ifs, 0⟩] scope pos) (tDcT wi g tt tk tv (own.map (·.2))) := by
  refine ⟨fun pins s σ H Q I h => ?_⟩
  rw [arm_eval_DictComp]
  have free : ∀ y ∈ scope.names, y.2 = .free → ∃ c, X.env.cells.lookup y.1 = some c := fun y hy e => (ok.free y hy e).elim (fun k => I.ok.has _ (.inl k)) fun k => I.ok.has _ (.inr k)
  refine wpAny_comprehension_free rfl fold (closure_ok free) ok.kind (fun y hy e => by rw [ok.uniq y hy, e]) (thn (hi.run pins s σ H _ I h) fun xv s1 hx => thn hx fun itv s2 h2 => ?_)
  obtain ⟨it, fp, tn, J, H2, rfl, I2, T, st2, f2, q⟩ := h2
  refine wpAny_newObj_type (newEnv_comp ?_)
  obtain ⟨D, hD⟩ : ∃ D, s2.heap.objs.size = D := ⟨_, rfl⟩
  rw [hD]
  have fresh : H2 D = none := I2.hok.fresh (Nat.le_of_eq hD)
  obtain ⟨W, ⟨m0, w0⟩, turn⟩ := q D fresh
  obtain ⟨z3, hz3⟩ : ∃ z3 : Shared, { s2 with heap := s2.heap.push dictObj } = z3 := ⟨_, rfl⟩
  have J3 : Inv X pins σ (upd H2 D (.dT [])) z3 := by
    rw [← hz3]
    refine I2.laid (t' := s2.toks) (fun b o e => Heap.get?_push_of_some _ e) (Nat.le_of_eq hD) ?_
    rw [← hD]
    exact dt_empty s2.heap I2.big
  have z3h : z3.heap = s2.heap.push dictObj := by rw [← hz3]
  have below : ∀ b ∈ fp, b < s2.heap.objs.size := fun b hb => let ⟨o, e, _⟩ := T.obj _ _ st2 b hb; Heap.lt_size e
  have f3 : ∀ b ∈ fp, FpOk X pins (upd H2 D (.dT [])) b ∧ b < z3.heap.objs.size := fun b hb => by
    have lt := below b hb
    refine ⟨⟨?_, (f2 b hb).2⟩, by rw [z3h, Heap.size_push]; exact Nat.lt_succ_of_lt lt⟩
    rw [upd_ne (hD ▸ Nat.ne_of_lt lt)]
    exact (f2 b hb).1
  have st3 : tn 0 z3.heap := T.keep _ _ _ st2 fun b _ o e => by rw [z3h]; exact Heap.get?_push_of_some _ e
  have J4 := block_start J3 ok nd f3
  obtain ⟨cl, hcl⟩ : ∃ cl, cellsFrom (z3.heap.objs.size + 1) scope.names (cloFrom X.env.cells scope.names []) = cl := ⟨_, rfl⟩
  rw [hcl] at J4
  have pg := hg z3 (upd H2 D (.dT [])) z3.heap.objs.size cl fp
  have pt := ht z3 (upd H2 D (.dT [])) z3.heap.objs.size cl fp
  have pk := hk z3 (upd H2 D (.dT [])) z3.heap.objs.size cl fp
  have pv := hv z3 (upd H2 D (.dT [])) z3.heap.objs.size cl fp
  have away : ∀ b ∈ fp, (upd H2 D (.dT [])) b = none := fun b hb => (f3 b hb).1.1
  have post : ∀ s' m H', Inv X pins σ H' s' → Q (.ref D) H' → s'.heap.Ns z3.heap.objs.size m → FpOk X pins H' z3.heap.objs.size → compPost (model X.prog X.w) X.A X.xe none (EP X pins σ Q) (.ref D) z3.heap.objs.size (.ok .next) s' := fun s' m H' J' q' hn ⟨g0, g1, g2, g3, g4, g5⟩ =>
    ⟨m, hn, fun h'' sb => ⟨.ref D, H', J'.turned (t' := s'.toks) (fun b o hb e => (sb.2 b hb).trans e) g0 g1 g3 g4 g5, rfl, q'⟩⟩
  have goal : codeAny (model X.prog X.w) X.A (.compStart (.DictComp kx vx [⟨tg, iter, ifs, 0⟩] scope pos) 0 (.ref it) (.ref D) (compEnvC scope cl z3.heap.objs.size X.env)) (compPost (model X.prog X.w) X.A X.xe none (EP X pins σ Q) (.ref D) z3.heap.objs.size)
      { z3 with heap := pushCells (z3.heap.push dictObj) scope.names } := by
    generalize hce : compEnvC scope cl z3.heap.objs.size X.env = ce at J4 pg pt pk pv ⊢
    have ceL : ce.locals = z3.heap.objs.size := by rw [← hce]; rfl
    generalize hH3 : upd H2 D (.dT []) = H3 at J3 J4 pg pt pk pv w0 away f3
    generalize hz4 : ({ z3 with heap := pushCells (z3.heap.push dictObj) scope.names } : Shared) = z4 at J4 ⊢
    have st4 : tn 0 z4.heap := T.keep _ _ _ st3 fun b _ o e => by rw [← hz4]; exact pushCells_keeps _ _ _ _ (Heap.get?_push_of_some _ e)
    have still : ∀ {σ' : St} {H' : Hp} {s' : Shared}, Inv (X.blk z3 H3 scope ce fp) [] σ' H' s' → (∀ b ∈ fp, H' b = none) → ∀ b ∈ fp, FpOk (X.blk z3 H3 scope ce fp) [] H' b := fun {σ' H' s'} J' no b hb =>
      ⟨no b hb, (J'.ok.exf b hb).1, J'.ok.exfs b hb, .inl hb, (fun x c e => (J'.ok.exf b hb).2 x c e), fun p hp => absurd (show p ∈ ([] : List (Addr × Obj)) ++ [] from hp) (by simp)⟩
    refine codeAny_compStart_dict ?lp (T.self X.A 0 _ _ _ st4 ?lp)
    refine compLoop_anyD (fun n s' => ∃ i H', Inv (X.blk z3 H3 scope ce fp) [] (wipe σ (own.map (·.2))) H' s' ∧ tn i s'.heap ∧ (∀ b ∈ fp, H' b = none) ∧ W i n H') (fun n s5 ⟨i, H5, J5, st5, no5, w5⟩ => ?_) m0 ⟨0, H3, J4, st4, away, w0⟩
    rcases turn i n H5 w5 with ⟨stop, qq⟩ | ⟨go, Nx, hNx, step⟩
    · refine thnF (T.done (X.blk z3 H3 scope ce fp) rfl rfl rfl calm i [] s5 _ H5 (fun _ _ => False) J5 (still J5 no5) st5 stop) fun r s6 ⟨hr, J6⟩ => ?_
      subst hr
      have J7 : Inv X pins σ H5 s6 := J3.call' (ch := fp) J6.os J6.base J6.hok J6.bare fun b hb => let z := (f3 b hb).1.2; ⟨z.2.2.1, z.1, z.2.2.2.1, z.2.2.2.2⟩
      have noC : H5 z3.heap.objs.size = none := ceL ▸ (show H5 ce.locals = none from J6.free)
      obtain ⟨m, hn, _⟩ := J6.loc
      exact post s6 m H5 J7 qq (ceL ▸ (show s6.heap.Ns ce.locals m from hn)) (J3.fpOk (Nat.le_refl _) noC)
    · refine thnF (T.item (X.blk z3 H3 scope ce fp) rfl rfl rfl calm i [] s5 _ H5 (fun _ _ => False) J5 (still J5 no5) st5 go) fun r s6 ⟨u, hr, h6⟩ => ?_
      subst hr
      refine thnF h6 fun _ s7 ⟨x, H7, J7, r7, y7, st7, no7⟩ => ?_
      refine thnF (pg.run _ s7 _ H7 x u _ (J7.pinned (still J7 no7) (T.obj _ _ st7)) r7 (step x H7 y7)) fun _ s8 ⟨σ8, H8, J8, hw8, q8⟩ => ?_
      refine thnF (pt.run _ s8 σ8 H8 _ J8 q8) fun b s9 ⟨H9, J9, q9⟩ => ?_
      have over : ∀ {s' : Shared} {H' : Hp}, Inv (X.blk z3 H3 scope ce fp) ([] ++ pinsAt fp s7.heap) σ8 H' s' → Nx H' → ∃ m, m < n ∧ ∃ i H', Inv (X.blk z3 H3 scope ce fp) [] (wipe σ (own.map (·.2))) H' s' ∧ tn i s'.heap ∧ (∀ b ∈ fp, H' b = none) ∧ W i m H' := by
        intro s' H' J' nx
        obtain ⟨m', lt, w'⟩ := hNx H' nx
        have pin : ∀ b ∈ fp, ∀ o, s7.heap.get? b = some o → s'.heap.get? b = some o ∧ H' b = none := fun b hb o e =>
          let z := J'.pin (b, o) (List.mem_append_right _ (List.mem_append_right _ (mem_pinsAt hb e)))
          ⟨z.1, z.2.1⟩
        refine ⟨m', lt, i + 1, H', (J'.unpinned (pins := [])).weak (by rw [← hw8, wipe_length]) (fun j v e => (wipe_some (hw8 ▸ e)).1), T.keep _ _ _ st7 fun b hb o e => (pin b hb o e).1, fun b hb => ?_, w'⟩
        obtain ⟨o, e, _⟩ := T.obj _ _ st7 b hb
        exact (pin b hb o e).2
      cases b with
      | false =>
        rw [if_neg Bool.false_ne_true] at q9 ⊢
        exact over J9 q9
      | true =>
        rw [if_pos rfl] at q9 ⊢
        refine thnF (pk.run _ s9 σ8 H9 _ J9 q9) fun a s10 ⟨yk, H10, J10, r10, q10⟩ => ?_
        refine thnF (pv.run _ s10 σ8 H10 _ J10 q10) fun a2 s11 ⟨yv, H11, J11, r11, kvs, k, t, ek, ht, hD11, few, nx⟩ => ?_
        subst ek
        cases r10
        exact put_tup (X := X.blk z3 H3 scope ce fp) room J11 hD11 ht few r11 fun s12 J12 => over J12 nx
  subst hz3
  subst hcl
  exact goal
end
end L2

/-! {k: [] for .. in ..}, the keys tuples: a table of new lists -/
namespace L2
open PySem PySem.Spec PyProof.Rows
/-- the rows of such a table -/
def tabV (tab : List (List Key × Addr)) : List (List Key × V) := tab.map fun e => (e.1, V.ref e.2)
/-- at D: the table tab of lists, the one of the key k being f k -/
structure DL (H : Hp) (D : Addr) (tab : List (List Key × Addr)) (f : List Key → List V) : Prop where
  top : H D = some (.dT (tabV tab))
  nk : (tab.map (·.1)).Nodup
  nd : (tab.map (·.2)).Nodup
  nin : D ∉ tab.map (·.2)
  row : ∀ e ∈ tab, H e.2 = some (.lst (f e.1))
theorem tab_none {k : List Key} : ∀ {tab : List (List Key × Addr)}, k ∉ tab.map (·.1) → valV (tabV tab) k = none
  | [], _ => rfl
  | e :: tab, h => by
    have h1 : ¬ e.1 = k := fun z => h (by rw [List.map_cons, z]; exact List.mem_cons_self)
    show valV ((e.1, V.ref e.2) :: tabV tab) k = none
    rw [valV_neg h1]
    exact tab_none fun z => h (by rw [List.map_cons]; exact List.mem_cons_of_mem _ z)
theorem tab_some {k : List Key} {a : Addr} : ∀ {tab : List (List Key × Addr)}, (tab.map (·.1)).Nodup → (k, a) ∈ tab → valV (tabV tab) k = some (.ref a)
  | [], _, h => nomatch h
  | e :: tab, nd, h => by
    rw [List.map_cons] at nd
    have nd := List.nodup_cons.mp nd
    show valV ((e.1, V.ref e.2) :: tabV tab) k = _
    rcases List.mem_cons.mp h with h | h
    · subst h
      exact valV_pos rfl
    · rw [valV_neg fun z => nd.1 (by rw [z]; exact List.mem_map.mpr ⟨(k, a), h, rfl⟩)]
      exact tab_some nd.2 h
section
variable {J : It} {n : Nat} {G : Hp → Prop} {Y : Nat → Hp → V → Hp → Prop}
theorem dc_it (w : Walk J n G Y) {g : TG} {tt : TT} {tk tv : TE} {vs : List Nat} {σ : St} {H1 : Hp} {D : Addr} {Qd : Hp → Prop} (Pv : Nat → Hp → Prop) (h0 : Pv 0 (upd H1 D (.dT []))) (hG : ∀ i H, i ≤ n → Pv i H → G H)
    (hs : ∀ i x H H', i < n → Pv i H → Y i H x H' → g x (wipe σ vs) H' fun σ2 H2 => wipe σ2 vs = wipe σ vs ∧ tt σ2 H2 fun b H3 =>
      if b = true then tk σ2 H3 fun y H4 => tv σ2 H4 fun z H5 => ∃ kvs k t, y = .ref t ∧ H5 t = some (.tup (k.map kV)) ∧ H5 D = some (.dT kvs) ∧ kvs.length < sizeLine ∧ Pv (i + 1) (upd H5 D (.dT (putK kvs k z))) else Pv (i + 1) H3) (hd : ∀ H, Pv n H → Qd H) :
    ∃ W : Nat → Nat → Hp → Prop, (∃ m, W 0 m (upd H1 D (.dT []))) ∧ ∀ i m H, W i m H →
      (J.stop i H ∧ Qd H) ∨ (J.go i H ∧ ∃ Nx : Hp → Prop, (∀ H', Nx H' → ∃ m', m' < m ∧ W (i + 1) m' H') ∧ ∀ x H', J.yld i H x H' → g x (wipe σ vs) H' fun σ2 H2 => wipe σ2 vs = wipe σ vs ∧ tt σ2 H2 fun b H3 =>
        if b = true then tk σ2 H3 fun y H4 => tv σ2 H4 fun z H5 => ∃ kvs k t, y = .ref t ∧ H5 t = some (.tup (k.map kV)) ∧ H5 D = some (.dT kvs) ∧ kvs.length < sizeLine ∧ Nx (upd H5 D (.dT (putK kvs k z))) else Nx H3) := by
  refine ⟨fun i m H => m = n - i ∧ i ≤ n ∧ Pv i H, ⟨n, by simp, Nat.zero_le _, h0⟩, ?_⟩
  rintro i m H ⟨rfl, hi, p⟩
  have q := hG i H hi p
  by_cases hlt : i < n
  · refine .inr ⟨w.goes i H hlt q, Pv (i + 1), fun H' p' => ⟨n - (i + 1), by omega, rfl, hlt, p'⟩, fun x H' y => hs i x H H' hlt p (w.yields i H x H' hlt q y)⟩
  · have e : i = n := by omega
    subst e
    exact .inl ⟨w.stops H q, hd H p⟩
theorem dc_empties (w : Walk J n G Y) {g : TG} {tt : TT} {tk tv : TE} {vs : List Nat} {σ : St} {H : Hp} {D : Addr} {Qd : Hp → Prop} (ks : List (List Key)) (lk : ks.length = n) (nk : ks.Nodup) (hD : H D = none) (hn : n ≤ 16777215) (hG : ∀ H', Same H (del H' D) → G H')
    (he : ∀ i x H1 H2 (K : V → V → Hp → Prop) (N : Hp → Prop), i < n → Same H (del H1 D) → Y i H1 x H2 → (∀ k t a, ks[i]? = some k → H1 t = some (.tup (k.map kV)) → H1 a = none → K (.ref t) (.ref a) (upd H1 a (.lst []))) →
      g x (wipe σ vs) H2 fun σ2 H2' => wipe σ2 vs = wipe σ vs ∧ tt σ2 H2' fun b H3 => if b = true then tk σ2 H3 fun y H4 => tv σ2 H4 fun z H5 => K y z H5 else N H3)
    (q : ∀ tab H', tab.map (·.1) = ks → (∀ e ∈ tab, H e.2 = none) → Same H (del H' D) → Same H H' → DL H' D tab (fun _ => []) → Qd H') :
    ∃ W : Nat → Nat → Hp → Prop, (∃ m, W 0 m (upd H D (.dT []))) ∧ ∀ i m H, W i m H →
      (J.stop i H ∧ Qd H) ∨ (J.go i H ∧ ∃ Nx : Hp → Prop, (∀ H', Nx H' → ∃ m', m' < m ∧ W (i + 1) m' H') ∧ ∀ x H', J.yld i H x H' → g x (wipe σ vs) H' fun σ2 H2 => wipe σ2 vs = wipe σ vs ∧ tt σ2 H2 fun b H3 =>
        if b = true then tk σ2 H3 fun y H4 => tv σ2 H4 fun z H5 => ∃ kvs k t, y = .ref t ∧ H5 t = some (.tup (k.map kV)) ∧ H5 D = some (.dT kvs) ∧ kvs.length < sizeLine ∧ Nx (upd H5 D (.dT (putK kvs k z))) else Nx H3) := by
  refine dc_it w (fun i H' => Same H (del H' D) ∧ ∃ tab : List (List Key × Addr), tab.map (·.1) = ks.take i ∧ (∀ e ∈ tab, H e.2 = none) ∧ DL H' D tab (fun _ => [])) ?_ (fun i H' _ h => hG H' h.1) ?_ ?_
  · refine ⟨fun b o e => ?_, [], by simp, (fun _ z => nomatch z), upd_same, .nil, .nil, (fun z => nomatch z), fun _ z => nomatch z⟩
    rw [del_ne (ne_of_none e hD), upd_ne (ne_of_none e hD)]
    exact e
  · rintro i x H1 H2 hi ⟨k1, tab, l1, f1, S⟩ hy
    refine he i x H1 H2 _ _ hi k1 hy fun k t a hk ht ha => ?_
    have lt : tab.length = i := by
      have := congrArg List.length l1
      rw [List.length_map, List.length_take] at this
      omega
    have nD : a ≠ D := fun e => by rw [e, S.top] at ha; cases ha
    have na : a ∉ tab.map (·.2) := fun m => by
      obtain ⟨e, he, rfl⟩ := List.mem_map.mp m
      rw [S.row e he] at ha
      cases ha
    have Ha : H a = none := by
      cases e : H a with
      | none => rfl
      | some o =>
        have := k1 a o e
        rw [del_ne nD, ha] at this
        cases this
    have hik : i < ks.length := (List.getElem?_eq_some_iff.mp hk).1
    have ek : ks[i] = k := (List.getElem?_eq_some_iff.mp hk).2
    have tk1 : ks.take (i + 1) = ks.take i ++ [k] := by rw [List.take_succ_eq_append_getElem hik, ek]
    have nkt : k ∉ tab.map (·.1) := fun m => by
      rw [l1] at m
      have nd2 := nk.sublist (List.take_sublist (i + 1) ks)
      rw [tk1] at nd2
      exact (List.nodup_append.mp nd2).2.2 k m k (by simp) rfl
    have pn := putK_new (V.ref a) (tab_none nkt)
    have tn : t ≠ D := fun e => by rw [e, S.top] at ht; cases ht
    refine ⟨tabV tab, k, t, rfl, by rw [upd_ne (ne_of_none ht ha)]; exact ht, by rw [upd_ne nD.symm]; exact S.top, by unfold tabV; rw [List.length_map, lt]; exact lt_ln (by omega), (fun b o z => ?_), tab ++ [(k, a)], ?_, ?_, ?_⟩
    · have z1 := k1 b o z
      have nb : b ≠ D := ne_of_none z hD
      rw [del_ne nb] at z1 ⊢
      rw [upd_ne nb, upd_ne (ne_of_none z1 ha)]
      exact z1
    · rw [List.map_append, l1, tk1]
      rfl
    · intro e he
      rcases List.mem_append.mp he with he | he
      · exact f1 e he
      · rw [List.mem_singleton.mp he]
        exact Ha
    · rw [pn]
      refine ⟨by rw [upd_same]; unfold tabV; rw [List.map_append]; rfl, ?_, ?_, ?_, ?_⟩
      · rw [List.map_append]
        refine List.nodup_append.mpr ⟨S.nk, by simp, fun b hb c hc e => ?_⟩
        have hc := List.mem_singleton.mp hc
        rw [e, hc] at hb
        exact nkt hb
      · rw [List.map_append]
        refine List.nodup_append.mpr ⟨S.nd, by simp, fun b hb c hc e => ?_⟩
        have hc := List.mem_singleton.mp hc
        rw [e, hc] at hb
        exact na hb
      · intro m
        rw [List.map_append] at m
        rcases List.mem_append.mp m with m | m
        · exact S.nin m
        · exact nD (List.mem_singleton.mp m).symm
      · intro e he
        rcases List.mem_append.mp he with he | he
        · have ne : e.2 ≠ D := fun z => S.nin (by rw [← z]; exact List.mem_map.mpr ⟨e, he, rfl⟩)
          have z := S.row e he
          rw [upd_ne ne, upd_ne (ne_of_none z ha)]
          exact z
        · rw [List.mem_singleton.mp he, upd_ne nD, upd_same]
  · rintro H1 ⟨k1, tab, l1, f1, S⟩
    exact q tab H1 (by rw [l1, ← lk, List.take_length]) f1 k1 (del_sub k1) S
end
end L2

namespace K04
open PySem PySem.Spec PyProof.Rows L2 Tn TL
abbrev sNInit : Stmt := cdef 34 0
theorem scNInit : FnScope ["self", "tree", "names", "_", "road"] ["self", "tree", "names"] (defScope sNInit) := ⟨rfl, rfl, rfl, by decide +kernel, rfl, by decide +kernel, by decide +kernel⟩
/-! ### the class Network -/
structure NetK (K : PySem.W.Frag) (mg : Str → Option Value) : Prop where
  g : mg "Network" = some (.ref (CN K))
  cl : Cls K (CN K)
  ntree : NoAttr K (CN K) "tree"
  nnames : NoAttr K (CN K) "names"
  nlogs : NoAttr K (CN K) "_logs"
  nwait : NoAttr K (CN K) "_waiting"
  nhalt : NoAttr K (CN K) "_halted"
  ndeed : NoAttr K (CN K) "_deeds"
  mkN : Mk K (CN K) (MN K "__init__")
def fsN (t nm lg wt ht dd : Addr) : List (Str × V) := [("tree", .ref t), ("names", .ref nm), ("_logs", .ref lg), ("_waiting", .ref wt), ("_halted", .ref ht), ("_deeds", .ref dd)]
/-- a road as a key -/
def rk (r : Tm.Road) : List Key := [Sum.inl (r.1 : Int), Sum.inl (r.2 : Int)]
/-- at x a network whose parts stand at these addresses: la the logs, tab the waiting lists; LG, WT what lies there, HT the halted, DD the deeds -/
structure NetAt (K : PySem.W.Frag) (H : Hp) (x t nm lg wt ht dd : Addr) (la : List Addr) (tab : List (List Key × Addr)) (n : Nat) (rs : List Tm.Road) (ns : List Str) (LG : Nat → List V) (WT : List Key → List V) (HT DD : List V) : Prop where
  at_ : ∃ dx, H x = some (.ins (CN K) dx (fsN t nm lg wt ht dd))
  tree : TreeAt K H t n rs
  names : H nm = some (.tup (ns.map V.str))
  nok : NamesOk n ns
  logs : LL H lg la LG
  lla : la.length = n
  wait : DL H wt tab WT
  keys : tab.map (·.1) = (both rs).map rk
  halt : H ht = some (.lst HT)
  deed : H dd = some (.lst DD)
  apart : (lg :: wt :: ht :: dd :: (la ++ tab.map (·.2))).Nodup
def spNInit (K : PySem.W.Frag) : Sp := fun vs H Q E => ∃ (x dx t : Addr) (v : V) (d : PyData) (n : Nat) (rs : List Tm.Road), vs = [.ref x, .ref t, v] ∧ H x = some (.ins (CN K) dx []) ∧ TreeAt K H t n rs ∧ Rdd H v d ∧ Tame d ∧
  ((¬ ∃ ns, isNames d ns ∧ NamesOk n ns) → Refuses K "InvalidNames" "given" v H E) ∧
  ∀ ns nm lg wt ht dd la tab H', isNames d ns → But x H H' → (∀ a ∈ lg :: wt :: ht :: dd :: (la ++ tab.map (·.2)), H a = none) → NetAt K H' x t nm lg wt ht dd la tab n rs ns (fun _ => []) (fun _ => []) [] [] → Q .non H'
theorem keepI_but {x C d : Addr} {f : List (Str × V)} {H H' : Hp} (hx : H x = some (.ins C d f)) (k : But x H H') : KeepI H H' := fun b o e n =>
  k b o (fun z => by rw [z, hx] at e; cases e; exact n _ _ _ rfl) e
theorem but_none {x a : Addr} {o : HO} {H H' : Hp} (k : But x H H') (hx : H' x = some o) (h : H' a = none) : H a = none := by
  cases e : H a with
  | none => rfl
  | some u =>
    rw [k a u (fun z => by rw [z, hx] at h; cases h) e] at h
    cases h
theorem TreeAt.but {K : PySem.W.Frag} {H H' : Hp} {x C d t : Addr} {f : List (Str × V)} {n : Nat} {rs : List Tm.Road} (hx : H x = some (.ins C d f)) (ne : t ≠ x) (k : But x H H') (T : TreeAt K H t n rs) : TreeAt K H' t n rs :=
  let ⟨dx, rt, nt, h1, h2, h3⟩ := T.ex
  ⟨⟨dx, rt, nt, k _ _ ne h1, h2.keepI (keepI_but hx k), h3.keepI (keepI_but hx k)⟩, T.ok, T.jo, T.le⟩
theorem _root_.L2.LL.but {H H' : Hp} {x C d L : Addr} {f : List (Str × V)} {as : List Addr} {g : Nat → List V} (hx : H x = some (.ins C d f)) (k : But x H H') (S : LL H L as g) : LL H' L as g :=
  ⟨keepI_but hx k _ _ S.top (fun _ _ _ z => nomatch z), S.nd, S.nin, fun h a e => keepI_but hx k _ _ (S.row h a e) (fun _ _ _ z => nomatch z)⟩
theorem _root_.L2.DL.but {H H' : Hp} {x C d L : Addr} {f : List (Str × V)} {tab : List (List Key × Addr)} {g : List Key → List V} (hx : H x = some (.ins C d f)) (k : But x H H') (S : DL H L tab g) : DL H' L tab g :=
  ⟨keepI_but hx k _ _ S.top (fun _ _ _ z => nomatch z), S.nk, S.nd, S.nin, fun e m => keepI_but hx k _ _ (S.row e m) (fun _ _ _ z => nomatch z)⟩
theorem apart_of {lg wt ht dd : Addr} {la ta : List Addr} (h1 : la.Nodup) (h2 : ta.Nodup) (b : ∀ a ∈ la, a ∉ ta) (a1 : lg ∉ la) (a2 : lg ∉ ta) (a3 : wt ∉ la) (a4 : wt ∉ ta) (a5 : ht ∉ la) (a6 : ht ∉ ta) (a7 : dd ∉ la) (a8 : dd ∉ ta)
    (c1 : lg ≠ wt) (c2 : lg ≠ ht) (c3 : lg ≠ dd) (c4 : wt ≠ ht) (c5 : wt ≠ dd) (c6 : ht ≠ dd) : (lg :: wt :: ht :: dd :: (la ++ ta)).Nodup := by
  simp only [List.nodup_cons, List.mem_cons, List.mem_append, not_or]
  exact ⟨⟨c1, c2, c3, a1, a2⟩, ⟨c4, c5, a3, a4⟩, ⟨c6, a5, a6⟩, ⟨a7, a8⟩, List.nodup_append.mpr ⟨h1, h2, fun a ha c hc e => b a ha (e ▸ hc)⟩⟩
theorem rk_inj {a b : Tm.Road} (h : rk a = rk b) : a = b := by
  unfold rk at h
  simp only [List.cons.injEq, Sum.inl.injEq, and_true] at h
  exact Prod.ext (by omega) (by omega)
theorem both_nd {n : Nat} {rs : List Tm.Road} (ok : Tm.RoadsOk n rs) : ((both rs).map rk).Nodup := by
  have nd : rs.Nodup := ok.asc.imp fun {a b} h e => by
    subst e
    simp [Tm.ltR] at h
  have nb : (both rs).Nodup := by
    unfold both
    refine List.nodup_append.mpr ⟨nd, ?_, fun a ha c hc e => ?_⟩
    · exact List.Pairwise.map _ (fun a b h e => h (Prod.ext (congrArg Prod.snd e) (congrArg Prod.fst e))) nd
    · obtain ⟨r, hr, z⟩ := List.mem_map.mp hc
      have h1 := (ok.bnd _ ha).1
      have h2 := (ok.bnd _ hr).1
      rw [e, ← z] at h1
      simp only at h1
      omega
  exact List.Pairwise.map _ (fun a b h e => h (rk_inj e)) nb
section
variable {P : Program} {w : World} {K : PySem.W.Frag} {mg : Str → Option Value} {base : Heap} {fd : FuncData}
theorem ok_ninit (F : Md K "__init__" "Network.__init__" sNInit (MN K "__init__") fd) (C : TreeK K mg) (CK : NetK K mg) (B : Bl mg) (O_InvalidNames : One P w K mg base "InvalidNames" "given") (o_are_names : Ok P w K mg base CX0 3 "are_names" sAreNames ["value", "many"] spAreNames)
    (o_both_ways : Ok P w K mg base CX0 1 "both_ways" sBoth ["tree"] (spBoth K)) : FnOk P w K mg base (L2N.CX P w) 4 (MN K "__init__") fd ["self", "tree", "names"] (spNInit K) := by
  refine F.ok scNInit (fun vs H Q E h => ?_) (fun cdv A outer s H vs Q E hr h => ?_)
  · obtain ⟨x, dx, t, v, d, n, rs, rfl, _⟩ := h
    rfl
  · have tk : L2N.Takes (cxOf (L2N.CX P w) P w K mg base ["self", "tree", "names", "_", "road"] "Network.__init__" (defScope sNInit) (MN K "__init__") cdv A outer s H E) (fun cls d _ H => E cls d H) := L2N.takes_of rfl rfl rfl rfl
    have hu : (cxOf (L2N.CX P w) P w K mg base ["self", "tree", "names", "_", "road"] "Network.__init__" (defScope sNInit) (MN K "__init__") cdv A outer s H E).A.units + 1 < cLine := by
      have z := hr.un
      show (A.deeper _).units + 1 < cLine
      omega
    refine ⟨_, (pss_cons (ps_if (pt_not (pt_val (pe_o o_are_names (hr.mono (by decide)) (by rfl) (pa_cons (pv 2) (pa_cons (pe_fld (pv 1) rfl) pa_nil)))))
        (pss_one (L2N.ps_raise rfl tk (by exact (pmk_e1 O_InvalidNames (hr.mono (by decide)) (pv 2) (by rfl)))))
        pss_nil)
      (pss_cons (ps_fld (pv 0) (pv 1) rfl)
      (pss_cons (ps_fld (pv 0) (pe_callTy call_tuple_of (by rfl) (B.u "tuple" (by decide +kernel)) (by decide +kernel) (pa_cons (pv 2) pa_nil)) rfl)
      (pss_cons (ps_fld (pv 0) (pe_lc (own := [("_", 3)]) (g := gName 3) rfl scNInit.nd (pi_seq (pv 2)) (blkOk_by (N := ["self", "tree", "names", "_", "road"]) (sc := defScope sNInit) (by decide +kernel)) (fun _ _ _ _ _ => (pg_name (i := 3) scNInit.nd rfl (Or.inl rfl))) (fun _ _ _ _ _ => pts_nil) (fun _ _ _ _ _ => (pe_lst pa_nil))) rfl)
      (pss_cons (ps_fld (pv 0) (pe_dcT (own := [("road", 4)]) (g := gName 4) rfl hu scNInit.nd (pi_seq (pe_o o_both_ways (hr.mono (by decide)) (by rfl) (pa_cons (pv 1) pa_nil))) (blkOk_by (N := ["self", "tree", "names", "_", "road"]) (sc := defScope sNInit) (by decide +kernel)) (fun _ _ _ _ _ => (pg_name (i := 4) scNInit.nd rfl (Or.inl rfl))) (fun _ _ _ _ _ => pts_nil) (fun _ _ _ _ _ => (pv 4)) (fun _ _ _ _ _ => (pe_lst pa_nil))) rfl)
      (pss_cons (ps_fld (pv 0) (pe_lst pa_nil) rfl)
      (pss_one (ps_fld (pv 0) (pe_lst pa_nil) rfl)))))))), ?_⟩
    obtain ⟨x, dx, t, v, d, n, rs, rfl, hx, T, rv, tm, bad, q⟩ := h
    obtain ⟨dxt, rt, nt, g1, g2, g3⟩ := T.ex
    have t_x : t ≠ x := fun z => by
      rw [z, hx] at g1
      have z2 := congrArg (fun o => match o with | some (HO.ins _ _ f) => f.length | _ => 0) g1
      cases z2
    refine ⟨_, rfl, ⟨_, rfl, _, _, _, _, _, rfl, g1, C.cl, C.nh, rfl, n, v, d, rfl, rv, tm, (by have := T.le; omega), fun b H1 k1 hb => ⟨_, rfl, iteB (fun e => ?_) fun e => ?_⟩⟩⟩
    · refine ⟨_, rfl, (bad fun z => ?_).mono k1⟩
      rw [hb.mpr z] at e
      cases e
    obtain ⟨ns, hns, nok⟩ := hb.mp (not_f e)
    have lD : listD d = true := by rcases hns with rfl | rfl <;> rfl
    obtain ⟨p, xs, ds, rfl, hp, ra, hd⟩ := row_of rv lD
    have eds := (isNames_row hd).mp hns
    have exs := rdds_strs (eds ▸ ra)
    have lxs : xs.length = n := by rw [exs, List.length_map, nok.len]
    have n64 := T.le
    have hx1 := k1 _ _ hx
    refine ⟨_, rfl, _, rfl, x, _, dx, _, rfl, hx1, CK.cl, CK.ntree, (by show 0 < 1000; decide), ?_⟩
    have hx2 := upd_same (H := H1) (a := x) (o := .ins (CN K) dx (putF "tree" (.ref t) []))
    have b2 : But x H (upd H1 x (.ins (CN K) dx (putF "tree" (.ref t) []))) := (But.of k1).trans But.upd
    generalize upd H1 x (.ins (CN K) dx (putF "tree" (.ref t) [])) = H2 at hx2 b2 ⊢
    have hp2 : RowAt H2 p xs := by
      rcases hp with h | h
      · exact .inl (keepI_but hx b2 _ _ h fun _ _ _ z => nomatch z)
      · exact .inr (keepI_but hx b2 _ _ h fun _ _ _ z => nomatch z)
    dsimp only [tNil, L2.start]
    refine tSeq_by (fun σ H' => ∃ nm, H' x = some (.ins (CN K) dx [("tree", .ref t), ("names", .ref nm)]) ∧ But x H H' ∧ H' nm = some (.tup (ns.map V.str)) ∧ σ = [some (.ref x), some (.ref t), some (.ref p), none, none]) ?_ fun rest => ?_
    · rintro σ H3 ⟨nm, hx3, b3, hnm, rfl⟩
      have hp3 : RowAt H3 p xs := by
        rcases hp with h | h
        · exact .inl (keepI_but hx b3 _ _ h fun _ _ _ z => nomatch z)
        · exact .inr (keepI_but hx b3 _ _ h fun _ _ _ z => nomatch z)
      have nm_x : nm ≠ x := fun z => by rw [z, hx3] at hnm; cases hnm
      refine ⟨_, rfl, p, xs, rfl, hp3.sq, fun J w lg hlg => ?_⟩
      refine lc_empties w hlg (by omega) (fun H' k => ?_) ?_ ?_
      · rcases hp3 with h1 | h1
        · rw [h1, del_sub k _ _ h1]
        · rw [h1, del_sub k _ _ h1]
      · rintro i y H4 H5 K1 N1 hi k4 ⟨rfl, _⟩ hK
        exact ⟨rfl, two_ln (by decide), fun a ha => hK a ha⟩
      intro la H4 lla f4 _ k4 S4
      have lla : la.length = n := lla.trans lxs
      refine ⟨_, rfl, x, _, dx, _, rfl, k4 _ _ hx3, CK.cl, CK.nlogs, (by show 2 < 1000; decide), ?_⟩
      have hx5 := upd_same (H := H4) (a := x) (o := .ins (CN K) dx (putF "_logs" (.ref lg) [("tree", .ref t), ("names", .ref nm)]))
      have b45 : But x H4 (upd H4 x (.ins (CN K) dx (putF "_logs" (.ref lg) [("tree", .ref t), ("names", .ref nm)]))) := But.upd
      have b5 : But x H (upd H4 x (.ins (CN K) dx (putF "_logs" (.ref lg) [("tree", .ref t), ("names", .ref nm)]))) := (b3.trans (But.of k4)).trans b45
      have S5 := LL.but (k4 _ _ hx3) b45 S4
      have nm5 := b45 _ _ nm_x (k4 _ _ hnm)
      generalize upd H4 x (.ins (CN K) dx (putF "_logs" (.ref lg) [("tree", .ref t), ("names", .ref nm)])) = H5 at hx5 b5 S5 nm5 ⊢
      have T5 := TreeAt.but hx t_x b5 T
      have some_la : ∀ a ∈ la, ∃ o, H5 a = some o := fun a m => by
        obtain ⟨j, lj, e⟩ := List.mem_iff_getElem.mp m
        exact ⟨_, S5.row j a (by rw [List.getElem?_eq_getElem lj, e])⟩
      have la0 : ∀ a ∈ la, H a = none := fun a m => but_none b3 hx3 (f4 a m)
      have lg0 := but_none b3 hx3 hlg
      refine ⟨_, rfl, t, n, rs, rfl, T5, fun l ys H6 k6 _ hl6 ra6 => ⟨l, ys, rfl, .inl (SqL.of hl6), fun J2 w2 wt hwt => ?_⟩⟩
      have lys : ys.length = ((both rs).map rk).length := by rw [rdds_len ra6, List.length_map, List.length_map]
      have lrs : ((both rs).map rk).length ≤ 126 := by
        unfold both
        rw [List.length_map, List.length_append, List.length_map]
        have := T.ok.len
        omega
      refine dc_empties w2 ((both rs).map rk) lys.symm (both_nd T.ok) hwt (by omega) (fun H' k => ?_) ?_ ?_
      · rw [hl6, del_sub k _ _ hl6]
      · rintro i y H7 H8 K1 N1 hi k7 ⟨rfl, hy⟩ hK
        have hib : i < (both rs).length := by
          rw [List.length_map] at lys
          omega
        obtain ⟨y', hy', ry⟩ := rdds_get (ra6.mono (del_sub k7)) (show ((both rs).map rd)[i]? = some (rd (both rs)[i]) by rw [List.getElem?_map, List.getElem?_eq_getElem hib]; rfl)
        rw [hy] at hy'
        obtain rfl : y = y' := Option.some.inj hy'
        have ek : ((both rs).map rk)[i]? = some (rk (both rs)[i]) := by rw [List.getElem?_map, List.getElem?_eq_getElem hib]; rfl
        generalize (both rs)[i] = r at ry ek
        obtain ⟨u, v⟩ := r
        unfold rd at ry
        cases ry with
        | @tup pt zs es h r2 =>
          obtain ⟨y1, y2, rfl, r3, r4⟩ := rdds_two r2
          cases r3
          cases r4
          exact ⟨rfl, _, rfl, two_ln (by decide), fun a ha => hK (rk (u, v)) pt a ek h ha⟩
      intro tab H7 ltab f7 _ k67 S7
      have k57 : Same H5 H7 := k6.trans k67
      refine ⟨_, rfl, x, _, dx, _, rfl, k57 _ _ hx5, CK.cl, CK.nwait, (by show 3 < 1000; decide), ?_⟩
      have o8 := upd_same (H := H7) (a := x) (o := .ins (CN K) dx (putF "_waiting" (.ref wt) (putF "_logs" (.ref lg) [("tree", .ref t), ("names", .ref nm)])))
      have b78 : But x H7 (upd H7 x (.ins (CN K) dx (putF "_waiting" (.ref wt) (putF "_logs" (.ref lg) [("tree", .ref t), ("names", .ref nm)])))) := But.upd
      generalize upd H7 x (.ins (CN K) dx (putF "_waiting" (.ref wt) (putF "_logs" (.ref lg) [("tree", .ref t), ("names", .ref nm)]))) = H8 at o8 b78 ⊢
      have hx7 := k57 _ _ hx5
      have b58 : But x H5 H8 := (But.of k57).trans b78
      have S8 := LL.but hx5 b58 S5
      have D8 := DL.but hx7 b78 S7
      have nm8 := b58 _ _ nm_x nm5
      have b8 : But x H H8 := b5.trans b58
      have wt5 : H5 wt = none := by
        cases e : H5 wt with
        | none => rfl
        | some o => rw [k6 _ _ e] at hwt; cases hwt
      have tab5 : ∀ a ∈ tab.map (·.2), H5 a = none := fun a m => by
        obtain ⟨e, he, rfl⟩ := List.mem_map.mp m
        cases z : H5 e.2 with
        | none => rfl
        | some o =>
          have := f7 e he
          rw [k6 _ _ z] at this
          cases this
      refine ⟨two_ln (by decide), fun ht hht => ⟨_, rfl, x, _, dx, _, rfl, upd_grow hht _ _ o8, CK.cl, CK.nhalt, (by show 4 < 1000; decide), ?_⟩⟩
      have k89 := upd_grow (o := .lst []) hht
      have ht9 := upd_same (H := H8) (a := ht) (o := .lst [])
      generalize upd H8 ht (.lst []) = H9 at k89 ht9 ⊢
      have ha := upd_same (H := H9) (a := x) (o := .ins (CN K) dx (putF "_halted" (.ref ht) (putF "_waiting" (.ref wt) (putF "_logs" (.ref lg) [("tree", .ref t), ("names", .ref nm)]))))
      have b9a : But x H9 (upd H9 x (.ins (CN K) dx (putF "_halted" (.ref ht) (putF "_waiting" (.ref wt) (putF "_logs" (.ref lg) [("tree", .ref t), ("names", .ref nm)]))))) := But.upd
      generalize upd H9 x (.ins (CN K) dx (putF "_halted" (.ref ht) (putF "_waiting" (.ref wt) (putF "_logs" (.ref lg) [("tree", .ref t), ("names", .ref nm)])))) = Ha at ha b9a ⊢
      have b8a : But x H8 Ha := (But.of k89).trans b9a
      refine ⟨two_ln (by decide), fun dd hdd => ⟨_, rfl, x, _, dx, _, rfl, upd_grow hdd _ _ ha, CK.cl, CK.ndeed, (by show 5 < 1000; decide), ?_⟩⟩
      have kab := upd_grow (o := .lst []) hdd
      have ddb := upd_same (H := Ha) (a := dd) (o := .lst [])
      generalize upd Ha dd (.lst []) = Hb at kab ddb ⊢
      have hc := upd_same (H := Hb) (a := x) (o := .ins (CN K) dx (putF "_deeds" (.ref dd) (putF "_halted" (.ref ht) (putF "_waiting" (.ref wt) (putF "_logs" (.ref lg) [("tree", .ref t), ("names", .ref nm)])))))
      have bbc : But x Hb (upd Hb x (.ins (CN K) dx (putF "_deeds" (.ref dd) (putF "_halted" (.ref ht) (putF "_waiting" (.ref wt) (putF "_logs" (.ref lg) [("tree", .ref t), ("names", .ref nm)])))))) := But.upd
      generalize upd Hb x (.ins (CN K) dx (putF "_deeds" (.ref dd) (putF "_halted" (.ref ht) (putF "_waiting" (.ref wt) (putF "_logs" (.ref lg) [("tree", .ref t), ("names", .ref nm)]))))) = Hc at hc bbc ⊢
      have bac : But x Ha Hc := (But.of kab).trans bbc
      have b8c : But x H8 Hc := b8a.trans bac
      have b0c : But x H Hc := b8.trans b8c
      have lg5 := S5.top
      have ht_x : ht ≠ x := (ne_of_none o8 hht).symm
      have dd_x : dd ≠ x := (ne_of_none ha hdd).symm
      have lg_x : lg ≠ x := fun z => by rw [z, hx5] at lg5; cases lg5
      have wt7 := S7.top
      have wt_x : wt ≠ x := fun z => by rw [z, hx7] at wt7; cases wt7
      have hta : Ha ht = some (.lst []) := b9a _ _ ht_x ht9
      have la_x : ∀ a ∈ la, a ≠ x := fun a m z => by
        obtain ⟨j, lj, e⟩ := List.mem_iff_getElem.mp m
        have := S5.row j a (by rw [List.getElem?_eq_getElem lj, e])
        rw [z, hx5] at this
        cases this
      have some_tab : ∀ a ∈ tab.map (·.2), ∃ o, H7 a = some o := fun a m => by
        obtain ⟨e, he, rfl⟩ := List.mem_map.mp m
        exact ⟨_, S7.row e he⟩
      have tab_x : ∀ a ∈ tab.map (·.2), a ≠ x := fun a m z => by
        obtain ⟨e, he, rfl⟩ := List.mem_map.mp m
        have := S7.row e he
        rw [z, hx7] at this
        cases this
      have tab0 : ∀ a ∈ tab.map (·.2), H a = none := fun a m => but_none b5 hx5 (tab5 a m)
      have dd8 : H8 dd = none := but_none b8a ha hdd
      refine q ns nm lg wt ht dd la tab Hc hns b0c (fun a m => ?_) ?_
      · simp only [List.mem_cons, List.mem_append] at m
        rcases m with rfl | rfl | rfl | rfl | m | m
        · exact lg0
        · exact but_none b5 hx5 wt5
        · exact but_none b8 o8 hht
        · exact but_none b8 o8 dd8
        · exact la0 a m
        · exact tab0 a m
      · have some8 : ∀ a o, a ≠ x → H5 a = some o → H8 a = some o := fun a o n e => b58 a o n e
        have la8 : ∀ a ∈ la, ∃ o, H8 a = some o := fun a m => let ⟨o, e⟩ := some_la a m; ⟨o, b58 a o (la_x a m) e⟩
        have tab8 : ∀ a ∈ tab.map (·.2), ∃ o, H8 a = some o := fun a m => let ⟨o, e⟩ := some_tab a m; ⟨o, b78 a o (tab_x a m) e⟩
        have lg8 := b58 _ _ lg_x lg5
        have wt8 := b78 _ _ wt_x wt7
        refine ⟨⟨dx, hc⟩, TreeAt.but hx t_x b0c T, b8c _ _ nm_x nm8, nok, LL.but o8 b8c S8, lla, DL.but o8 b8c D8, ltab, ?_, bbc _ _ dd_x ddb, ?_⟩
        · exact bac _ _ ht_x hta
        · refine apart_of S5.nd S7.nd (fun a m m2 => ?_) S5.nin (fun m => ?_) (fun m => ?_) S7.nin (fun m => ?_) (fun m => ?_) (fun m => ?_) (fun m => ?_) (fun z => ?_) (fun z => ?_) (fun z => ?_) (fun z => ?_) (fun z => ?_) (fun z => ?_)
          · obtain ⟨o, e⟩ := some_la a m
            rw [tab5 a m2] at e
            cases e
          · rw [tab5 _ m] at lg5
            cases lg5
          · obtain ⟨o, e⟩ := some_la _ m
            rw [wt5] at e
            cases e
          · obtain ⟨o, e⟩ := la8 _ m
            rw [hht] at e
            cases e
          · obtain ⟨o, e⟩ := tab8 _ m
            rw [hht] at e
            cases e
          · obtain ⟨o, e⟩ := la8 _ m
            rw [dd8] at e
            cases e
          · obtain ⟨o, e⟩ := tab8 _ m
            rw [dd8] at e
            cases e
          · rw [z, wt5] at lg5
            cases lg5
          · rw [z, hht] at lg8
            cases lg8
          · rw [z, dd8] at lg8
            cases lg8
          · rw [z, hht] at wt8
            cases wt8
          · rw [z, dd8] at wt8
            cases wt8
          · rw [z, hdd] at hta
            cases hta
    · rcases hp2 with h | h
      · refine ⟨_, rfl, p, xs, rfl, .inl ⟨SqL.of h, fun l hl => ?_⟩⟩
        have nx : x ≠ l := ne_of_none hx2 hl
        refine ⟨_, rfl, x, _, dx, _, rfl, (by rw [upd_ne nx]; exact hx2), CK.cl, CK.nnames, (by show 1 < 1000; decide), rest _ _ ⟨l, upd_same, ?_, ?_, rfl⟩⟩
        · exact b2.trans ((But.of (upd_grow hl)).trans But.upd)
        · rw [upd_ne nx.symm, upd_same, exs]
      · refine ⟨_, rfl, p, xs, rfl, .inr ⟨SqT.of h, ?_⟩⟩
        have nx : p ≠ x := fun z => by rw [z, hx2] at h; cases h
        refine ⟨_, rfl, x, _, dx, _, rfl, hx2, CK.cl, CK.nnames, (by show 1 < 1000; decide), rest _ _ ⟨p, upd_same, b2.trans But.upd, ?_, rfl⟩⟩
        rw [upd_ne nx, h, exs]
end
end K04

namespace K04
open PySem PySem.Spec PyProof.Rows L2 Tn TL
/-! ### what the lists of M may do -/
/-- all but the lists at M is kept -/
def Bm (M : List Addr) (H H' : Hp) : Prop := ∀ b o, ((∃ l, o = .lst l) → b ∉ M) → H b = some o → H' b = some o
theorem Bm.of {M : List Addr} {H H' : Hp} (k : Same H H') : Bm M H H' := fun b o _ e => k b o e
theorem Bm.trans {M : List Addr} {H H1 H2 : Hp} (a : Bm M H H1) (b : Bm M H1 H2) : Bm M H H2 := fun c o n e => b c o n (a c o n e)
theorem Bm.mono {M N : List Addr} {H H' : Hp} (s : ∀ a ∈ M, a ∈ N) (k : Bm M H H') : Bm N H H' := fun b o n e => k b o (fun z m => n z (s _ m)) e
theorem Bm.upd {M : List Addr} {H : Hp} {a : Addr} {l : List V} {o : HO} (h : H a = some (.lst l)) (m : a ∈ M) : Bm M H (L2.upd H a o) := fun b u n e => by
  rw [upd_ne fun z => ?_]
  · exact e
  · subst z
    rw [h] at e
    cases e
    exact n ⟨l, rfl⟩ m
theorem Bm.but {p : Addr} {H H' : Hp} {l : List V} (h : H p = some (.lst l)) (k : But p H H') : Bm [p] H H' := fun b u n e =>
  k b u (fun z => by
    subst z
    rw [h] at e
    cases e
    exact n ⟨l, rfl⟩ (List.mem_singleton.mpr rfl)) e
theorem Bm.tup {M : List Addr} {H H' : Hp} {a : Addr} {xs : List V} (k : Bm M H H') (h : H a = some (.tup xs)) : H' a = some (.tup xs) := k a _ (fun ⟨_, z⟩ => nomatch z) h
theorem Bm.ins {M : List Addr} {H H' : Hp} {a C d : Addr} {f : List (Str × V)} (k : Bm M H H') (h : H a = some (.ins C d f)) : H' a = some (.ins C d f) := k a _ (fun ⟨_, z⟩ => nomatch z) h
theorem Bm.dT {M : List Addr} {H H' : Hp} {a : Addr} {kvs : List (List Key × V)} (k : Bm M H H') (h : H a = some (.dT kvs)) : H' a = some (.dT kvs) := k a _ (fun ⟨_, z⟩ => nomatch z) h
theorem Bm.lst {M : List Addr} {H H' : Hp} {a : Addr} {xs : List V} (k : Bm M H H') (n : a ∉ M) (h : H a = some (.lst xs)) : H' a = some (.lst xs) := k a _ (fun _ => n) h
theorem Bm.none {M : List Addr} {H H' : Hp} {a : Addr} (k : Bm M H H') (n : a ∉ M) (h : H' a = .none) : H a = .none := by
  cases e : H a with
  | none => rfl
  | some u =>
    rw [k a u (fun _ => n) e] at h
    cases h
mutual
/-- data without lists -/
def flat : PyData → Bool
  | .list _ => false
  | .tuple ds => flatAll ds
  | .dict _ => false
  | _ => true
def flatAll : List PyData → Bool
  | [] => true
  | d :: ds => flat d && flatAll ds
end
mutual
theorem rdd_bm {M : List Addr} {H H' : Hp} (k : Bm M H H') : ∀ {v : V} {d : PyData}, Rdd H v d → flat d = true → Rdd H' v d
  | _, _, .non, _ => .non
  | _, _, .bl b, _ => .bl b
  | _, _, .int i, _ => .int i
  | _, _, .str x, _ => .str x
  | _, _, .lst h r, c => by simp [flat] at c
  | _, _, .tup h r, c => .tup (k.tup h) (rdds_bm k r (by simpa [flat] using c))
  | _, _, .dK h r q, c => by simp [flat] at c
theorem rdds_bm {M : List Addr} {H H' : Hp} (k : Bm M H H') : ∀ {vs : List V} {ds : List PyData}, RddAll H vs ds → flatAll ds = true → RddAll H' vs ds
  | _, _, .nil, _ => .nil
  | _, _, .cons r t, c => by
    simp only [flatAll, Bool.and_eq_true] at c
    exact .cons (rdd_bm k r c.1) (rdds_bm k t c.2)
end
theorem flat_all {ds : List PyData} (h : ∀ d ∈ ds, flat d = true) : flatAll ds = true := by
  induction ds with
  | nil => rfl
  | cons d ds ih =>
    simp only [flatAll, Bool.and_eq_true]
    exact ⟨h d List.mem_cons_self, ih fun d' m => h d' (List.mem_cons_of_mem _ m)⟩
theorem flat_rds (rs : List Tm.Road) : flat (.tuple (rs.map rd)) = true := by
  simp only [flat]
  refine flat_all fun d m => ?_
  obtain ⟨r, _, rfl⟩ := List.mem_map.mp m
  rfl
theorem flat_near (n : Nat) (rs : List Tm.Road) : flat (nearD n rs) = true := by
  unfold nearD
  simp only [flat]
  refine flat_all fun d m => ?_
  obtain ⟨h, _, rfl⟩ := List.mem_map.mp m
  simp only [flat]
  refine flat_all fun d m => ?_
  unfold natD at m
  obtain ⟨r, _, rfl⟩ := List.mem_map.mp m
  rfl
theorem TreeAt.bm {K : PySem.W.Frag} {M : List Addr} {H H' : Hp} {t : Addr} {n : Nat} {rs : List Tm.Road} (k : Bm M H H') (T : TreeAt K H t n rs) : TreeAt K H' t n rs :=
  let ⟨dx, rt, nt, h1, h2, h3⟩ := T.ex
  ⟨⟨dx, rt, nt, k.ins h1, rdd_bm k h2 (flat_rds rs), rdd_bm k h3 (flat_near n rs)⟩, T.ok, T.jo, T.le⟩
theorem _root_.L2.LL.bm {M : List Addr} {H H' : Hp} {L : Addr} {as : List Addr} {g : Nat → List V} (k : Bm M H H') (n1 : L ∉ M) (n2 : ∀ a ∈ as, a ∉ M) (S : LL H L as g) : LL H' L as g :=
  ⟨k.lst n1 S.top, S.nd, S.nin, fun h a e => k.lst (n2 a (List.mem_of_getElem? e)) (S.row h a e)⟩
theorem _root_.L2.DL.bm {M : List Addr} {H H' : Hp} {L : Addr} {tab : List (List Key × Addr)} {g : List Key → List V} (k : Bm M H H') (n2 : ∀ e ∈ tab, e.2 ∉ M) (S : DL H L tab g) : DL H' L tab g :=
  ⟨k.dT S.top, S.nk, S.nd, S.nin, fun e m => k.lst (n2 e m) (S.row e m)⟩
/-! ### a network by what it holds -/
abbrev Line := Str × Str
def lineD (l : Line) : PyData := .tuple [.str l.1, .str l.2]
inductive Deed
  | make (h : Nat) (t : Str)
  | hand (u v : Nat)
  | lose (u v : Nat)
  | stop (h : Nat)
def deedD : Deed → PyData
  | .make h t => .tuple [.str "make", .int h, .str t]
  | .hand u v => .tuple [.str "hand", .int u, .int v]
  | .lose u v => .tuple [.str "lose", .int u, .int v]
  | .stop h => .tuple [.str "stop", .int h]
theorem flat_line (l : List Line) : flatAll (l.map lineD) = true := flat_all fun d m => by
  obtain ⟨r, _, rfl⟩ := List.mem_map.mp m
  rfl
theorem flat_deed (l : List Deed) : flatAll (l.map deedD) = true := flat_all fun d m => by
  obtain ⟨r, _, rfl⟩ := List.mem_map.mp m
  cases r <;> rfl
/-- what a network holds: logs, what is under way on a road (from, to), who is halted, the deeds -/
structure NS where
  lg : Nat → List Line
  wt : Tm.Road → List Line
  ht : List Nat
  dd : List Deed
/-- where its parts stand -/
structure Parts where
  x : Addr
  t : Addr
  nm : Addr
  lg : Addr
  wt : Addr
  ht : Addr
  dd : Addr
  la : List Addr
  tab : List (List Key × Addr)
/-- the lists that it changes -/
def Parts.M (p : Parts) : List Addr := p.ht :: p.dd :: (p.la ++ p.tab.map (·.2))
/-- all its lists -/
def Parts.all (p : Parts) : List Addr := p.lg :: p.wt :: p.ht :: p.dd :: (p.la ++ p.tab.map (·.2))
structure NetS (K : PySem.W.Frag) (H : Hp) (p : Parts) (n : Nat) (rs : List Tm.Road) (ns : List Str) (S : NS) : Prop where
  ex : ∃ LG WT HT DD, NetAt K H p.x p.t p.nm p.lg p.wt p.ht p.dd p.la p.tab n rs ns LG WT HT DD ∧ (∀ h, h < n → RddAll H (LG h) ((S.lg h).map lineD)) ∧ (∀ r ∈ both rs, RddAll H (WT (rk r)) ((S.wt r).map lineD)) ∧ HT = natV S.ht ∧ RddAll H DD (S.dd.map deedD)
theorem NetS.bm {K : PySem.W.Frag} {M : List Addr} {H H' : Hp} {p : Parts} {n : Nat} {rs : List Tm.Road} {ns : List Str} {S : NS} (k : Bm M H H') (d : ∀ a ∈ p.all, a ∉ M) (N : NetS K H p n rs ns S) : NetS K H' p n rs ns S := by
  obtain ⟨LG, WT, HT, DD, A, a1, a2, a3, a4⟩ := N.ex
  obtain ⟨dx, hx⟩ := A.at_
  have m : ∀ a, a ∈ p.la ++ p.tab.map (·.2) → a ∉ M := fun a h => d a (by unfold Parts.all; simp only [List.mem_cons]; exact .inr (.inr (.inr (.inr h))))
  refine ⟨LG, WT, HT, DD, ⟨⟨dx, k.ins hx⟩, A.tree.bm k, k.tup A.names, A.nok, LL.bm k (d _ (by simp [Parts.all])) (fun a h => m a (List.mem_append_left _ h)) A.logs, A.lla, DL.bm k (fun e h => m _ (List.mem_append_right _ (List.mem_map.mpr ⟨e, h, rfl⟩))) A.wait, A.keys, k.lst (d _ (by simp [Parts.all])) A.halt, k.lst (d _ (by simp [Parts.all])) A.deed, A.apart⟩, ?_, ?_, a3, rdds_bm k a4 (flat_deed _)⟩
  · exact fun h lt => rdds_bm k (a1 h lt) (flat_line _)
  · exact fun r hr => rdds_bm k (a2 r hr) (flat_line _)
/-- a new one -/
def NS.new : NS := ⟨fun _ => [], fun _ => [], [], []⟩
theorem NetS.made {K : PySem.W.Frag} {H : Hp} {x t nm lg wt ht dd : Addr} {la : List Addr} {tab : List (List Key × Addr)} {n : Nat} {rs : List Tm.Road} {ns : List Str} (A : NetAt K H x t nm lg wt ht dd la tab n rs ns (fun _ => []) (fun _ => []) [] []) :
    NetS K H ⟨x, t, nm, lg, wt, ht, dd, la, tab⟩ n rs ns NS.new := ⟨_, _, _, _, A, fun _ _ => .nil, fun _ _ => .nil, rfl, .nil⟩
end K04

namespace K04
open PySem PySem.Spec PyProof.Rows L2
abbrev sChkH : Stmt := top 31
theorem scChkH : FnScope ["tree", "house"] ["tree", "house"] (defScope sChkH) := ⟨rfl, rfl, rfl, by decide +kernel, rfl, by decide +kernel, by decide +kernel⟩
abbrev sChkR : Stmt := top 32
theorem scChkR : FnScope ["tree", "u", "v"] ["tree", "u", "v"] (defScope sChkR) := ⟨rfl, rfl, rfl, by decide +kernel, rfl, by decide +kernel, by decide +kernel⟩
def Refuses2 (K : PySem.W.Frag) (x f g : Str) (v w : V) (H : Hp) (E : XK) : Prop := ∀ d H', Same H H' → H' d = some (.xd [(g, w), (f, v)]) → E (.ref (He.ga K x)) (some d) H'
/-- one house is asked: W a is the way on -/
structure One1 (K : PySem.W.Frag) (H : Hp) (n : Nat) (v : V) (d : PyData) (E : XK) (W : Nat → Prop) : Prop where
  r : Rdd H v d
  no : belowD n d = false → Refuses K "InvalidHouse" "given" v H E
  ok : ∀ a : Nat, a < n → v = .int a → d = .int a → W a
theorem One1.mono {K : PySem.W.Frag} {H H' : Hp} {n : Nat} {v : V} {d : PyData} {E : XK} {W : Nat → Prop} (k : Same H H') (h : One1 K H n v d E W) : One1 K H' n v d E W :=
  ⟨h.r.mono k, fun z d H2 k2 e => h.no z d H2 (k.trans k2) e, h.ok⟩
theorem int_of {H : Hp} {v : V} {d : PyData} {n : Nat} (r : Rdd H v d) (h : belowD n d = true) : ∃ a : Nat, a < n ∧ v = .int a ∧ d = .int a := by
  obtain ⟨u, rfl, hu⟩ := belowD_nat h
  cases r
  exact ⟨u, hu, rfl, rfl⟩
def spChkH (K : PySem.W.Frag) : Sp := fun vs H Q E => ∃ t n rs v d, vs = [.ref t, v] ∧ TreeAt K H t n rs ∧ One1 K H n v d E fun _ => Q .non H
def spChkR (K : PySem.W.Frag) : Sp := fun vs H Q E => ∃ t n rs u v du dv, vs = [.ref t, u, v] ∧ TreeAt K H t n rs ∧ One1 K H n u du E fun a => One1 K H n v dv E fun b =>
  (b ∉ Tm.near rs a → Refuses2 K "NotARoad" "u" "v" u v H E) ∧ (b ∈ Tm.near rs a → Q .non H)
section
variable {P : Program} {w : World} {K : PySem.W.Frag} {mg : Str → Option Value} {base : Heap} {f : Addr} {fd : FuncData}
theorem ok_check_house (F : Fd K "check_house" sChkH f fd) (g : mg "check_house" = some (.ref f)) (C : TreeK K mg) (O_InvalidHouse : One P w K mg base "InvalidHouse" "given") (M : OkM P w K mg base CX0 2 "__contains__" ["self", "value"] (spCont K)) :
    Ok P w K mg base (L2N.CX P w) 3 "check_house" sChkH ["tree", "house"] (spChkH K) := by
  obtain ⟨fC, bC, oC⟩ := M.ex
  refine ⟨f, fd, g, F, F.bindsN fun _ _ _ _ _ _ us hl => match us, hl with | [_, _], _ => rfl, F.ok scChkH (fun vs H Q E h => ?_) (fun cdv A outer s H vs Q E hr h => ?_)⟩
  · obtain ⟨t, n, rs, v, d, rfl, _⟩ := h
    rfl
  · have tk : L2N.Takes (cxOf (L2N.CX P w) P w K mg base ["tree", "house"] "check_house" (defScope sChkH) f cdv A outer s H E) (fun cls d _ H => E cls d H) := L2N.takes_of rfl rfl rfl rfl
    refine ⟨_, (pss_one (ps_if (pt_cmpR (op_notInO oC bC pass0 hr C.co C.cof) (pv 1) (pv 0) (by rfl))
        (pss_one (L2N.ps_raise rfl tk (by exact (pmk_e1 O_InvalidHouse (hr.mono (by decide)) (pv 1) (by rfl)))))
        pss_nil)), ?_⟩
    obtain ⟨t, n, rs, v, d, rfl, T, O⟩ := h
    obtain ⟨dx, rt, nt, h1, _, _⟩ := T.ex
    refine ⟨_, rfl, _, rfl, t, dx, _, rfl, h1, t, n, rs, v, d, rfl, T, O.r, _, rfl, _, rfl, iteB (fun e => ?_) fun e => ?_⟩
    · exact ⟨_, rfl, O.no (not_t e)⟩
    · obtain ⟨a, ha, rfl, rfl⟩ := int_of O.r (not_f e)
      exact O.ok a ha rfl rfl
theorem natV_flat (l : List Nat) : (natV l).all flatV = true := by
  unfold natV
  rw [List.all_map, List.all_eq_true]
  exact fun _ _ => rfl
theorem natV_in (x : Nat) (l : List Nat) : inV (.int (x : Int)) (natV l) = decide (x ∈ l) := by
  unfold inV natV
  rw [List.any_map]
  induction l with
  | nil => rfl
  | cons y l ih =>
    rw [List.any_cons, ih]
    show (((y : Int) == (x : Int)) || decide (x ∈ l)) = _
    by_cases e : y = x
    · subst e; simp
    · have e1 : ¬ (y : Int) = x := by omega
      have e2 : ¬ x = y := fun z => e z.symm
      simp [e1, e2]
theorem ok_check_road (F : Fd K "check_road" sChkR f fd) (g : mg "check_road" = some (.ref f)) (C : TreeK K mg) (O_NotARoad : Two P w K mg base "NotARoad" "u" "v") (o_check_house : Ok P w K mg base (L2N.CX P w) 3 "check_house" sChkH ["tree", "house"] (spChkH K)) :
    Ok P w K mg base (L2N.CX P w) 4 "check_road" sChkR ["tree", "u", "v"] (spChkR K) := by
  refine ⟨f, fd, g, F, F.bindsN fun _ _ _ _ _ _ us hl => match us, hl with | [_, _, _], _ => rfl, F.ok scChkR (fun vs H Q E h => ?_) (fun cdv A outer s H vs Q E hr h => ?_)⟩
  · obtain ⟨t, n, rs, u, v, du, dv, rfl, _⟩ := h
    rfl
  · have tk : L2N.Takes (cxOf (L2N.CX P w) P w K mg base ["tree", "u", "v"] "check_road" (defScope sChkR) f cdv A outer s H E) (fun cls d _ H => E cls d H) := L2N.takes_of rfl rfl rfl rfl
    refine ⟨_, (pss_cons (ps_expr (pe_oS o_check_house (hr.mono (by decide)) (by rfl) (fun σ => L2N.passAt tk σ) (pa_cons (pv 0) (pa_cons (pv 1) pa_nil))))
      (pss_cons (ps_expr (pe_oS o_check_house (hr.mono (by decide)) (by rfl) (fun σ => L2N.passAt tk σ) (pa_cons (pv 0) (pa_cons (pv 2) pa_nil))))
      (pss_one (ps_if (pt_cmpR op_notIn_seq (pv 2) (pe_ix ix_seq (pe_fld (pv 0) rfl) (pv 1) fun _ _ => rfl) (by rfl))
        (pss_one (L2N.ps_raise rfl tk (by exact (pmk_e2 O_NotARoad (hr.mono (by decide)) (pv 1) (pv 2) (by rfl)))))
        pss_nil)))), ?_⟩
    obtain ⟨t, n, rs, u, v, du, dv, rfl, T, O⟩ := h
    obtain ⟨dx, rt, nt, h1, _, rn⟩ := T.ex
    refine ⟨_, rfl, _, rfl, t, n, rs, u, du, rfl, T, O.r, O.no, fun a ha eu ed => ?_⟩
    have O2 := O.ok a ha eu ed
    refine ⟨_, rfl, _, rfl, t, n, rs, v, dv, rfl, T, O2.r, O2.no, fun b hb ev ed2 => ?_⟩
    obtain ⟨no, ok⟩ := O2.ok b hb ev ed2
    obtain ⟨rows, tt, g1, g2, g3⟩ := near_row rn ha
    subst eu ev
    refine ⟨_, rfl, _, rfl, _, _, _, _, _, rfl, h1, C.cl, C.nn, rfl, _, rfl, ixTup (SqT.of g1) g2 ⟨tt, natV (Tm.near rs a), rfl, .inr (SqT.of g3), rfl, natV_flat _, _, rfl, iteB (fun e => ?_) fun e => ?_⟩⟩
    · rw [if_pos rfl, natV_in] at e
      exact ⟨_, _, rfl, rfl, no (of_decide_eq_false (not_t e))⟩
    · rw [if_pos rfl, natV_in] at e
      exact ok (of_decide_eq_true (not_f e))
end
end K04

/-! methods that may raise, called where the raised is caught or passed on -/
namespace L2
open PySem PySem.Spec PyProof.Rows
def tMethE (C : Addr) (m : Str) (sp : Sp) (E : St → XK) (ta : TE) (t : TA) : TE := fun σ H Q => ta σ H fun x H1 => ∃ a dx fs, x = .ref a ∧ H1 a = some (.ins C dx fs) ∧ fs.lookup m = none ∧ t σ H1 fun vs H2 => sp (x :: vs) H2 Q (E σ)
section
variable {X : Cx} {CX : CXT} {k : Nat} {f C : Addr} {fd : FuncData} {ps : List Str} {sp : Sp} {E : St → XK} {m : Str} {pos apos : Pos} {e o : Expr} {es : List Expr} {ta : TE} {t : TA}
theorem pe_methE {pl : Sem Bool} (he : PE X o ta) (c : Cls X.K C) (hm : Meth X.K C m f) (F : FnOk X.prog X.w X.K X.mg X.base CX k f fd ps sp) (hr : Room k X.A) (hb : Binds X.K fd ps []) (hx : ∀ σ, PassesAt CX X σ (E σ)) (ha : PA X (e :: es) t)
    (hst : starEach (e :: es) X.env = (false, eval e X.env) :: starEach es X.env := by rfl) (hpl : (backTo pos (starEach es X.env)).any (·.1) = false := by rfl)
    (ht : eval (.Call (.Attribute o m apos) (e :: es) [] pos) X.env = (do
      let ov ← eval o X.env
      standAt apos.atName
      let (f, first) ← holding [ov] (getMethod ov m pl)
      callWith pos f first (backTo pos (starEach (e :: es) X.env)) (backToKw pos (keywordEach [] X.env))) := by rfl) :
    PE X (.Call (.Attribute o m apos) (e :: es) [] pos) (tMethE C m sp E ta t) := by
  refine ⟨fun pins s σ H Q I h => ?_⟩
  refine PySem.W.methodCall_KW (pl := pl) (thn (he.run pins s σ H _ I h) fun u s1 ⟨x, H1, I1, rx, a, dx, fs, ex, ea, l, q⟩ => ?_) ht
  subst ex
  obtain rfl : u = Value.ref a := rx
  refine getmeth_ok I1 ea c hm l ?_
  refine PySem.W.callWith_K (first := [.ref a]) (h₀ := X.base) I.ok.mod.kin hm.kp (thn (ha.run pos pins s1 σ H1 _ I1 q) fun us s2 ⟨vs, H2, I2, r, q2⟩ => ⟨I2.kIn, ?_⟩) hst hpl
  exact run_fnS (us := .ref a :: us) (vs := .ref a :: vs) F hr hb (hx σ) I2 (.cons rfl r) q2
end
/-- a method by its place: how it binds, what it does -/
structure MeOk (P : Program) (w : World) (K : PySem.W.Frag) (mg : Str → Option Value) (base : Heap) (CX : CXT) (k : Nat) (C : Addr) (m : Str) (ps : List Str) (sp : Sp) : Prop where
  ex : ∃ f fd, Meth K C m f ∧ Binds K fd ps [] ∧ FnOk P w K mg base CX k f fd ps sp
section
variable {X : Cx} {CX : CXT} {k : Nat} {C : Addr} {ps : List Str} {sp : Sp} {E : St → XK} {m : Str} {pos apos : Pos} {e o : Expr} {es : List Expr} {ta : TE} {t : TA}
theorem pe_me (O : MeOk X.prog X.w X.K X.mg X.base CX k C m ps sp) {pl : Sem Bool} (he : PE X o ta) (c : Cls X.K C) (hr : Room k X.A) (hx : ∀ σ, PassesAt CX X σ (E σ)) (ha : PA X (e :: es) t)
    (hst : starEach (e :: es) X.env = (false, eval e X.env) :: starEach es X.env := by rfl) (hpl : (backTo pos (starEach es X.env)).any (·.1) = false := by rfl)
    (ht : eval (.Call (.Attribute o m apos) (e :: es) [] pos) X.env = (do
      let ov ← eval o X.env
      standAt apos.atName
      let (f, first) ← holding [ov] (getMethod ov m pl)
      callWith pos f first (backTo pos (starEach (e :: es) X.env)) (backToKw pos (keywordEach [] X.env))) := by rfl) :
    PE X (.Call (.Attribute o m apos) (e :: es) [] pos) (tMethE C m sp E ta t) := by
  obtain ⟨f, fd, hm, b, F⟩ := O.ex
  exact pe_methE (pl := pl) he c hm F hr b hx ha hst hpl ht
end
end L2

namespace K04
open PySem PySem.Spec PyProof.Rows L2 Tn TL
/-! ### one list of a network is changed -/
theorem Apart.d {lg wt ht dd : Addr} {la ta : List Addr} (h : (lg :: wt :: ht :: dd :: (la ++ ta)).Nodup) : (lg ≠ wt ∧ lg ≠ ht ∧ lg ≠ dd ∧ lg ∉ la ∧ lg ∉ ta) ∧ (wt ≠ ht ∧ wt ≠ dd ∧ wt ∉ la ∧ wt ∉ ta) ∧ (ht ≠ dd ∧ ht ∉ la ∧ ht ∉ ta) ∧ (dd ∉ la ∧ dd ∉ ta) ∧ la.Nodup ∧ ta.Nodup ∧ ∀ a ∈ la, a ∉ ta := by
  simp only [List.nodup_cons, List.mem_cons, List.mem_append, not_or] at h
  obtain ⟨⟨a1, a2, a3, a4, a5⟩, ⟨b1, b2, b3, b4⟩, ⟨c1, c2, c3⟩, ⟨d1, d2⟩, e⟩ := h
  obtain ⟨e1, e2, e3⟩ := List.nodup_append.mp e
  exact ⟨⟨a1, a2, a3, a4, a5⟩, ⟨b1, b2, b3, b4⟩, ⟨c1, c2, c3⟩, ⟨d1, d2⟩, e1, e2, fun a m m2 => e3 a m a m2 rfl⟩
theorem _root_.L2.DL.set {H : Hp} {D : Addr} {tab : List (List Key × Addr)} {f : List Key → List V} (S : DL H D tab f) {k : List Key} {a : Addr} (m : (k, a) ∈ tab) (ys : List V) : DL (upd H a (.lst ys)) D tab (fun j => if j = k then ys else f j) where
  top := by rw [upd_ne fun e => S.nin (by rw [e]; exact List.mem_map.mpr ⟨_, m, rfl⟩)]; exact S.top
  nk := S.nk
  nd := S.nd
  nin := S.nin
  row := fun e he => by
    by_cases z : e.1 = k
    · have : e = (k, a) := by
        have z2 := tab_some S.nk (show (e.1, e.2) ∈ tab from he)
        rw [z, tab_some S.nk m] at z2
        have := V.ref.inj (Option.some.inj z2)
        exact Prod.ext z this.symm
      rw [this]
      simp only [if_true, upd_same]
    · rw [if_neg z]
      have ne : e.2 ≠ a := fun z2 => z (by
        have nd := S.nd
        obtain ⟨i, hi, ei⟩ := List.mem_iff_getElem.mp he
        obtain ⟨j, hj, ej⟩ := List.mem_iff_getElem.mp m
        have h1 : (tab.map (·.2))[i]'(by rw [List.length_map]; exact hi) = (tab.map (·.2))[j]'(by rw [List.length_map]; exact hj) := by
          rw [List.getElem_map, List.getElem_map, ei, ej]
          exact z2
        have := (List.getElem_inj nd).mp h1
        subst this
        rw [ei] at ej
        rw [ej])
      rw [upd_ne ne]
      exact S.row e he
theorem tab_at {p : Parts} {rs : List Tm.Road} {r : Tm.Road} (keys : p.tab.map (·.1) = (both rs).map rk) (hr : r ∈ both rs) : ∃ a, (rk r, a) ∈ p.tab := by
  have : rk r ∈ p.tab.map (·.1) := by rw [keys]; exact List.mem_map.mpr ⟨r, hr, rfl⟩
  obtain ⟨e, he, z⟩ := List.mem_map.mp this
  exact ⟨e.2, by rw [← z]; exact he⟩
section
variable {K : PySem.W.Frag} {H : Hp} {p : Parts} {n : Nat} {rs : List Tm.Road} {ns : List Str} {S : NS}
def NS.setW (S : NS) (r : Tm.Road) (l : List Line) : NS := { S with wt := fun q => if q = r then l else S.wt q }
def NS.setL (S : NS) (h : Nat) (l : List Line) : NS := { S with lg := fun q => if q = h then l else S.lg q }
theorem M_tab {k : List Key} {a : Addr} (m : (k, a) ∈ p.tab) : a ∈ p.M := by
  unfold Parts.M
  simp only [List.mem_cons, List.mem_append]
  exact .inr (.inr (.inr (List.mem_map.mpr ⟨_, m, rfl⟩)))
theorem M_la {a : Addr} (m : a ∈ p.la) : a ∈ p.M := by
  unfold Parts.M
  simp only [List.mem_cons, List.mem_append]
  exact .inr (.inr (.inl m))
/-- what is under way on a road -/
theorem NetS.way (N : NetS K H p n rs ns S) {r : Tm.Road} (hr : r ∈ both rs) : ∃ a xs, (rk r, a) ∈ p.tab ∧ H a = some (.lst xs) ∧ RddAll H xs ((S.wt r).map lineD) ∧
    ∀ ys l, RddAll H ys (l.map lineD) → NetS K (upd H a (.lst ys)) p n rs ns (S.setW r l) ∧ Bm p.M H (upd H a (.lst ys)) := by
  obtain ⟨LG, WT, HT, DD, A, a1, a2, a3, a4⟩ := N.ex
  obtain ⟨a, ha⟩ := tab_at A.keys hr
  have hl := A.wait.row _ ha
  refine ⟨a, _, ha, hl, a2 r hr, fun ys l ry => ?_⟩
  have am : a ∈ p.tab.map (·.2) := List.mem_map.mpr ⟨_, ha, rfl⟩
  obtain ⟨⟨_, _, _, _, x1⟩, ⟨_, _, _, x2⟩, ⟨_, _, x3⟩, ⟨_, x4⟩, _, _, x5⟩ := Apart.d A.apart
  have k1 : Bm [a] H (upd H a (.lst ys)) := Bm.upd hl List.mem_cons_self
  have ne : ∀ b, b ≠ a → b ∉ [a] := fun b h m => h (List.mem_singleton.mp m)
  have n1 : p.lg ≠ a := fun z => x1 (z ▸ am)
  have n3 : p.ht ≠ a := fun z => x3 (z ▸ am)
  have n4 : p.dd ≠ a := fun z => x4 (z ▸ am)
  obtain ⟨dx, hx⟩ := A.at_
  have ex : ∀ q ∈ both rs, rk q = rk r ↔ q = r := fun q _ => ⟨rk_inj, fun z => by rw [z]⟩
  refine ⟨⟨LG, _, HT, DD, ⟨⟨dx, k1.ins hx⟩, A.tree.bm k1, k1.tup A.names, A.nok, LL.bm k1 (ne _ n1) (fun b m => ne _ fun z => x5 b m (z ▸ am)) A.logs, A.lla, A.wait.set ha ys, A.keys, k1.lst (ne _ n3) A.halt, k1.lst (ne _ n4) A.deed, A.apart⟩, ?_, ?_, a3, rdds_bm k1 a4 (flat_deed _)⟩, Bm.upd hl (M_tab ha)⟩
  · exact fun h lt => rdds_bm k1 (a1 h lt) (flat_line _)
  · intro q hq
    unfold NS.setW
    by_cases z : q = r
    · subst z
      simp only [if_true]
      exact rdds_bm k1 ry (flat_line _)
    · simp only [if_neg z, if_neg fun y => z (rk_inj y)]
      exact rdds_bm k1 (a2 q hq) (flat_line _)
/-- the log of a house -/
theorem NetS.log (N : NetS K H p n rs ns S) {h : Nat} (hh : h < n) : ∃ a xs, p.la[h]? = some a ∧ H p.lg = some (.lst (p.la.map V.ref)) ∧ H a = some (.lst xs) ∧ RddAll H xs ((S.lg h).map lineD) ∧
    ∀ ys l, RddAll H ys (l.map lineD) → NetS K (upd H a (.lst ys)) p n rs ns (S.setL h l) ∧ Bm p.M H (upd H a (.lst ys)) := by
  obtain ⟨LG, WT, HT, DD, A, a1, a2, a3, a4⟩ := N.ex
  have lt : h < p.la.length := by rw [A.lla]; exact hh
  have ha : p.la[h]? = some p.la[h] := List.getElem?_eq_getElem lt
  have hl := A.logs.row _ _ ha
  refine ⟨p.la[h], _, ha, A.logs.top, hl, a1 h hh, fun ys l ry => ?_⟩
  have am : p.la[h] ∈ p.la := List.getElem_mem lt
  generalize p.la[h] = a at ha hl am ⊢
  obtain ⟨⟨_, _, _, x1, _⟩, ⟨_, _, x2, _⟩, ⟨_, x3, _⟩, ⟨x4, _⟩, _, _, x5⟩ := Apart.d A.apart
  have k1 : Bm [a] H (upd H a (.lst ys)) := Bm.upd hl List.mem_cons_self
  have ne : ∀ b, b ≠ a → b ∉ [a] := fun b h m => h (List.mem_singleton.mp m)
  have n3 : p.ht ≠ a := fun z => x3 (z ▸ am)
  have n4 : p.dd ≠ a := fun z => x4 (z ▸ am)
  obtain ⟨dx, hx⟩ := A.at_
  refine ⟨⟨_, WT, HT, DD, ⟨⟨dx, k1.ins hx⟩, A.tree.bm k1, k1.tup A.names, A.nok, A.logs.set ha ys, A.lla, DL.bm k1 (fun e m => ne _ fun z => x5 a am (z ▸ List.mem_map.mpr ⟨e, m, rfl⟩)) A.wait, A.keys, k1.lst (ne _ n3) A.halt, k1.lst (ne _ n4) A.deed, A.apart⟩, ?_, ?_, a3, rdds_bm k1 a4 (flat_deed _)⟩, Bm.upd hl (M_la am)⟩
  · intro q hq
    unfold NS.setL
    by_cases z : q = h
    · subst z
      simp only [if_true]
      exact rdds_bm k1 ry (flat_line _)
    · simp only [if_neg z]
      exact rdds_bm k1 (a1 q hq) (flat_line _)
  · exact fun q hq => rdds_bm k1 (a2 q hq) (flat_line _)
/-- who is halted -/
theorem NetS.halt (N : NetS K H p n rs ns S) : H p.ht = some (.lst (natV S.ht)) ∧ ∀ l, NetS K (upd H p.ht (.lst (natV l))) p n rs ns { S with ht := l } ∧ Bm p.M H (upd H p.ht (.lst (natV l))) := by
  obtain ⟨LG, WT, HT, DD, A, a1, a2, rfl, a4⟩ := N.ex
  have hl := A.halt
  refine ⟨hl, fun l => ?_⟩
  obtain ⟨⟨_, x1, _, _, _⟩, ⟨x2, _, _, _⟩, ⟨x3, x5, x6⟩, ⟨x4, _⟩, _, _, _⟩ := Apart.d A.apart
  have k1 : Bm [p.ht] H (upd H p.ht (.lst (natV l))) := Bm.upd hl List.mem_cons_self
  have ne : ∀ b, b ≠ p.ht → b ∉ [p.ht] := fun b h m => h (List.mem_singleton.mp m)
  obtain ⟨dx, hx⟩ := A.at_
  refine ⟨⟨LG, WT, _, DD, ⟨⟨dx, k1.ins hx⟩, A.tree.bm k1, k1.tup A.names, A.nok, LL.bm k1 (ne _ x1) (fun b m => ne _ fun z => x5 (z ▸ m)) A.logs, A.lla, DL.bm k1 (fun e m => ne _ fun z => x6 (z ▸ List.mem_map.mpr ⟨e, m, rfl⟩)) A.wait, A.keys, upd_same, k1.lst (ne _ x3.symm) A.deed, A.apart⟩, ?_, ?_, rfl, rdds_bm k1 a4 (flat_deed _)⟩, Bm.upd hl (by unfold Parts.M; exact List.mem_cons_self)⟩
  · exact fun q hq => rdds_bm k1 (a1 q hq) (flat_line _)
  · exact fun q hq => rdds_bm k1 (a2 q hq) (flat_line _)
/-- its deeds -/
theorem NetS.deed (N : NetS K H p n rs ns S) : ∃ xs, H p.dd = some (.lst xs) ∧ RddAll H xs (S.dd.map deedD) ∧ ∀ ys l, RddAll H ys (l.map deedD) → NetS K (upd H p.dd (.lst ys)) p n rs ns { S with dd := l } ∧ Bm p.M H (upd H p.dd (.lst ys)) := by
  obtain ⟨LG, WT, HT, DD, A, a1, a2, rfl, a4⟩ := N.ex
  have hl := A.deed
  refine ⟨_, hl, a4, fun ys l ry => ?_⟩
  obtain ⟨⟨_, _, x1, _, _⟩, ⟨_, x2, _, _⟩, ⟨x3, _, _⟩, ⟨x5, x6⟩, _, _, _⟩ := Apart.d A.apart
  have k1 : Bm [p.dd] H (upd H p.dd (.lst ys)) := Bm.upd hl List.mem_cons_self
  have ne : ∀ b, b ≠ p.dd → b ∉ [p.dd] := fun b h m => h (List.mem_singleton.mp m)
  obtain ⟨dx, hx⟩ := A.at_
  refine ⟨⟨LG, WT, _, _, ⟨⟨dx, k1.ins hx⟩, A.tree.bm k1, k1.tup A.names, A.nok, LL.bm k1 (ne _ x1) (fun b m => ne _ fun z => x5 (z ▸ m)) A.logs, A.lla, DL.bm k1 (fun e m => ne _ fun z => x6 (z ▸ List.mem_map.mpr ⟨e, m, rfl⟩)) A.wait, A.keys, k1.lst (ne _ x3) A.halt, upd_same, A.apart⟩, ?_, ?_, rfl, rdds_bm k1 ry (flat_deed _)⟩, Bm.upd hl (by unfold Parts.M; exact List.mem_cons_of_mem _ List.mem_cons_self)⟩
  · exact fun q hq => rdds_bm k1 (a1 q hq) (flat_line _)
  · exact fun q hq => rdds_bm k1 (a2 q hq) (flat_line _)
theorem NetS.same {H' : Hp} (k : Same H H') (N : NetS K H p n rs ns S) : NetS K H' p n rs ns S := N.bm (M := []) (Bm.of k) fun _ _ z => nomatch z
end
end K04

namespace K04
open PySem PySem.Spec PyProof.Rows L2 Tn TL
abbrev sNTake : Stmt := cdef 34 9
theorem scNTake : FnScope ["self", "u", "v"] ["self", "u", "v"] (defScope sNTake) := ⟨rfl, rfl, rfl, by decide +kernel, rfl, by decide +kernel, by decide +kernel⟩
def spNTake (K : PySem.W.Frag) : Sp := fun vs H Q E => ∃ (p : Parts) (n : Nat) (rs : List Tm.Road) (ns : List Str) (S : NS) (u v : Nat), vs = [.ref p.x, .int u, .int v] ∧ NetS K H p n rs ns S ∧ (u, v) ∈ both rs ∧
  (S.wt (u, v) = [] → Refuses2 K "NothingUnderWay" "u" "v" (.int u) (.int v) H E) ∧
  ∀ l ls y H', S.wt (u, v) = l :: ls → Bm p.M H H' → Rdd H' y (lineD l) → NetS K H' p n rs ns (S.setW (u, v) ls) → Q y H'
section
variable {P : Program} {w : World} {K : PySem.W.Frag} {mg : Str → Option Value} {base : Heap} {fd : FuncData}
theorem ok_ntake (F : Md K "_take" "Network._take" sNTake (MN K "_take") fd) (CK : NetK K mg) (O_NothingUnderWay : Two P w K mg base "NothingUnderWay" "u" "v") : FnOk P w K mg base (L2N.CX P w) 3 (MN K "_take") fd ["self", "u", "v"] (spNTake K) := by
  refine F.ok scNTake (fun vs H Q E h => ?_) (fun cdv A outer s H vs Q E hr h => ?_)
  · obtain ⟨p, n, rs, ns, S, u, v, rfl, _⟩ := h
    rfl
  · have tk : L2N.Takes (cxOf (L2N.CX P w) P w K mg base ["self", "u", "v"] "Network._take" (defScope sNTake) (MN K "_take") cdv A outer s H E) (fun cls d _ H => E cls d H) := L2N.takes_of rfl rfl rfl rfl
    have hu : (cxOf (L2N.CX P w) P w K mg base ["self", "u", "v"] "Network._take" (defScope sNTake) (MN K "_take") cdv A outer s H E).A.units + 1 < cLine := by
      have z := hr.un
      show (A.deeper _).units + 1 < cLine
      omega
    refine ⟨_, (pss_cons (ps_if (pt_not (pt_truth (pe_dget hu (pe_fld (pv 0) rfl) (pe_tup (pa_cons (pv 1) (pa_cons (pv 2) pa_nil))) (fun _ _ => rfl)) (by intro _; rfl)))
        (pss_one (L2N.ps_raise rfl tk (by exact (pmk_e2 O_NothingUnderWay (hr.mono (by decide)) (pv 1) (pv 2) (by rfl)))))
        pss_nil)
      (pss_one (ps_ret (pe_bm PySem.F.plainAttrs_list PySem.F.slot_list_pop PySem.F.type_list_pop mt_popAt (pe_dget hu (pe_fld (pv 0) rfl) (pe_tup (pa_cons (pv 1) (pa_cons (pv 2) pa_nil))) (fun _ _ => rfl)) (pa_cons pe_int pa_nil))))), ?_⟩
    obtain ⟨p, n, rs, ns, S, u, v, rfl, N, hr2, bad, q⟩ := h
    obtain ⟨LG, WT, HT, DD, A, _⟩ := N.ex
    obtain ⟨dx, hx⟩ := A.at_
    obtain ⟨a, xs, ha, hl, rx, _⟩ := N.way hr2
    have hv := tab_some A.wait.nk ha
    refine ⟨_, rfl, _, _, _, _, _, rfl, hx, CK.cl, CK.nwait, rfl, _, rfl, _, rfl, two_ln (by show 2 ≤ _; decide), fun pt hpt => ?_⟩
    have k1 := upd_grow (o := .tup [V.int (u : Nat), V.int (v : Nat)]) hpt
    have hpt1 := upd_same (H := H) (a := pt) (o := .tup [V.int (u : Nat), V.int (v : Nat)])
    generalize upd H pt (.tup [V.int (u : Nat), V.int (v : Nat)]) = H1 at k1 hpt1 ⊢
    have d1 : DGet H1 p.wt (.ref pt) (valV (tabV p.tab) (rk (u, v))) := DGet.t (k1 _ _ A.wait.top) hpt1
    rw [hv] at d1
    refine ⟨_, _, rfl, d1, _, .inl ⟨_, SqL.of (k1 _ _ hl), rfl⟩, iteB (fun e => ?_) fun e => ?_⟩
    · have e1 : xs = [] := by
        cases xs with
        | nil => rfl
        | cons => cases e
      subst e1
      have e2 := rdds_len rx
      rw [List.length_map] at e2
      have e3 := List.eq_nil_of_length_eq_zero e2.symm
      exact ⟨_, _, rfl, rfl, fun d H' k z => bad e3 d H' (k1.trans k) z⟩
    · obtain ⟨y, ys, rfl⟩ : ∃ y ys, xs = y :: ys := by
        cases xs with
        | nil => cases e
        | cons y ys => exact ⟨y, ys, rfl⟩
      obtain ⟨l, ls, el⟩ : ∃ l ls, S.wt (u, v) = l :: ls := by
        cases z : S.wt (u, v) with
        | nil => rw [z] at rx; cases rx
        | cons l ls => exact ⟨l, ls, rfl⟩
      refine ⟨_, rfl, _, _, _, _, _, rfl, k1 _ _ hx, CK.cl, CK.nwait, rfl, _, rfl, _, rfl, two_ln (by show 2 ≤ _; decide), fun pt2 hpt2 => ?_⟩
      have k2 := upd_grow (o := .tup [V.int (u : Nat), V.int (v : Nat)]) hpt2
      have hpt3 := upd_same (H := H1) (a := pt2) (o := .tup [V.int (u : Nat), V.int (v : Nat)])
      generalize upd H1 pt2 (.tup [V.int (u : Nat), V.int (v : Nat)]) = H2 at k2 hpt3 ⊢
      have k := k1.trans k2
      have d2 : DGet H2 p.wt (.ref pt2) (valV (tabV p.tab) (rk (u, v))) := DGet.t (k _ _ A.wait.top) hpt3
      rw [hv] at d2
      have N2 := N.same k
      obtain ⟨LG2, WT2, HT2, DD2, A2, _⟩ := N2.ex
      obtain ⟨a2, xs2, ha2, hl2, rx2, put⟩ := N2.way hr2
      have ea : a = a2 := by
        have := tab_some A.wait.nk ha2
        rw [hv] at this
        exact V.ref.inj (Option.some.inj this)
      subst ea
      rw [k _ _ hl] at hl2
      obtain rfl := HO.lst.inj (Option.some.inj hl2)
      refine ⟨_, _, rfl, d2, .inl ⟨rfl, _, SqL.of (k _ _ hl)⟩, a, y :: ys, 0, 0, y, rfl, rfl, k _ _ hl, by decide, by decide, seqIx (j := 0) (by simp), rfl, ?_⟩
      rw [el] at rx2
      cases rx2 with
      | cons r1 r2 =>
        obtain ⟨N3, b3⟩ := put ys ls r2
        exact q l ls y _ el ((Bm.of k).trans b3) (rdd_bm b3 r1 rfl) N3
end
end K04

namespace K04
open PySem PySem.Spec PyProof.Rows L2 Tn TL
abbrev sNLog : Stmt := cdef 34 7
theorem scNLog : FnScope ["self", "house"] ["self", "house"] (defScope sNLog) := ⟨rfl, rfl, rfl, by decide +kernel, rfl, by decide +kernel, by decide +kernel⟩
abbrev sNUnder : Stmt := cdef 34 8
theorem scNUnder : FnScope ["self", "u", "v"] ["self", "u", "v"] (defScope sNUnder) := ⟨rfl, rfl, rfl, by decide +kernel, rfl, by decide +kernel, by decide +kernel⟩
abbrev sNStop : Stmt := cdef 34 6
theorem scNStop : FnScope ["self", "house"] ["self", "house"] (defScope sNStop) := ⟨rfl, rfl, rfl, by decide +kernel, rfl, by decide +kernel, by decide +kernel⟩
abbrev sNLose : Stmt := cdef 34 5
theorem scNLose : FnScope ["self", "u", "v", "line"] ["self", "u", "v"] (defScope sNLose) := ⟨rfl, rfl, rfl, by decide +kernel, rfl, by decide +kernel, by decide +kernel⟩
theorem near_both {rs : List Tm.Road} {a b : Nat} : b ∈ Tm.near rs a → (a, b) ∈ both rs := by
  intro h
  unfold Tm.near at h
  obtain ⟨r, hr, z⟩ := List.mem_filterMap.mp h
  obtain ⟨u, v⟩ := r
  unfold Tm.nb at z
  unfold both
  simp only [List.mem_append, List.mem_map]
  by_cases e1 : u = a
  · rw [if_pos e1] at z
    have z := Option.some.inj z
    simp only at z
    subst e1 z
    exact .inl hr
  · rw [if_neg e1] at z
    by_cases e2 : v = a
    · rw [if_pos e2] at z
      have z := Option.some.inj z
      simp only at z
      subst e2 z
      exact .inr ⟨_, hr, rfl⟩
    · rw [if_neg e2] at z
      cases z
def spNLog (K : PySem.W.Frag) : Sp := fun vs H Q E => ∃ (p : Parts) (n : Nat) (rs : List Tm.Road) (ns : List Str) (S : NS) (v : V) (d : PyData), vs = [.ref p.x, v] ∧ NetS K H p n rs ns S ∧
  One1 K H n v d E fun h => ∀ t H', Same H H' → Rdd H' (.ref t) (.tuple ((S.lg h).map lineD)) → Q (.ref t) H'
def spNUnder (K : PySem.W.Frag) : Sp := fun vs H Q E => ∃ (p : Parts) (n : Nat) (rs : List Tm.Road) (ns : List Str) (S : NS) (u v : V) (du dv : PyData), vs = [.ref p.x, u, v] ∧ NetS K H p n rs ns S ∧
  One1 K H n u du E fun a => One1 K H n v dv E fun b => (b ∉ Tm.near rs a → Refuses2 K "NotARoad" "u" "v" u v H E) ∧ (b ∈ Tm.near rs a → ∀ t H', Same H H' → Rdd H' (.ref t) (.tuple ((S.wt (a, b)).map lineD)) → Q (.ref t) H')
def spNStop (K : PySem.W.Frag) : Sp := fun vs H Q E => ∃ (p : Parts) (n : Nat) (rs : List Tm.Road) (ns : List Str) (S : NS) (v : V) (d : PyData), vs = [.ref p.x, v] ∧ NetS K H p n rs ns S ∧ S.ht.length < 1000 ∧ S.dd.length < 1000 ∧
  One1 K H n v d E fun h => (h ∈ S.ht → Refuses K "Stopped" "house" v H E) ∧ (h ∉ S.ht → ∀ H', Bm p.M H H' → NetS K H' p n rs ns { S with ht := S.ht ++ [h], dd := S.dd ++ [.stop h] } → Q .non H')
def spNLose (K : PySem.W.Frag) : Sp := fun vs H Q E => ∃ (p : Parts) (n : Nat) (rs : List Tm.Road) (ns : List Str) (S : NS) (u v : V) (du dv : PyData), vs = [.ref p.x, u, v] ∧ NetS K H p n rs ns S ∧ S.dd.length < 1000 ∧
  One1 K H n u du E fun a => One1 K H n v dv E fun b => (b ∉ Tm.near rs a → Refuses2 K "NotARoad" "u" "v" u v H E) ∧ (b ∈ Tm.near rs a → (S.wt (a, b) = [] → Refuses2 K "NothingUnderWay" "u" "v" u v H E) ∧
    ∀ l ls y H', S.wt (a, b) = l :: ls → Bm p.M H H' → Rdd H' y (lineD l) → NetS K H' p n rs ns { S.setW (a, b) ls with dd := S.dd ++ [.lose a b] } → Q y H')
theorem NetS.xt {K : PySem.W.Frag} {H : Hp} {p : Parts} {n : Nat} {rs : List Tm.Road} {ns : List Str} {S : NS} (N : NetS K H p n rs ns S) : (∃ dx, H p.x = some (.ins (CN K) dx (fsN p.t p.nm p.lg p.wt p.ht p.dd))) ∧ TreeAt K H p.t n rs :=
  let ⟨_, _, _, _, A, _⟩ := N.ex
  ⟨A.at_, A.tree⟩
section
variable {P : Program} {w : World} {K : PySem.W.Frag} {mg : Str → Option Value} {base : Heap} {fd : FuncData}
theorem ok_nlog (F : Md K "log" "Network.log" sNLog (MN K "log") fd) (C : TreeK K mg) (CK : NetK K mg) (B : Bl mg) (o_check_house : Ok P w K mg base (L2N.CX P w) 3 "check_house" sChkH ["tree", "house"] (spChkH K)) : FnOk P w K mg base (L2N.CX P w) 4 (MN K "log") fd ["self", "house"] (spNLog K) := by
  refine F.ok scNLog (fun vs H Q E h => ?_) (fun cdv A outer s H vs Q E hr h => ?_)
  · obtain ⟨p, n, rs, ns, S, v, d, rfl, _⟩ := h
    rfl
  · have tk : L2N.Takes (cxOf (L2N.CX P w) P w K mg base ["self", "house"] "Network.log" (defScope sNLog) (MN K "log") cdv A outer s H E) (fun cls d _ H => E cls d H) := L2N.takes_of rfl rfl rfl rfl
    refine ⟨_, (pss_cons (ps_expr (pe_oS o_check_house (hr.mono (by decide)) (by rfl) (fun σ => L2N.passAt tk σ) (pa_cons (pe_fld (pv 0) rfl) (pa_cons (pv 1) pa_nil))))
      (pss_one (ps_ret (pe_callTy call_tuple_of (by rfl) (B.u "tuple" (by decide +kernel)) (by decide +kernel) (pa_cons (pe_ix ix_seq (pe_fld (pv 0) rfl) (pv 1) fun _ _ => rfl) pa_nil))))), ?_⟩
    obtain ⟨p, n, rs, ns, S, v, d, rfl, N, O⟩ := h
    obtain ⟨⟨dx, hx⟩, T⟩ := N.xt
    refine ⟨_, rfl, _, _, _, _, _, rfl, hx, CK.cl, CK.ntree, rfl, _, rfl, p.t, n, rs, v, d, rfl, T, O.r, O.no, fun h hh ev ed => ?_⟩
    have q := O.ok h hh ev ed
    subst ev
    obtain ⟨a, xs, ha, ht, hl, rx, _⟩ := N.log hh
    refine ⟨_, rfl, _, _, _, _, _, rfl, hx, CK.cl, CK.nlogs, rfl, _, rfl, ixAt ht (atI_nat (by rw [List.getElem?_map, ha]; rfl)) ?_⟩
    exact ⟨a, xs, rfl, .inl ⟨SqL.of hl, fun t ht0 => q t _ (upd_grow ht0) (.tup upd_same (rx.mono (upd_grow ht0)))⟩⟩
theorem ok_nunder (F : Md K "under_way" "Network.under_way" sNUnder (MN K "under_way") fd) (C : TreeK K mg) (CK : NetK K mg) (B : Bl mg) (o_check_road : Ok P w K mg base (L2N.CX P w) 4 "check_road" sChkR ["tree", "u", "v"] (spChkR K)) : FnOk P w K mg base (L2N.CX P w) 5 (MN K "under_way") fd ["self", "u", "v"] (spNUnder K) := by
  refine F.ok scNUnder (fun vs H Q E h => ?_) (fun cdv A outer s H vs Q E hr h => ?_)
  · obtain ⟨p, n, rs, ns, S, u, v, du, dv, rfl, _⟩ := h
    rfl
  · have tk : L2N.Takes (cxOf (L2N.CX P w) P w K mg base ["self", "u", "v"] "Network.under_way" (defScope sNUnder) (MN K "under_way") cdv A outer s H E) (fun cls d _ H => E cls d H) := L2N.takes_of rfl rfl rfl rfl
    have hu : (cxOf (L2N.CX P w) P w K mg base ["self", "u", "v"] "Network.under_way" (defScope sNUnder) (MN K "under_way") cdv A outer s H E).A.units + 1 < cLine := by
      have z := hr.un
      show (A.deeper _).units + 1 < cLine
      omega
    refine ⟨_, (pss_cons (ps_expr (pe_oS o_check_road (hr.mono (by decide)) (by rfl) (fun σ => L2N.passAt tk σ) (pa_cons (pe_fld (pv 0) rfl) (pa_cons (pv 1) (pa_cons (pv 2) pa_nil)))))
      (pss_one (ps_ret (pe_callTy call_tuple_of (by rfl) (B.u "tuple" (by decide +kernel)) (by decide +kernel) (pa_cons (pe_dget hu (pe_fld (pv 0) rfl) (pe_tup (pa_cons (pv 1) (pa_cons (pv 2) pa_nil))) (fun _ _ => rfl)) pa_nil))))), ?_⟩
    obtain ⟨p, n, rs, ns, S, u, v, du, dv, rfl, N, O⟩ := h
    obtain ⟨⟨dx, hx⟩, T⟩ := N.xt
    refine ⟨_, rfl, _, _, _, _, _, rfl, hx, CK.cl, CK.ntree, rfl, _, rfl, _, rfl, p.t, n, rs, u, v, du, dv, rfl, T, O.r, O.no, fun a ha eu ed => ?_⟩
    have O2 := O.ok a ha eu ed
    refine ⟨O2.r, O2.no, fun b hb ev ed2 => ?_⟩
    obtain ⟨no, ok⟩ := O2.ok b hb ev ed2
    refine ⟨no, fun hn => ?_⟩
    have q := ok hn
    subst eu ev
    obtain ⟨LG, WT, HT, DD, A, _⟩ := N.ex
    have hr2 := near_both hn
    obtain ⟨at_, xs, hat, hl, rx, _⟩ := N.way hr2
    have hv := tab_some A.wait.nk hat
    refine ⟨_, rfl, _, _, _, _, _, rfl, hx, CK.cl, CK.nwait, rfl, _, rfl, _, rfl, two_ln (by show 2 ≤ _; decide), fun pt hpt => ?_⟩
    have k1 := upd_grow (o := .tup [V.int (a : Nat), V.int (b : Nat)]) hpt
    have hpt1 := upd_same (H := H) (a := pt) (o := .tup [V.int (a : Nat), V.int (b : Nat)])
    generalize upd H pt (.tup [V.int (a : Nat), V.int (b : Nat)]) = H1 at k1 hpt1 ⊢
    have d1 : DGet H1 p.wt (.ref pt) (valV (tabV p.tab) (rk (a, b))) := DGet.t (k1 _ _ A.wait.top) hpt1
    rw [hv] at d1
    exact ⟨_, _, rfl, d1, at_, xs, rfl, .inl ⟨SqL.of (k1 _ _ hl), fun t ht0 => q t _ (k1.trans (upd_grow ht0)) (.tup upd_same ((rx.mono k1).mono (upd_grow ht0)))⟩⟩
theorem ok_nstop (F : Md K "stop" "Network.stop" sNStop (MN K "stop") fd) (C : TreeK K mg) (CK : NetK K mg) (B : Bl mg) (O_Stopped : One P w K mg base "Stopped" "house") (o_check_house : Ok P w K mg base (L2N.CX P w) 3 "check_house" sChkH ["tree", "house"] (spChkH K)) : FnOk P w K mg base (L2N.CX P w) 4 (MN K "stop") fd ["self", "house"] (spNStop K) := by
  refine F.ok scNStop (fun vs H Q E h => ?_) (fun cdv A outer s H vs Q E hr h => ?_)
  · obtain ⟨p, n, rs, ns, S, v, d, rfl, _⟩ := h
    rfl
  · have tk : L2N.Takes (cxOf (L2N.CX P w) P w K mg base ["self", "house"] "Network.stop" (defScope sNStop) (MN K "stop") cdv A outer s H E) (fun cls d _ H => E cls d H) := L2N.takes_of rfl rfl rfl rfl
    refine ⟨_, (pss_cons (ps_expr (pe_oS o_check_house (hr.mono (by decide)) (by rfl) (fun σ => L2N.passAt tk σ) (pa_cons (pe_fld (pv 0) rfl) (pa_cons (pv 1) pa_nil))))
      (pss_cons (ps_if (pt_cmpR op_in_seq (pv 1) (pe_fld (pv 0) rfl) (by rfl))
        (pss_one (L2N.ps_raise rfl tk (by exact (pmk_e1 O_Stopped (hr.mono (by decide)) (pv 1) (by rfl)))))
        pss_nil)
      (pss_cons (ps_expr (pe_bm PySem.F.plainAttrs_list PySem.F.slot_list_append PySem.F.type_list_append mt_append (pe_fld (pv 0) rfl) (pa_cons (pv 1) pa_nil)))
      (pss_one (ps_expr (pe_bm PySem.F.plainAttrs_list PySem.F.slot_list_append PySem.F.type_list_append mt_append (pe_fld (pv 0) rfl) (pa_cons (pe_tup (pa_cons pe_str (pa_cons (pv 1) pa_nil))) pa_nil))))))), ?_⟩
    obtain ⟨p, n, rs, ns, S, v, d, rfl, N, l1, l2, O⟩ := h
    obtain ⟨⟨dx, hx⟩, T⟩ := N.xt
    refine ⟨_, rfl, _, _, _, _, _, rfl, hx, CK.cl, CK.ntree, rfl, _, rfl, p.t, n, rs, v, d, rfl, T, O.r, O.no, fun h hh ev ed => ?_⟩
    obtain ⟨no, ok⟩ := O.ok h hh ev ed
    subst ev
    obtain ⟨hh1, put⟩ := N.halt
    refine ⟨_, rfl, _, rfl, _, _, _, _, _, rfl, hx, CK.cl, CK.nhalt, rfl, p.ht, natV S.ht, rfl, .inl (SqL.of hh1), rfl, natV_flat _, _, rfl, iteB (fun e => ?_) fun e => ?_⟩
    · rw [if_neg Bool.false_ne_true, natV_in] at e
      exact ⟨_, rfl, no (of_decide_eq_true e)⟩
    · rw [if_neg Bool.false_ne_true, natV_in] at e
      have nh : h ∉ S.ht := of_decide_eq_false e
      have enat : natV S.ht ++ [V.int (h : Nat)] = natV (S.ht ++ [h]) := by
        unfold natV
        rw [List.map_append]
        rfl
      refine ⟨_, rfl, _, _, _, _, _, rfl, hx, CK.cl, CK.nhalt, rfl, .inl ⟨rfl, _, SqL.of hh1⟩, _, rfl, p.ht, natV S.ht, _, rfl, rfl, hh1, (by unfold natV; rw [List.length_map]; exact lt_ln (by omega)), ?_⟩
      obtain ⟨N2, b2⟩ := put (S.ht ++ [h])
      rw [enat]
      generalize upd H p.ht (.lst (natV (S.ht ++ [h]))) = H2 at N2 b2 ⊢
      obtain ⟨⟨dx2, hx2⟩, _⟩ := N2.xt
      obtain ⟨ds, hd, rd2, put2⟩ := N2.deed
      have lds : ds.length = S.dd.length := by
        have := rdds_len rd2
        rwa [List.length_map] at this
      refine ⟨_, rfl, _, _, _, _, _, rfl, hx2, CK.cl, CK.ndeed, rfl, .inl ⟨rfl, _, SqL.of hd⟩, _, rfl, two_ln (by show 2 ≤ _; decide), fun pt hpt => ?_⟩
      have k3 := upd_grow (o := .tup [V.str "stop", V.int (h : Nat)]) hpt
      have hpt3 := upd_same (H := H2) (a := pt) (o := .tup [V.str "stop", V.int (h : Nat)])
      generalize upd H2 pt (.tup [V.str "stop", V.int (h : Nat)]) = H3 at k3 hpt3 ⊢
      have N3 := N2.same k3
      obtain ⟨ds3, hd3, rd3, put3⟩ := N3.deed
      have e3 := k3 _ _ hd
      rw [hd3] at e3
      obtain rfl := HO.lst.inj (Option.some.inj e3)
      refine ⟨p.dd, ds3, _, rfl, rfl, hd3, (by rw [lds]; exact lt_ln (by omega)), ?_⟩
      have rnew : RddAll H3 (ds3 ++ [V.ref pt]) ((S.dd ++ [Deed.stop h]).map deedD) := by
        rw [List.map_append]
        exact rdds_add (.tup hpt3 (.cons (.str _) (.cons (.int _) .nil))) rd3
      obtain ⟨N4, b4⟩ := put3 _ (S.dd ++ [Deed.stop h]) rnew
      exact ok nh _ (b2.trans ((Bm.of k3).trans b4)) N4
end
end K04

namespace K04
open PySem PySem.Spec PyProof.Rows L2 Tn TL
theorem NetS.tell {K : PySem.W.Frag} {H : Hp} {p : Parts} {n : Nat} {rs : List Tm.Road} {ns : List Str} {S : NS} (N : NetS K H p n rs ns S) (l2 : S.dd.length < 1000) : ∃ ds, H p.dd = some (.lst ds) ∧ ds.length < sizeLine ∧
    ∀ (pt : Addr) (xs : List V) (d : Deed), H pt = none → Rdd (upd H pt (.tup xs)) (.ref pt) (deedD d) → upd H pt (.tup xs) p.dd = some (.lst ds) ∧
      NetS K (upd (upd H pt (.tup xs)) p.dd (.lst (ds ++ [.ref pt]))) p n rs ns { S with dd := S.dd ++ [d] } ∧ Bm p.M H (upd (upd H pt (.tup xs)) p.dd (.lst (ds ++ [.ref pt]))) := by
  obtain ⟨ds, hd, rd2, _⟩ := N.deed
  have lds : ds.length = S.dd.length := by
    have := rdds_len rd2
    rwa [List.length_map] at this
  refine ⟨ds, hd, by rw [lds]; exact lt_ln (by omega), fun pt xs d hpt r => ?_⟩
  have k3 := upd_grow (o := .tup xs) hpt
  generalize upd H pt (.tup xs) = H3 at k3 r ⊢
  obtain ⟨ds3, hd3, rd3, put3⟩ := (N.same k3).deed
  have e3 := k3 _ _ hd
  rw [hd3] at e3
  obtain rfl := HO.lst.inj (Option.some.inj e3)
  have rnew : RddAll H3 (ds3 ++ [V.ref pt]) ((S.dd ++ [d]).map deedD) := by
    rw [List.map_append]
    exact rdds_add r rd3
  obtain ⟨N4, b4⟩ := put3 _ (S.dd ++ [d]) rnew
  exact ⟨hd3, N4, (Bm.of k3).trans b4⟩
section
variable {P : Program} {w : World} {K : PySem.W.Frag} {mg : Str → Option Value} {base : Heap} {fd : FuncData}
theorem ok_nlose (F : Md K "lose" "Network.lose" sNLose (MN K "lose") fd) (C : TreeK K mg) (CK : NetK K mg) (B : Bl mg) (o_check_road : Ok P w K mg base (L2N.CX P w) 4 "check_road" sChkR ["tree", "u", "v"] (spChkR K))
    (O_take : MeOk P w K mg base (L2N.CX P w) 3 (CN K) "_take" ["self", "u", "v"] (spNTake K)) : FnOk P w K mg base (L2N.CX P w) 5 (MN K "lose") fd ["self", "u", "v"] (spNLose K) := by
  refine F.ok scNLose (fun vs H Q E h => ?_) (fun cdv A outer s H vs Q E hr h => ?_)
  · obtain ⟨p, n, rs, ns, S, u, v, du, dv, rfl, _⟩ := h
    rfl
  · have tk : L2N.Takes (cxOf (L2N.CX P w) P w K mg base ["self", "u", "v", "line"] "Network.lose" (defScope sNLose) (MN K "lose") cdv A outer s H E) (fun cls d _ H => E cls d H) := L2N.takes_of rfl rfl rfl rfl
    refine ⟨_, (pss_cons (ps_expr (pe_oS o_check_road (hr.mono (by decide)) (by rfl) (fun σ => L2N.passAt tk σ) (pa_cons (pe_fld (pv 0) rfl) (pa_cons (pv 1) (pa_cons (pv 2) pa_nil)))))
      (pss_cons (ps_set (i := 3) scNLose.nd rfl (Or.inl rfl) (pe_me O_take (pv 0) CK.cl (hr.mono (by decide)) (fun σ => L2N.passAt tk σ) (pa_cons (pv 1) (pa_cons (pv 2) pa_nil))))
      (pss_cons (ps_expr (pe_bm PySem.F.plainAttrs_list PySem.F.slot_list_append PySem.F.type_list_append mt_append (pe_fld (pv 0) rfl) (pa_cons (pe_tup (pa_cons pe_str (pa_cons (pv 1) (pa_cons (pv 2) pa_nil)))) pa_nil)))
      (pss_one (ps_ret (pv 3)))))), ?_⟩
    obtain ⟨p, n, rs, ns, S, u, v, du, dv, rfl, N, l2, O⟩ := h
    obtain ⟨⟨dx, hx⟩, T⟩ := N.xt
    refine ⟨_, rfl, _, _, _, _, _, rfl, hx, CK.cl, CK.ntree, rfl, _, rfl, _, rfl, p.t, n, rs, u, v, du, dv, rfl, T, O.r, O.no, fun a ha eu ed => ?_⟩
    have O2 := O.ok a ha eu ed
    refine ⟨O2.r, O2.no, fun b hb ev ed2 => ?_⟩
    obtain ⟨no, ok⟩ := O2.ok b hb ev ed2
    refine ⟨no, fun hn => ?_⟩
    have ok2 := ok hn
    subst eu ev
    refine ⟨_, rfl, p.x, dx, _, rfl, hx, rfl, _, rfl, _, rfl, p, n, rs, ns, S, a, b, rfl, N, near_both hn, ok2.1, fun l ls y H1 el b1 ry N1 => ?_⟩
    obtain ⟨⟨dx1, hx1⟩, _⟩ := N1.xt
    obtain ⟨ds, hd, lds, tell⟩ := N1.tell l2
    refine ⟨_, rfl, _, _, _, _, _, rfl, hx1, CK.cl, CK.ndeed, rfl, .inl ⟨rfl, _, SqL.of hd⟩, _, rfl, _, rfl, two_ln (by show 3 ≤ _; decide), fun pt hpt => ?_⟩
    obtain ⟨hd3, N4, b4⟩ := tell pt _ (.lose a b) hpt (.tup upd_same (.cons (.str _) (.cons (.int _) (.cons (.int _) .nil))))
    exact ⟨p.dd, ds, _, rfl, rfl, hd3, lds, _, rfl, ok2.2 l ls y _ el (b1.trans b4) (rdd_bm b4 ry rfl) N4⟩
end
end K04

namespace K04
open PySem PySem.Spec PyProof.Rows L2 Tn TL
abbrev sNArr : Stmt := cdef 34 10
theorem scNArr : FnScope ["self", "house", "line", "source", "near"] ["self", "house", "line", "source"] (defScope sNArr) := ⟨rfl, rfl, rfl, by decide +kernel, rfl, by decide +kernel, by decide +kernel⟩
theorem nb_some {h x a b : Nat} (e : Tm.nb h (a, b) = some x) : (a = h ∧ b = x) ∨ (b = h ∧ a = x) := by
  unfold Tm.nb at e
  by_cases c1 : a = h
  · rw [if_pos c1] at e
    exact .inl ⟨c1, Option.some.inj e⟩
  · rw [if_neg c1] at e
    by_cases c2 : b = h
    · rw [if_pos c2] at e
      exact .inr ⟨c2, Option.some.inj e⟩
    · rw [if_neg c2] at e
      cases e
theorem near_nodup {n : Nat} {rs : List Tm.Road} (ok : Tm.RoadsOk n rs) (h : Nat) : (Tm.near rs h).Nodup := by
  unfold Tm.near
  refine List.pairwise_filterMap.mpr ((List.Pairwise.and_mem.mp ok.asc).imp ?_)
  rintro ⟨a, b⟩ ⟨c, d⟩ ⟨m1, m2, lt⟩ x hx y hy e
  subst e
  have h1 := (ok.bnd _ m1).1
  have h2 := (ok.bnd _ m2).1
  simp only at h1 h2
  have ne : a = c → b = d → False := fun z1 z2 => by
    subst z1 z2
    simp [Tm.ltR] at lt
  have ne2 : ¬ (a = c ∧ b = d) := fun ⟨z1, z2⟩ => ne z1 z2
  rcases nb_some hx with ⟨p1, p2⟩ | ⟨p1, p2⟩ <;> rcases nb_some hy with ⟨p3, p4⟩ | ⟨p3, p4⟩ <;> omega
/-- the line l comes to h from src -/
def NS.arrive (S : NS) (rs : List Tm.Road) (h : Nat) (l : Line) (src : Option Nat) : NS :=
  { S with lg := fun q => if q = h then S.lg q ++ [l] else S.lg q, wt := fun r => if r.1 = h ∧ r.2 ∈ Tm.near rs h ∧ some r.2 ≠ src then S.wt r ++ [l] else S.wt r }
theorem NetS.congr {K : PySem.W.Frag} {H : Hp} {p : Parts} {n : Nat} {rs : List Tm.Road} {ns : List Str} {S T : NS} (N : NetS K H p n rs ns S) (e1 : ∀ h, h < n → T.lg h = S.lg h) (e2 : ∀ r ∈ both rs, T.wt r = S.wt r) (e3 : T.ht = S.ht) (e4 : T.dd = S.dd) : NetS K H p n rs ns T := by
  obtain ⟨LG, WT, HT, DD, A, a1, a2, a3, a4⟩ := N.ex
  exact ⟨LG, WT, HT, DD, A, fun h lt => by rw [e1 h lt]; exact a1 h lt, fun r hr => by rw [e2 r hr]; exact a2 r hr, by rw [e3]; exact a3, by rw [e4]; exact a4⟩
/-- after i of the neighbours -/
def NS.arr (S : NS) (rs : List Tm.Road) (h : Nat) (l : Line) (src : Option Nat) (i : Nat) : NS :=
  { S with lg := fun q => if q = h then S.lg q ++ [l] else S.lg q, wt := fun r => if r.1 = h ∧ r.2 ∈ (Tm.near rs h).take i ∧ some r.2 ≠ src then S.wt r ++ [l] else S.wt r }
theorem arr_step {S : NS} {rs : List Tm.Road} {h : Nat} {l : Line} {src : Option Nat} {i o : Nat} (li : i < (Tm.near rs h).length) (ho : (Tm.near rs h)[i] = o) (r : Tm.Road) :
    (S.arr rs h l src (i + 1)).wt r = if r = (h, o) ∧ some o ≠ src then S.wt r ++ [l] else (S.arr rs h l src i).wt r := by
  have m : ∀ z, z ∈ (Tm.near rs h).take (i + 1) ↔ z ∈ (Tm.near rs h).take i ∨ z = o := fun z => by
    rw [List.take_succ_eq_append_getElem li, ho, List.mem_append, List.mem_singleton]
  unfold NS.arr
  simp only [m]
  obtain ⟨a, b⟩ := r
  simp only [Prod.mk.injEq]
  by_cases c1 : a = h ∧ b = o
  · obtain ⟨rfl, rfl⟩ := c1
    by_cases c2 : some b ≠ src
    · rw [if_pos ⟨rfl, .inr rfl, c2⟩, if_pos ⟨⟨rfl, rfl⟩, c2⟩]
    · rw [if_neg fun z => c2 z.2.2, if_neg fun z => c2 z.2, if_neg fun z => c2 z.2.2]
  · rw [if_neg (show ¬((a = h ∧ b = o) ∧ some o ≠ src) from fun z => c1 z.1)]
    by_cases c2 : a = h ∧ b ∈ (Tm.near rs h).take i ∧ some b ≠ src
    · rw [if_pos ⟨c2.1, .inl c2.2.1, c2.2.2⟩, if_pos c2]
    · rw [if_neg c2, if_neg]
      rintro ⟨z1, z2, z3⟩
      rcases z2 with z2 | z2
      · exact c2 ⟨z1, z2, z3⟩
      · exact c1 ⟨z1, z2⟩
theorem arr_old {S : NS} {n : Nat} {rs : List Tm.Road} {h : Nat} {l : Line} {src : Option Nat} {i o : Nat} (ok : Tm.RoadsOk n rs) (li : i < (Tm.near rs h).length) (ho : (Tm.near rs h)[i] = o) : (S.arr rs h l src i).wt (h, o) = S.wt (h, o) := by
  unfold NS.arr
  refine if_neg fun z => ?_
  have nd := near_nodup ok h
  have nd2 := nd.sublist (List.take_sublist (i + 1) _)
  rw [List.take_succ_eq_append_getElem li, ho] at nd2
  exact (List.nodup_append.mp nd2).2.2 o z.2.1 o (by simp) rfl
def spNArr (K : PySem.W.Frag) : Sp := fun vs H Q _ => ∃ (p : Parts) (n : Nat) (rs : List Tm.Road) (ns : List Str) (S : NS) (h : Nat) (y : V) (l : Line) (src : Option Nat), vs = [.ref p.x, .int h, y, barV src] ∧ NetS K H p n rs ns S ∧ h < n ∧ Rdd H y (lineD l) ∧
  (S.lg h).length < 1000 ∧ (∀ r ∈ both rs, (S.wt r).length < 1000) ∧ ∀ H', Bm p.M H H' → NetS K H' p n rs ns (S.arrive rs h l src) → Q .non H'
section
variable {P : Program} {w : World} {K : PySem.W.Frag} {mg : Str → Option Value} {base : Heap} {fd : FuncData}
theorem ok_narr (F : Md K "_arrive" "Network._arrive" sNArr (MN K "_arrive") fd) (C : TreeK K mg) (CK : NetK K mg) : FnOk P w K mg base CX0 1 (MN K "_arrive") fd ["self", "house", "line", "source"] (spNArr K) := by
  refine F.ok scNArr (fun vs H Q E h => ?_) (fun cdv A outer s H vs Q E hr h => ?_)
  · obtain ⟨p, n, rs, ns, S, h, y, l, src, rfl, _⟩ := h
    rfl
  · have hu : (cxOf CX0 P w K mg base ["self", "house", "line", "source", "near"] "Network._arrive" (defScope sNArr) (MN K "_arrive") cdv A outer s H E).A.units + 1 < cLine := by
      have z := hr.un
      show (A.deeper _).units + 1 < cLine
      omega
    refine ⟨_, (pss_cons (ps_expr (pe_bm PySem.F.plainAttrs_list PySem.F.slot_list_append PySem.F.type_list_append mt_append (pe_ix ix_seq (pe_fld (pv 0) rfl) (pv 1) fun _ _ => rfl) (pa_cons (pv 2) pa_nil)))
      (pss_one (ps_for (passes_of rfl) rfl (pi_seq (pe_ix ix_seq (pe_fld (pe_fld (pv 0) rfl) rfl) (pv 1) fun _ _ => rfl)) (pg_name (i := 4) scNArr.nd rfl (Or.inl rfl))
        (pss_one (ps_if (pt_cmpR op_ne (pv 4) (pv 3) (nomark _))
          (pss_one (ps_expr (pe_bm PySem.F.plainAttrs_list PySem.F.slot_list_append PySem.F.type_list_append mt_append (pe_dget hu (pe_fld (pv 0) rfl) (pe_tup (pa_cons (pv 1) (pa_cons (pv 4) pa_nil))) (fun _ _ => rfl)) (pa_cons (pv 2) pa_nil))))
          pss_nil))))), ?_⟩
    obtain ⟨p, n, rs, ns, S, h, y, l, src, rfl, N, hh, ry, l1, l2, q⟩ := h
    obtain ⟨⟨dx, hx⟩, T⟩ := N.xt
    obtain ⟨a, xs, ha, ht, hl, rx, put⟩ := N.log hh
    have lxs : xs.length = (S.lg h).length := by
      have := rdds_len rx
      rwa [List.length_map] at this
    refine ⟨_, rfl, _, _, _, _, _, rfl, hx, CK.cl, CK.nlogs, rfl, _, rfl, ixAt ht (atI_nat (by rw [List.getElem?_map, ha]; rfl)) ?_⟩
    refine ⟨.inl ⟨rfl, _, SqL.of hl⟩, _, rfl, a, xs, _, rfl, rfl, hl, (by rw [lxs]; exact lt_ln (by omega)), ?_⟩
    have rnew : RddAll H (xs ++ [y]) ((S.lg h ++ [l]).map lineD) := by
      rw [List.map_append]
      exact rdds_add ry rx
    obtain ⟨N1, b1⟩ := put (xs ++ [y]) (S.lg h ++ [l]) rnew
    have ry1 := rdd_bm b1 ry rfl
    generalize upd H a (.lst (xs ++ [y])) = H1 at N1 b1 ry1 ⊢
    obtain ⟨⟨dx1, hx1⟩, T1⟩ := N1.xt
    obtain ⟨dt, rt, nt, g1, g2, g3⟩ := T1.ex
    obtain ⟨rows, tt, t1, t2, t3⟩ := near_row g3 hh
    refine ⟨_, rfl, _, _, _, _, _, rfl, hx1, CK.cl, CK.ntree, rfl, _, _, _, _, _, rfl, g1, C.cl, C.nn, rfl, _, rfl, ixTup (SqT.of t1) t2 ?_⟩
    refine ⟨tt, natV (Tm.near rs h), rfl, .inr (SqT.of t3), fun J w => ?_⟩
    refine for_it w (fun i σ H' => Bm p.M H1 H' ∧ NetS K H' p n rs ns (S.arr rs h l src i) ∧ ∃ z : Option V, σ = [some (.ref p.x), some (.int (h : Nat)), some y, some (barV src), z]) ?_ (fun i σ H' _ z => ?_) ?_ ?_
    · refine ⟨Bm.of fun _ _ e => e, N1.congr (fun q _ => ?_) (fun r _ => ?_) rfl rfl, none, rfl⟩
      · unfold NS.arr NS.setL
        by_cases c : q = h
        · simp only [if_pos c, c]
        · simp only [if_neg c]
      · unfold NS.arr NS.setL
        simp
    · rw [z.1.tup t3, t3]
    · rintro i x σ H2 H3 hi ⟨k2, N2, z, rfl⟩ ⟨rfl, hx2⟩
      obtain ⟨li, rfl⟩ := nat_get hx2
      generalize ho : (Tm.near rs h)[i] = o
      have om : o ∈ Tm.near rs h := by rw [← ho]; exact List.getElem_mem li
      have nb : decide (V.int (o : Int) = barV src) = decide (some o = src) := by
        apply decide_eq_decide.mpr
        cases src with
        | none => simp [barV]
        | some z =>
          simp only [barV, V.int.injEq, Option.some.injEq]
          omega
      refine ⟨_, rfl, _, rfl, ?_, _, rfl, iteB (fun c1 => ?_) fun c1 => ?_⟩
      · cases src <;> rfl
      · rw [nb] at c1
        have c1 := of_decide_eq_false (not_t c1)
        have hr2 := near_both om
        obtain ⟨⟨dx2, hx2⟩, _⟩ := N2.xt
        refine ⟨_, rfl, _, _, _, _, _, rfl, hx2, CK.cl, CK.nwait, rfl, _, rfl, _, rfl, two_ln (by show 2 ≤ _; decide), fun pt hpt => ?_⟩
        have k3 := upd_grow (o := .tup [V.int (h : Nat), V.int (o : Nat)]) hpt
        have hpt1 := upd_same (H := H3) (a := pt) (o := .tup [V.int (h : Nat), V.int (o : Nat)])
        generalize upd H3 pt (.tup [V.int (h : Nat), V.int (o : Nat)]) = H4 at k3 hpt1 ⊢
        have N4 := N2.same k3
        obtain ⟨LG, WT, HT, DD, A, _⟩ := N4.ex
        obtain ⟨aw, ws, haw, hlw, rw_, putw⟩ := N4.way hr2
        have d1 : DGet H4 p.wt (.ref pt) (valV (tabV p.tab) (rk (h, o))) := DGet.t A.wait.top hpt1
        rw [tab_some A.wait.nk haw] at d1
        rw [arr_old T.ok li ho] at rw_
        have lws : ws.length = (S.wt (h, o)).length := by
          have := rdds_len rw_
          rwa [List.length_map] at this
        have lo := l2 _ hr2
        refine ⟨_, _, rfl, d1, .inl ⟨rfl, _, SqL.of hlw⟩, _, rfl, aw, ws, _, rfl, rfl, hlw, (by rw [lws]; exact lt_ln (by omega)), ?_⟩
        have ry4 := rdd_bm (k2.trans (Bm.of k3)) ry1 rfl
        have rn4 : RddAll H4 (ws ++ [y]) ((S.wt (h, o) ++ [l]).map lineD) := by
          rw [List.map_append]
          exact rdds_add ry4 rw_
        obtain ⟨N5, b5⟩ := putw _ _ rn4
        refine ⟨k2.trans ((Bm.of k3).trans b5), N5.congr (fun _ _ => rfl) (fun r _ => ?_) rfl rfl, _, rfl⟩
        rw [arr_step li ho]
        unfold NS.setW
        by_cases e : r = (h, o)
        · subst e
          rw [if_pos ⟨rfl, c1⟩]
          simp only [if_true]
        · rw [if_neg fun z => e z.1]
          simp only [if_neg e]
      · rw [nb] at c1
        have c1 := of_decide_eq_true (not_f c1)
        refine ⟨k2, N2.congr (fun _ _ => rfl) (fun r _ => ?_) rfl rfl, _, rfl⟩
        rw [arr_step li ho, if_neg fun z => z.2 c1]
    · rintro σ H2 ⟨k2, N2, z, rfl⟩
      have ln : (natV (Tm.near rs h)).length = (Tm.near rs h).length := by
        unfold natV
        rw [List.length_map]
      rw [ln] at N2
      refine q _ (b1.trans k2) (N2.congr (fun _ _ => rfl) (fun r _ => ?_) rfl rfl)
      unfold NS.arrive NS.arr
      simp only [List.take_length]
end
end K04

namespace K04
open PySem PySem.Spec PyProof.Rows L2 Tn TL
abbrev sNHand : Stmt := cdef 34 4
theorem scNHand : FnScope ["self", "u", "v", "line"] ["self", "u", "v"] (defScope sNHand) := ⟨rfl, rfl, rfl, by decide +kernel, rfl, by decide +kernel, by decide +kernel⟩
def spNHand (K : PySem.W.Frag) : Sp := fun vs H Q E => ∃ (p : Parts) (n : Nat) (rs : List Tm.Road) (ns : List Str) (S : NS) (u v : V) (du dv : PyData), vs = [.ref p.x, u, v] ∧ NetS K H p n rs ns S ∧ S.dd.length < 1000 ∧ (∀ h, h < n → (S.lg h).length < 1000) ∧ (∀ r ∈ both rs, (S.wt r).length < 1000) ∧
  One1 K H n u du E fun a => One1 K H n v dv E fun b => (b ∉ Tm.near rs a → Refuses2 K "NotARoad" "u" "v" u v H E) ∧ (b ∈ Tm.near rs a → (a ∈ S.ht → Refuses K "Stopped" "house" u H E) ∧ (a ∉ S.ht → b ∈ S.ht → Refuses K "Stopped" "house" v H E) ∧ (a ∉ S.ht → b ∉ S.ht →
    (S.wt (a, b) = [] → Refuses2 K "NothingUnderWay" "u" "v" u v H E) ∧
    ∀ l ls y H', S.wt (a, b) = l :: ls → Bm p.M H H' → Rdd H' y (lineD l) → NetS K H' p n rs ns { (S.setW (a, b) ls).arrive rs b l (some a) with dd := S.dd ++ [.hand a b] } → Q y H'))
section
variable {P : Program} {w : World} {K : PySem.W.Frag} {mg : Str → Option Value} {base : Heap} {fd : FuncData}
theorem ok_nhand (F : Md K "hand" "Network.hand" sNHand (MN K "hand") fd) (C : TreeK K mg) (CK : NetK K mg) (B : Bl mg) (O_Stopped : One P w K mg base "Stopped" "house") (o_check_road : Ok P w K mg base (L2N.CX P w) 4 "check_road" sChkR ["tree", "u", "v"] (spChkR K))
    (O_take : MeOk P w K mg base (L2N.CX P w) 3 (CN K) "_take" ["self", "u", "v"] (spNTake K)) (O_arr : MeOk P w K mg base CX0 1 (CN K) "_arrive" ["self", "house", "line", "source"] (spNArr K)) : FnOk P w K mg base (L2N.CX P w) 5 (MN K "hand") fd ["self", "u", "v"] (spNHand K) := by
  refine F.ok scNHand (fun vs H Q E h => ?_) (fun cdv A outer s H vs Q E hr h => ?_)
  · obtain ⟨p, n, rs, ns, S, u, v, du, dv, rfl, _⟩ := h
    rfl
  · have tk : L2N.Takes (cxOf (L2N.CX P w) P w K mg base ["self", "u", "v", "line"] "Network.hand" (defScope sNHand) (MN K "hand") cdv A outer s H E) (fun cls d _ H => E cls d H) := L2N.takes_of rfl rfl rfl rfl
    refine ⟨_, (pss_cons (ps_expr (pe_oS o_check_road (hr.mono (by decide)) (by rfl) (fun σ => L2N.passAt tk σ) (pa_cons (pe_fld (pv 0) rfl) (pa_cons (pv 1) (pa_cons (pv 2) pa_nil)))))
      (pss_cons (ps_if (pt_cmpR op_in_seq (pv 1) (pe_fld (pv 0) rfl) (by rfl))
        (pss_one (L2N.ps_raise rfl tk (by exact (pmk_e1 O_Stopped (hr.mono (by decide)) (pv 1) (by rfl)))))
        pss_nil)
      (pss_cons (ps_if (pt_cmpR op_in_seq (pv 2) (pe_fld (pv 0) rfl) (by rfl))
        (pss_one (L2N.ps_raise rfl tk (by exact (pmk_e1 O_Stopped (hr.mono (by decide)) (pv 2) (by rfl)))))
        pss_nil)
      (pss_cons (ps_set (i := 3) scNHand.nd rfl (Or.inl rfl) (pe_me O_take (pv 0) CK.cl (hr.mono (by decide)) (fun σ => L2N.passAt tk σ) (pa_cons (pv 1) (pa_cons (pv 2) pa_nil))))
      (pss_cons (ps_expr (pe_me O_arr (E := fun _ => noE) (pv 0) CK.cl (hr.mono (by decide)) pass_none (pa_cons (pv 2) (pa_cons (pv 3) (pa_cons (pv 1) pa_nil)))))
      (pss_cons (ps_expr (pe_bm PySem.F.plainAttrs_list PySem.F.slot_list_append PySem.F.type_list_append mt_append (pe_fld (pv 0) rfl) (pa_cons (pe_tup (pa_cons pe_str (pa_cons (pv 1) (pa_cons (pv 2) pa_nil)))) pa_nil)))
      (pss_one (ps_ret (pv 3))))))))), ?_⟩
    obtain ⟨p, n, rs, ns, S, u, v, du, dv, rfl, N, l0, l1, l2, O⟩ := h
    obtain ⟨⟨dx, hx⟩, T⟩ := N.xt
    refine ⟨_, rfl, _, _, _, _, _, rfl, hx, CK.cl, CK.ntree, rfl, _, rfl, _, rfl, p.t, n, rs, u, v, du, dv, rfl, T, O.r, O.no, fun a ha eu ed => ?_⟩
    have O2 := O.ok a ha eu ed
    refine ⟨O2.r, O2.no, fun b hb ev ed2 => ?_⟩
    have ok := O2.ok b hb ev ed2
    refine ⟨ok.1, fun hn => ?_⟩
    obtain ⟨s1, s2, ok3⟩ := ok.2 hn
    subst eu ev
    obtain ⟨hh1, _⟩ := N.halt
    refine ⟨_, rfl, _, rfl, _, _, _, _, _, rfl, hx, CK.cl, CK.nhalt, rfl, p.ht, natV S.ht, rfl, .inl (SqL.of hh1), rfl, natV_flat _, _, rfl, iteB (fun e => ?_) fun e => ?_⟩
    · rw [if_neg Bool.false_ne_true, natV_in] at e
      exact ⟨_, rfl, s1 (of_decide_eq_true e)⟩
    rw [if_neg Bool.false_ne_true, natV_in] at e
    have na : a ∉ S.ht := of_decide_eq_false e
    refine ⟨_, rfl, _, rfl, _, _, _, _, _, rfl, hx, CK.cl, CK.nhalt, rfl, p.ht, natV S.ht, rfl, .inl (SqL.of hh1), rfl, natV_flat _, _, rfl, iteB (fun e2 => ?_) fun e2 => ?_⟩
    · rw [if_neg Bool.false_ne_true, natV_in] at e2
      exact ⟨_, rfl, s2 na (of_decide_eq_true e2)⟩
    rw [if_neg Bool.false_ne_true, natV_in] at e2
    obtain ⟨no, ok4⟩ := ok3 na (of_decide_eq_false e2)
    have hr2 := near_both hn
    refine ⟨_, rfl, p.x, dx, _, rfl, hx, rfl, _, rfl, _, rfl, p, n, rs, ns, S, a, b, rfl, N, hr2, no, fun l ls y H1 el b1 ry N1 => ?_⟩
    obtain ⟨⟨dx1, hx1⟩, T1⟩ := N1.xt
    have lw := l2 _ hr2
    refine ⟨_, rfl, p.x, dx1, _, rfl, hx1, rfl, _, rfl, _, rfl, _, rfl, p, n, rs, ns, S.setW (a, b) ls, b, y, l, some a, rfl, N1, hb, ry, l1 b hb, (fun r hr3 => ?_), fun H2 b2 N2 => ?_⟩
    · unfold NS.setW
      by_cases e3 : r = (a, b)
      · rw [el] at lw
        simp only [if_pos e3]
        rw [List.length_cons] at lw
        omega
      · simp only [if_neg e3]
        exact l2 r hr3
    obtain ⟨⟨dx2, hx2⟩, _⟩ := N2.xt
    obtain ⟨ds, hd, lds, tell⟩ := N2.tell l0
    refine ⟨_, rfl, _, _, _, _, _, rfl, hx2, CK.cl, CK.ndeed, rfl, .inl ⟨rfl, _, SqL.of hd⟩, _, rfl, _, rfl, two_ln (by show 3 ≤ _; decide), fun pt hpt => ?_⟩
    obtain ⟨hd3, N4, b4⟩ := tell pt _ (.hand a b) hpt (.tup upd_same (.cons (.str _) (.cons (.int _) (.cons (.int _) .nil))))
    exact ⟨p.dd, ds, _, rfl, rfl, hd3, lds, _, rfl, ok4 l ls y _ el ((b1.trans b2).trans b4) (rdd_bm (b2.trans b4) ry rfl) N4⟩
end
end K04

namespace K04
open PySem PySem.Spec PyProof.Rows L2 Tn TL
abbrev sNMake : Stmt := cdef 34 3
theorem scNMake : FnScope ["self", "house", "text", "line"] ["self", "house", "text"] (defScope sNMake) := ⟨rfl, rfl, rfl, by decide +kernel, rfl, by decide +kernel, by decide +kernel⟩
theorem strOk_of {z : Str} (h : ∀ c ∈ z.cps.toList, c ≤ 126) : PyData.strOk z = true := by
  unfold PyData.strOk
  rw [← Array.all_toList, List.all_eq_true]
  intro c hc
  have := h c hc
  exact decide_eq_true (by omega)
/-- a line of signs that can be laid -/
def lineOk (l : Line) : Prop := PyData.strOk l.1 = true ∧ PyData.strOk l.2 = true
theorem lines_shaped {l : List Line} (h : ∀ x ∈ l, lineOk x) : SeqAt.shaped (.list (l.map lineD)) = true := by
  unfold SeqAt.shaped
  have a : PyData.canLayAll0 (l.map lineD) = true ∧ PyData.depthAll (l.map lineD) ≤ 1 := by
    induction l with
    | nil => exact ⟨rfl, Nat.zero_le _⟩
    | cons r rs ih =>
      have ih := ih fun x m => h x (List.mem_cons_of_mem _ m)
      have hr := h r List.mem_cons_self
      refine ⟨?_, ?_⟩
      · have := ih.1
        simp only [List.map_cons, PyData.canLayAll0, PyData.canLay0, lineD, hr.1, hr.2, this, Bool.and_true]
      · have := ih.2
        simp only [List.map_cons, PyData.depthAll, PyData.depth, lineD]
        omega
  have c : (PyData.list (l.map lineD)).canLay0 = true := by simpa [PyData.canLay0] using a.1
  rw [c, Bool.true_and]
  apply decide_eq_true
  simp only [PyData.depth]
  have := a.2
  omega
theorem line_shaped {l : Line} (h : lineOk l) : SeqAt.shaped (lineD l) = true := by
  unfold SeqAt.shaped lineD
  simp [PyData.canLay0, PyData.canLayAll0, PyData.depth, PyData.depthAll, h.1, h.2]
theorem shaped_lay {d : PyData} (h : SeqAt.shaped d = true) : d.canLay0 = true := by
  unfold SeqAt.shaped at h
  simp only [Bool.and_eq_true] at h
  exact h.1
theorem signs_of {lo hi : Nat} {z : Str} (h : signs lo hi z = true) : ∀ c ∈ z.cps.toList, c ≤ hi := fun c hc => by
  unfold signs at h
  have := List.all_eq_true.mp h c hc
  simp only [Bool.and_eq_true, decide_eq_true_eq] at this
  exact this.2
theorem name_ok {z : Str} (h : nameS z = true) : PyData.strOk z = true := strOk_of fun c hc => by
  unfold nameS at h
  simp only [Bool.and_eq_true] at h
  have := signs_of h.2.2 c hc
  omega
theorem text_ok {z : Str} (h : textS z = true) : PyData.strOk z = true := strOk_of fun c hc => by
  unfold textS at h
  simp only [Bool.and_eq_true] at h
  exact signs_of h.2 c hc
theorem NetS.named {K : PySem.W.Frag} {H : Hp} {p : Parts} {n : Nat} {rs : List Tm.Road} {ns : List Str} {S : NS} (N : NetS K H p n rs ns S) : H p.nm = some (.tup (ns.map V.str)) ∧ NamesOk n ns :=
  let ⟨_, _, _, _, A, _⟩ := N.ex
  ⟨A.names, A.nok⟩
theorem line_eqv (a b : Line) : PyData.eqv (lineD a) (lineD b) = decide (a = b) := by
  obtain ⟨a1, a2⟩ := a
  obtain ⟨b1, b2⟩ := b
  unfold lineD
  by_cases h1 : a1 = b1
  · by_cases h2 : a2 = b2
    · subst h1 h2; simp [PyData.eqv, PyData.eqvAll]
    · simp [PyData.eqv, PyData.eqvAll, h2]
  · simp [PyData.eqv, PyData.eqvAll, h1]
theorem lines_any (l : Line) (ls : List Line) : ((ls.map lineD).any fun z => PyData.eqv z (lineD l)) = decide (l ∈ ls) := by
  induction ls with
  | nil => rfl
  | cons a ls ih =>
    rw [List.map_cons, List.any_cons, ih, line_eqv]
    by_cases e : a = l
    · subst e; simp
    · have : ¬ l = a := fun z => e z.symm
      simp [e, this]
def spNMake (K : PySem.W.Frag) : Sp := fun vs H Q E => ∃ (p : Parts) (n : Nat) (rs : List Tm.Road) (ns : List Str) (S : NS) (u v : V) (du dv : PyData), vs = [.ref p.x, u, v] ∧ NetS K H p n rs ns S ∧ S.dd.length < 1000 ∧ (∀ h, h < n → (S.lg h).length < 1000) ∧ (∀ r ∈ both rs, (S.wt r).length < 1000) ∧ (∀ h, h < n → ∀ l ∈ S.lg h, lineOk l) ∧ Rdd H v dv ∧ (∀ z, dv = .str z → z.length ≤ 100000) ∧
  One1 K H n u du E fun a => (strD textS dv = false → Refuses K "InvalidText" "given" v H E) ∧ ∀ z, dv = .str z → textS z = true → (a ∈ S.ht → Refuses K "Stopped" "house" u H E) ∧ (a ∉ S.ht → ∀ nm, ns[a]? = some nm → ((nm, z) ∈ S.lg a → Refuses2 K "Twice" "house" "text" u v H E) ∧
    ((nm, z) ∉ S.lg a → ∀ y H', Bm p.M H H' → Rdd H' y (lineD (nm, z)) → NetS K H' p n rs ns { S.arrive rs a (nm, z) none with dd := S.dd ++ [.make a z] } → Q y H'))
section
variable {P : Program} {w : World} {K : PySem.W.Frag} {mg : Str → Option Value} {base : Heap} {fd : FuncData}
theorem ok_nmake (F : Md K "make" "Network.make" sNMake (MN K "make") fd) (C : TreeK K mg) (CK : NetK K mg) (B : Bl mg) (O_Stopped : One P w K mg base "Stopped" "house") (O_InvalidText : One P w K mg base "InvalidText" "given") (O_Twice : Two P w K mg base "Twice" "house" "text") (o_check_house : Ok P w K mg base (L2N.CX P w) 3 "check_house" sChkH ["tree", "house"] (spChkH K))
    (o_is_text : Ok P w K mg base CX0 1 "is_text" sIsText ["value"] (spName textS)) (O_arr : MeOk P w K mg base CX0 1 (CN K) "_arrive" ["self", "house", "line", "source"] (spNArr K)) : FnOk P w K mg base (L2N.CX P w) 4 (MN K "make") fd ["self", "house", "text"] (spNMake K) := by
  refine F.ok scNMake (fun vs H Q E h => ?_) (fun cdv A outer s H vs Q E hr h => ?_)
  · obtain ⟨p, n, rs, ns, S, u, v, du, dv, rfl, _⟩ := h
    rfl
  · have tk : L2N.Takes (cxOf (L2N.CX P w) P w K mg base ["self", "house", "text", "line"] "Network.make" (defScope sNMake) (MN K "make") cdv A outer s H E) (fun cls d _ H => E cls d H) := L2N.takes_of rfl rfl rfl rfl
    have hu : (cxOf (L2N.CX P w) P w K mg base ["self", "house", "text", "line"] "Network.make" (defScope sNMake) (MN K "make") cdv A outer s H E).A.units + 65 < cLine := by
      have z := hr.un
      show (A.deeper _).units + 65 < cLine
      omega
    refine ⟨_, (pss_cons (ps_expr (pe_oS o_check_house (hr.mono (by decide)) (by rfl) (fun σ => L2N.passAt tk σ) (pa_cons (pe_fld (pv 0) rfl) (pa_cons (pv 1) pa_nil))))
      (pss_cons (ps_if (pt_not (pt_val (pe_o o_is_text (hr.mono (by decide)) (by rfl) (pa_cons (pv 2) pa_nil))))
        (pss_one (L2N.ps_raise rfl tk (by exact (pmk_e1 O_InvalidText (hr.mono (by decide)) (pv 2) (by rfl)))))
        pss_nil)
      (pss_cons (ps_if (pt_cmpR op_in_seq (pv 1) (pe_fld (pv 0) rfl) (by rfl))
        (pss_one (L2N.ps_raise rfl tk (by exact (pmk_e1 O_Stopped (hr.mono (by decide)) (pv 1) (by rfl)))))
        pss_nil)
      (pss_cons (ps_set (i := 3) scNMake.nd rfl (Or.inl rfl) (pe_tup (pa_cons (pe_ix ix_seq (pe_fld (pv 0) rfl) (pv 1) fun _ _ => rfl) (pa_cons (pv 2) pa_nil))))
      (pss_cons (ps_if (pt_cmpR (op_inD hu) (pv 3) (pe_ix ix_seq (pe_fld (pv 0) rfl) (pv 1) fun _ _ => rfl) (by rfl))
        (pss_one (L2N.ps_raise rfl tk (by exact (pmk_e2 O_Twice (hr.mono (by decide)) (pv 1) (pv 2) (by rfl)))))
        pss_nil)
      (pss_cons (ps_expr (pe_me O_arr (E := fun _ => noE) (pv 0) CK.cl (hr.mono (by decide)) pass_none (pa_cons (pv 1) (pa_cons (pv 3) (pa_cons pe_non pa_nil)))))
      (pss_cons (ps_expr (pe_bm PySem.F.plainAttrs_list PySem.F.slot_list_append PySem.F.type_list_append mt_append (pe_fld (pv 0) rfl) (pa_cons (pe_tup (pa_cons pe_str (pa_cons (pv 1) (pa_cons (pv 2) pa_nil)))) pa_nil)))
      (pss_one (ps_ret (pv 3)))))))))), ?_⟩
    obtain ⟨p, n, rs, ns, S, u, v, du, dv, rfl, N, l0, l1, l2, lk, rv, tv, O⟩ := h
    obtain ⟨⟨dx, hx⟩, T⟩ := N.xt
    refine ⟨_, rfl, _, _, _, _, _, rfl, hx, CK.cl, CK.ntree, rfl, _, rfl, p.t, n, rs, u, du, rfl, T, O.r, O.no, fun a ha eu ed => ?_⟩
    obtain ⟨ok1, ok2⟩ := O.ok a ha eu ed
    subst eu
    refine ⟨_, rfl, v, dv, rfl, rv, tv, fun H1 k1 => ⟨_, rfl, iteB (fun e => ?_) fun e => ?_⟩⟩
    · exact ⟨_, rfl, (ok1 (not_t e)).mono k1⟩
    have e := not_f e
    obtain ⟨z, rfl, tz⟩ : ∃ z, dv = .str z ∧ textS z = true := by
      cases dv with
      | str z => exact ⟨z, rfl, e⟩
      | _ => cases e
    cases rv
    obtain ⟨s1, ok3⟩ := ok2 z rfl tz
    have N1 := N.same k1
    have hx1 := k1 _ _ hx
    obtain ⟨hh1, _⟩ := N1.halt
    refine ⟨_, rfl, _, rfl, _, _, _, _, _, rfl, hx1, CK.cl, CK.nhalt, rfl, p.ht, natV S.ht, rfl, .inl (SqL.of hh1), rfl, natV_flat _, _, rfl, iteB (fun e2 => ?_) fun e2 => ?_⟩
    · rw [if_neg Bool.false_ne_true, natV_in] at e2
      exact ⟨_, rfl, (s1 (of_decide_eq_true e2)).mono k1⟩
    rw [if_neg Bool.false_ne_true, natV_in] at e2
    obtain ⟨hnm, nok⟩ := N1.named
    have lta : a < ns.length := by rw [nok.len]; exact ha
    have enm : ns[a]? = some ns[a] := List.getElem?_eq_getElem lta
    have good : nameS ns[a] = true := nok.good _ (List.getElem_mem lta)
    generalize ns[a] = nm at enm good
    obtain ⟨tw, ok4⟩ := ok3 (of_decide_eq_false e2) nm enm
    refine ⟨_, rfl, _, _, _, _, _, rfl, hx1, CK.cl, CK.nnames, rfl, _, rfl, ixTup (SqT.of hnm) (atI_nat (by rw [List.getElem?_map, enm]; rfl)) ?_⟩
    refine ⟨_, rfl, two_ln (by show 2 ≤ _; decide), fun pl hpl => ?_⟩
    have k2 := upd_grow (o := .tup [V.str nm, V.str z]) hpl
    have hpl1 := upd_same (H := H1) (a := pl) (o := .tup [V.str nm, V.str z])
    generalize upd H1 pl (.tup [V.str nm, V.str z]) = H2 at k2 hpl1 ⊢
    have N2 := N1.same k2
    have hx2 := k2 _ _ hx1
    have k02 := k1.trans k2
    have lo : lineOk (nm, z) := ⟨name_ok good, text_ok tz⟩
    have ry : Rdd H2 (.ref pl) (lineD (nm, z)) := .tup hpl1 (.cons (.str _) (.cons (.str _) .nil))
    obtain ⟨al, xs, hal, ht, hl, rx, _⟩ := N2.log ha
    have sl := lines_shaped (lk a ha)
    refine ⟨_, rfl, _, rfl, _, _, _, _, _, rfl, hx2, CK.cl, CK.nlogs, rfl, _, rfl, ixAt ht (atI_nat (by rw [List.getElem?_map, hal]; rfl)) ?_⟩
    refine ⟨lineD (nm, z), (S.lg a).map lineD, ry.dp (shaped_lay (line_shaped lo)), (Rdd.lst hl rx).dp (shaped_lay sl), line_shaped lo, sl, _, rfl, iteB (fun e3 => ?_) fun e3 => ?_⟩
    · rw [lines_any] at e3
      have := tw (of_decide_eq_true e3)
      exact ⟨_, _, rfl, rfl, fun d H' k y => this d H' (k02.trans k) y⟩
    rw [lines_any] at e3
    have ok5 := ok4 (of_decide_eq_false e3)
    refine ⟨_, rfl, p.x, dx, _, rfl, hx2, rfl, _, rfl, _, rfl, p, n, rs, ns, S, a, .ref pl, (nm, z), none, rfl, N2, ha, ry, l1 a ha, l2, fun H3 b3 N3 => ?_⟩
    obtain ⟨⟨dx3, hx3⟩, _⟩ := N3.xt
    obtain ⟨ds, hd, lds, tell⟩ := N3.tell l0
    refine ⟨_, rfl, _, _, _, _, _, rfl, hx3, CK.cl, CK.ndeed, rfl, .inl ⟨rfl, _, SqL.of hd⟩, _, rfl, _, rfl, two_ln (by show 3 ≤ _; decide), fun pt hpt => ?_⟩
    obtain ⟨hd3, N4, b4⟩ := tell pt _ (.make a z) hpt (.tup upd_same (.cons (.str _) (.cons (.int _) (.cons (.str _) .nil))))
    exact ⟨p.dd, ds, _, rfl, rfl, hd3, lds, _, rfl, ok5 _ _ ((Bm.of k02).trans (b3.trans b4)) (rdd_bm (b3.trans b4) ry rfl) N4⟩
end
end K04

namespace K04
open PySem PySem.Spec PyProof.Rows L2 Tn TL
abbrev sNStp : Stmt := cdef 34 1
theorem scNStp : FnScope ["self"] ["self"] (defScope sNStp) := ⟨rfl, rfl, rfl, by decide +kernel, rfl, by decide +kernel, by decide +kernel⟩
abbrev sNScr : Stmt := cdef 34 2
theorem scNScr : FnScope ["self"] ["self"] (defScope sNScr) := ⟨rfl, rfl, rfl, by decide +kernel, rfl, by decide +kernel, by decide +kernel⟩
def spNStp (K : PySem.W.Frag) : Sp := fun vs H Q _ => ∃ (p : Parts) (n : Nat) (rs : List Tm.Road) (ns : List Str) (S : NS), vs = [.ref p.x] ∧ NetS K H p n rs ns S ∧ S.ht.length < 64 ∧
  ∀ (ks : List Int) t H', ks.Perm (S.ht.map fun x : Nat => (x : Int)) → ks.Pairwise (· ≤ ·) → Same H H' → H' t = some (.tup (ks.map V.int)) → Q (.ref t) H'
def spNScr (K : PySem.W.Frag) : Sp := fun vs H Q _ => ∃ (p : Parts) (n : Nat) (rs : List Tm.Road) (ns : List Str) (S : NS), vs = [.ref p.x] ∧ NetS K H p n rs ns S ∧
  ∀ t H', Same H H' → Rdd H' (.ref t) (.tuple (S.dd.map deedD)) → Q (.ref t) H'
section
variable {P : Program} {w : World} {K : PySem.W.Frag} {mg : Str → Option Value} {base : Heap} {f : Addr} {fd : FuncData}
theorem ok_nstp (F : Md K "stopped" "Network.stopped" sNStp f fd) (CK : NetK K mg) (B : Bl mg) : FnOk P w K mg base CX0 1 f fd ["self"] (spNStp K) := by
  refine F.ok scNStp (fun vs H Q E h => ?_) (fun cdv A outer s H vs Q E hr h => ?_)
  · obtain ⟨p, n, rs, ns, S, rfl, _⟩ := h
    rfl
  · refine ⟨_, (pss_one (ps_ret (pe_callTy call_tuple_of (by rfl) (B.u "tuple" (by decide +kernel)) (by decide +kernel) (pa_cons (pe_callB (cr_sortedI) (by rfl) (B.u "sorted" (by decide +kernel)) (by decide +kernel) (pa_cons (pe_fld (pv 0) rfl) pa_nil)) pa_nil)))), ?_⟩
    obtain ⟨p, n, rs, ns, S, rfl, N, l1, q⟩ := h
    obtain ⟨⟨dx, hx⟩, T⟩ := N.xt
    obtain ⟨hh1, _⟩ := N.halt
    have e : natV S.ht = (S.ht.map fun x : Nat => (x : Int)).map V.int := by
      unfold natV
      rw [List.map_map]
      rfl
    have lm : (S.ht.map fun x : Nat => (x : Int)).length < 64 := by rw [List.length_map]; exact l1
    refine ⟨_, rfl, _, _, _, _, _, rfl, hx, CK.cl, CK.nhalt, rfl, p.ht, S.ht.map fun x : Nat => (x : Int), rfl, SqL.of (e ▸ hh1), fun ks ps pm srt hps => ?_⟩
    have k1 := upd_grow (o := .lst (ks.map V.int)) hps
    have h1 := upd_same (H := H) (a := ps) (o := .lst (ks.map V.int))
    generalize upd H ps (.lst (ks.map V.int)) = H1 at k1 h1 ⊢
    exact ⟨ps, _, rfl, .inl ⟨SqL.of h1, fun t ht0 => q ks t _ pm srt (k1.trans (upd_grow ht0)) upd_same⟩⟩
theorem ok_nscr (F : Md K "script" "Network.script" sNScr f fd) (CK : NetK K mg) (B : Bl mg) : FnOk P w K mg base CX0 1 f fd ["self"] (spNScr K) := by
  refine F.ok scNScr (fun vs H Q E h => ?_) (fun cdv A outer s H vs Q E hr h => ?_)
  · obtain ⟨p, n, rs, ns, S, rfl, _⟩ := h
    rfl
  · refine ⟨_, (pss_one (ps_ret (pe_callTy call_tuple_of (by rfl) (B.u "tuple" (by decide +kernel)) (by decide +kernel) (pa_cons (pe_fld (pv 0) rfl) pa_nil)))), ?_⟩
    obtain ⟨p, n, rs, ns, S, rfl, N, q⟩ := h
    obtain ⟨⟨dx, hx⟩, T⟩ := N.xt
    obtain ⟨ds, hd, rd2, _⟩ := N.deed
    exact ⟨_, rfl, _, _, _, _, _, rfl, hx, CK.cl, CK.ndeed, rfl, p.dd, ds, rfl, .inl ⟨SqL.of hd, fun t ht0 => q t _ (upd_grow ht0) (.tup upd_same (rd2.mono (upd_grow ht0)))⟩⟩
end
end K04

namespace K04
open PySem PySem.Spec PyProof.Rows L2 Tn TL
abbrev sStart : Stmt := top 45
theorem scStart : FnScope ["roads", "names", "under", "u", "v", "name"] ["roads", "names"] (defScope sStart) := ⟨rfl, rfl, rfl, by decide +kernel, rfl, by decide +kernel, by decide +kernel⟩
abbrev sPut : Stmt := top 46
theorem scPut : FnScope ["net", "house", "line", "origin", "u", "v"] ["net", "house", "line", "origin"] (defScope sPut) := ⟨rfl, rfl, rfl, by decide +kernel, rfl, by decide +kernel, by decide +kernel⟩
/-- the law's own net: where its parts stand -/
structure LParts where
  x : Addr
  r : Addr
  nm : Addr
  lg : Addr
  wt : Addr
  ht : Addr
  dd : Addr
  la : List Addr
  tab : List (List Key × Addr)
def LParts.all (p : LParts) : List Addr := p.x :: p.r :: p.nm :: p.lg :: p.wt :: p.ht :: p.dd :: (p.la ++ p.tab.map (·.2))
def LParts.M (p : LParts) : List Addr := p.ht :: p.dd :: (p.la ++ p.tab.map (·.2))
def xsL (p : LParts) : List V := [.ref p.r, .ref p.nm, .ref p.lg, .ref p.wt, .ref p.ht, .ref p.dd]
/-- at p.x the law's net holding S -/
structure LNet (H : Hp) (p : LParts) (n : Nat) (rs : List Tm.Road) (ns : List Str) (S : NS) : Prop where
  x : H p.x = some (.lst (xsL p))
  r : ∃ ys, H p.r = some (.lst ys) ∧ RddAll H ys (rs.map rd)
  nm : H p.nm = some (.lst (ns.map V.str))
  len : ns.length = n
  ok : Tm.RoadsOk n rs
  ex : ∃ LG WT, LL H p.lg p.la LG ∧ DL H p.wt p.tab WT ∧ (∀ h, h < n → RddAll H (LG h) ((S.lg h).map lineD)) ∧ ∀ r ∈ both rs, RddAll H (WT (rk r)) ((S.wt r).map lineD)
  lla : p.la.length = n
  keys : (p.tab.map (·.1)).Perm ((both rs).map rk)
  ht : H p.ht = some (.lst (natV S.ht))
  dd : ∃ ds, H p.dd = some (.lst ds) ∧ RddAll H ds (S.dd.map deedD)
  apart : p.all.Nodup
theorem LNet.bm {M : List Addr} {H H' : Hp} {p : LParts} {n : Nat} {rs : List Tm.Road} {ns : List Str} {S : NS} (k : Bm M H H') (d : ∀ a ∈ p.all, a ∉ M) (N : LNet H p n rs ns S) : LNet H' p n rs ns S := by
  have m : ∀ a, a ∈ p.la ++ p.tab.map (·.2) → a ∉ M := fun a h => d a (by unfold LParts.all; simp only [List.mem_cons]; exact .inr (.inr (.inr (.inr (.inr (.inr (.inr h)))))))
  obtain ⟨ys, hr, rr⟩ := N.r
  obtain ⟨LG, WT, S1, S2, a1, a2⟩ := N.ex
  obtain ⟨ds, hd, rdd⟩ := N.dd
  have fr : flatAll (rs.map rd) = true := by
    have := flat_rds rs
    simpa only [flat] using this
  exact ⟨k.lst (d _ (by simp [LParts.all])) N.x, ⟨ys, k.lst (d _ (by simp [LParts.all])) hr, rdds_bm k rr fr⟩, k.lst (d _ (by simp [LParts.all])) N.nm, N.len, N.ok,
    ⟨LG, WT, LL.bm k (d _ (by simp [LParts.all])) (fun a h => m a (List.mem_append_left _ h)) S1, DL.bm k (fun e h => m _ (List.mem_append_right _ (List.mem_map.mpr ⟨e, h, rfl⟩))) S2, fun h lt => rdds_bm k (a1 h lt) (flat_line _), fun r hr => rdds_bm k (a2 r hr) (flat_line _)⟩,
    N.lla, N.keys, k.lst (d _ (by simp [LParts.all])) N.ht, ⟨ds, k.lst (d _ (by simp [LParts.all])) hd, rdds_bm k rdd (flat_deed _)⟩, N.apart⟩
theorem L_apart {p : LParts} (h : p.all.Nodup) : (∀ a ∈ p.la ++ p.tab.map (·.2), a ≠ p.x ∧ a ≠ p.r ∧ a ≠ p.nm ∧ a ≠ p.lg ∧ a ≠ p.wt ∧ a ≠ p.ht ∧ a ≠ p.dd) ∧ ∀ a ∈ p.la, a ∉ p.tab.map (·.2) := by
  unfold LParts.all at h
  rw [show p.x :: p.r :: p.nm :: p.lg :: p.wt :: p.ht :: p.dd :: (p.la ++ p.tab.map (·.2)) = [p.x, p.r, p.nm, p.lg, p.wt, p.ht, p.dd] ++ (p.la ++ p.tab.map (·.2)) from rfl] at h
  obtain ⟨_, h2, h3⟩ := List.nodup_append.mp h
  refine ⟨fun a m => ⟨?_, ?_, ?_, ?_, ?_, ?_, ?_⟩, fun a m m2 => (List.nodup_append.mp h2).2.2 a m a m2 rfl⟩ <;> exact fun z => h3 _ (by simp) a m z.symm
section
variable {H : Hp} {p : LParts} {n : Nat} {rs : List Tm.Road} {ns : List Str} {S : NS}
theorem LM_tab {k : List Key} {a : Addr} (m : (k, a) ∈ p.tab) : a ∈ p.M := by
  unfold LParts.M
  simp only [List.mem_cons, List.mem_append]
  exact .inr (.inr (.inr (List.mem_map.mpr ⟨_, m, rfl⟩)))
theorem LM_la {a : Addr} (m : a ∈ p.la) : a ∈ p.M := by
  unfold LParts.M
  simp only [List.mem_cons, List.mem_append]
  exact .inr (.inr (.inl m))
theorem LNet.same {H' : Hp} (k : Same H H') (N : LNet H p n rs ns S) : LNet H' p n rs ns S := N.bm (M := []) (Bm.of k) fun _ _ z => nomatch z
theorem LNet.congr {T : NS} (N : LNet H p n rs ns S) (e1 : ∀ h, h < n → T.lg h = S.lg h) (e2 : ∀ r ∈ both rs, T.wt r = S.wt r) (e3 : T.ht = S.ht) (e4 : T.dd = S.dd) : LNet H p n rs ns T := by
  obtain ⟨LG, WT, S1, S2, a1, a2⟩ := N.ex
  exact ⟨N.x, N.r, N.nm, N.len, N.ok, ⟨LG, WT, S1, S2, fun h lt => by rw [e1 h lt]; exact a1 h lt, fun r hr => by rw [e2 r hr]; exact a2 r hr⟩, N.lla, N.keys, by rw [e3]; exact N.ht, by rw [e4]; exact N.dd, N.apart⟩
theorem LNet.way (N : LNet H p n rs ns S) {r : Tm.Road} (hr : r ∈ both rs) : ∃ a xs, H p.wt = some (.dT (tabV p.tab)) ∧ valV (tabV p.tab) (rk r) = some (.ref a) ∧ H a = some (.lst xs) ∧ RddAll H xs ((S.wt r).map lineD) ∧
    ∀ ys l, RddAll H ys (l.map lineD) → LNet (upd H a (.lst ys)) p n rs ns (S.setW r l) ∧ Bm p.M H (upd H a (.lst ys)) := by
  obtain ⟨LG, WT, S1, S2, a1, a2⟩ := N.ex
  have hk : rk r ∈ p.tab.map (·.1) := N.keys.mem_iff.mpr (List.mem_map.mpr ⟨r, hr, rfl⟩)
  obtain ⟨⟨k, a⟩, ha, e⟩ := List.mem_map.mp hk
  have e : k = rk r := e
  subst e
  have hl := S2.row _ ha
  obtain ⟨ap1, ap2⟩ := L_apart N.apart
  have am : a ∈ p.tab.map (·.2) := List.mem_map.mpr ⟨_, ha, rfl⟩
  obtain ⟨z1, z2, z3, z4, z5, z6, z7⟩ := ap1 a (List.mem_append_right _ am)
  refine ⟨a, _, S2.top, tab_some S2.nk ha, hl, a2 r hr, fun ys l ry => ?_⟩
  have k1 : Bm [a] H (upd H a (.lst ys)) := Bm.upd hl List.mem_cons_self
  have ne : ∀ b, a ≠ b → b ∉ [a] := fun b h m => h (List.mem_singleton.mp m).symm
  obtain ⟨rsv, hr1, rr⟩ := N.r
  obtain ⟨ds, hd, rdd⟩ := N.dd
  have fr : flatAll (rs.map rd) = true := by
    have := flat_rds rs
    simpa only [flat] using this
  refine ⟨⟨k1.lst (ne _ z1) N.x, ⟨rsv, k1.lst (ne _ z2) hr1, rdds_bm k1 rr fr⟩, k1.lst (ne _ z3) N.nm, N.len, N.ok, ⟨LG, _, LL.bm k1 (ne _ z4) (fun b m => ne _ fun z => ap2 b m (z ▸ am)) S1, S2.set ha ys, fun h lt => rdds_bm k1 (a1 h lt) (flat_line _), fun q hq => ?_⟩,
    N.lla, N.keys, k1.lst (ne _ z6) N.ht, ⟨ds, k1.lst (ne _ z7) hd, rdds_bm k1 rdd (flat_deed _)⟩, N.apart⟩, Bm.upd hl (LM_tab ha)⟩
  unfold NS.setW
  by_cases z : q = r
  · subst z
    simp only [if_true]
    exact rdds_bm k1 ry (flat_line _)
  · simp only [if_neg z, if_neg fun y => z (rk_inj y)]
    exact rdds_bm k1 (a2 q hq) (flat_line _)
theorem LNet.log (N : LNet H p n rs ns S) {h : Nat} (hh : h < n) : ∃ a xs, p.la[h]? = some a ∧ H p.lg = some (.lst (p.la.map V.ref)) ∧ H a = some (.lst xs) ∧ RddAll H xs ((S.lg h).map lineD) ∧
    ∀ ys l, RddAll H ys (l.map lineD) → LNet (upd H a (.lst ys)) p n rs ns (S.setL h l) ∧ Bm p.M H (upd H a (.lst ys)) := by
  obtain ⟨LG, WT, S1, S2, a1, a2⟩ := N.ex
  have lt : h < p.la.length := by rw [N.lla]; exact hh
  have ha : p.la[h]? = some p.la[h] := List.getElem?_eq_getElem lt
  have hl := S1.row _ _ ha
  have am : p.la[h] ∈ p.la := List.getElem_mem lt
  refine ⟨p.la[h], _, ha, S1.top, hl, a1 h hh, fun ys l ry => ?_⟩
  generalize p.la[h] = a at ha hl am ⊢
  obtain ⟨ap1, ap2⟩ := L_apart N.apart
  obtain ⟨z1, z2, z3, z4, z5, z6, z7⟩ := ap1 a (List.mem_append_left _ am)
  have k1 : Bm [a] H (upd H a (.lst ys)) := Bm.upd hl List.mem_cons_self
  have ne : ∀ b, a ≠ b → b ∉ [a] := fun b h m => h (List.mem_singleton.mp m).symm
  obtain ⟨rsv, hr1, rr⟩ := N.r
  obtain ⟨ds, hd, rdd⟩ := N.dd
  have fr : flatAll (rs.map rd) = true := by
    have := flat_rds rs
    simpa only [flat] using this
  refine ⟨⟨k1.lst (ne _ z1) N.x, ⟨rsv, k1.lst (ne _ z2) hr1, rdds_bm k1 rr fr⟩, k1.lst (ne _ z3) N.nm, N.len, N.ok, ⟨_, WT, S1.set ha ys, DL.bm k1 (fun e m => ne _ fun z => ap2 a am (z ▸ List.mem_map.mpr ⟨e, m, rfl⟩)) S2, fun q hq => ?_, fun q hq => rdds_bm k1 (a2 q hq) (flat_line _)⟩,
    N.lla, N.keys, k1.lst (ne _ z6) N.ht, ⟨ds, k1.lst (ne _ z7) hd, rdds_bm k1 rdd (flat_deed _)⟩, N.apart⟩, Bm.upd hl (LM_la am)⟩
  unfold NS.setL
  by_cases z : q = h
  · subst z
    simp only [if_true]
    exact rdds_bm k1 ry (flat_line _)
  · simp only [if_neg z]
    exact rdds_bm k1 (a1 q hq) (flat_line _)
end
end K04

namespace K04
open PySem PySem.Spec PyProof.Rows L2 Tn TL
/-- after i of the roads -/
def NS.ar2 (S : NS) (rs : List Tm.Road) (h : Nat) (l : Line) (src : Option Nat) (i : Nat) : NS :=
  { S with lg := fun q => if q = h then S.lg q ++ [l] else S.lg q, wt := fun r => if r.1 = h ∧ r.2 ∈ Tm.near (rs.take i) h ∧ some r.2 ≠ src then S.wt r ++ [l] else S.wt r }
theorem near_step {rs : List Tm.Road} {h i : Nat} (li : i < rs.length) (z : Nat) : z ∈ Tm.near (rs.take (i + 1)) h ↔ z ∈ Tm.near (rs.take i) h ∨ Tm.nb h rs[i] = some z := by
  unfold Tm.near
  rw [List.take_succ_eq_append_getElem li, List.filterMap_append, List.mem_append]
  simp [List.mem_filterMap]
theorem ar2_step {S : NS} {rs : List Tm.Road} {h : Nat} {l : Line} {src : Option Nat} {i o : Nat} (li : i < rs.length) (ho : Tm.nb h rs[i] = some o) (r : Tm.Road) :
    (S.ar2 rs h l src (i + 1)).wt r = if r = (h, o) ∧ some o ≠ src then S.wt r ++ [l] else (S.ar2 rs h l src i).wt r := by
  have m : ∀ z, z ∈ Tm.near (rs.take (i + 1)) h ↔ z ∈ Tm.near (rs.take i) h ∨ z = o := fun z => by
    rw [near_step li, ho, Option.some.injEq]
    exact or_congr Iff.rfl eq_comm
  unfold NS.ar2
  simp only [m]
  obtain ⟨a, b⟩ := r
  simp only [Prod.mk.injEq]
  by_cases c1 : a = h ∧ b = o
  · obtain ⟨rfl, rfl⟩ := c1
    by_cases c2 : some b ≠ src
    · rw [if_pos ⟨rfl, .inr rfl, c2⟩, if_pos ⟨⟨rfl, rfl⟩, c2⟩]
    · rw [if_neg fun z => c2 z.2.2, if_neg fun z => c2 z.2, if_neg fun z => c2 z.2.2]
  · rw [if_neg (show ¬((a = h ∧ b = o) ∧ some o ≠ src) from fun z => c1 z.1)]
    by_cases c2 : a = h ∧ b ∈ Tm.near (rs.take i) h ∧ some b ≠ src
    · rw [if_pos ⟨c2.1, .inl c2.2.1, c2.2.2⟩, if_pos c2]
    · rw [if_neg c2, if_neg]
      rintro ⟨z1, z2, z3⟩
      rcases z2 with z2 | z2
      · exact c2 ⟨z1, z2, z3⟩
      · exact c1 ⟨z1, z2⟩
theorem ar2_skip {S : NS} {rs : List Tm.Road} {h : Nat} {l : Line} {src : Option Nat} {i : Nat} (li : i < rs.length) (ho : Tm.nb h rs[i] = none) (r : Tm.Road) : (S.ar2 rs h l src (i + 1)).wt r = (S.ar2 rs h l src i).wt r := by
  unfold NS.ar2
  simp only [near_step li, ho]
  simp
theorem ar2_old {S : NS} {n : Nat} {rs : List Tm.Road} {h : Nat} {l : Line} {src : Option Nat} {i o : Nat} (ok : Tm.RoadsOk n rs) (li : i < rs.length) (ho : Tm.nb h rs[i] = some o) : (S.ar2 rs h l src i).wt (h, o) = S.wt (h, o) := by
  unfold NS.ar2
  refine if_neg fun z => ?_
  have nd := near_nodup ok h
  have e : rs = rs.take i ++ rs[i] :: rs.drop (i + 1) := by
    rw [← List.drop_eq_getElem_cons li, List.take_append_drop]
  unfold Tm.near at nd z
  rw [e, List.filterMap_append] at nd
  refine (List.nodup_append.mp nd).2.2 o z.2.1 o ?_ rfl
  rw [List.filterMap_cons_some ho]
  exact List.mem_cons_self
theorem LM_r {p : LParts} (h : p.all.Nodup) : p.r ∉ p.M := by
  unfold LParts.all at h
  simp only [List.nodup_cons, List.mem_cons, List.mem_append, not_or] at h
  obtain ⟨_, ⟨_, _, _, a4, a5, a6, a7⟩, _⟩ := h
  unfold LParts.M
  simp only [List.mem_cons, List.mem_append, not_or]
  exact ⟨a4, a5, a6, a7⟩
section
variable {P : Program} {w : World} {K : PySem.W.Frag} {mg : Str → Option Value} {base : Heap} {f : Addr} {fd : FuncData}
def spPut : Sp := fun vs H Q _ => ∃ (p : LParts) (n : Nat) (rs : List Tm.Road) (ns : List Str) (S : NS) (h : Nat) (y : V) (l : Line) (src : Nat), vs = [.ref p.x, .int h, y, .int src] ∧ LNet H p n rs ns S ∧ h < n ∧ Rdd H y (lineD l) ∧
  (S.lg h).length < 1000 ∧ (∀ r ∈ both rs, (S.wt r).length < 1000) ∧ ∀ H', Bm p.M H H' → LNet H' p n rs ns (S.arrive rs h l (some src)) → Q .non H'
theorem ok_put (F : Fd K "_law_put" sPut f fd) (g : mg "_law_put" = some (.ref f)) (B : Bl mg) : Ok P w K mg base CX0 1 "_law_put" sPut ["net", "house", "line", "origin"] spPut := by
  refine ⟨f, fd, g, F, F.bindsN fun _ _ _ _ _ _ us hl => match us, hl with | [_, _, _, _], _ => rfl, F.ok scPut (fun vs H Q E h => ?_) (fun cdv A outer s H vs Q E hr h => ?_)⟩
  · obtain ⟨p, n, rs, ns, S, h, y, l, src, rfl, _⟩ := h
    rfl
  · have hu : (cxOf CX0 P w K mg base ["net", "house", "line", "origin", "u", "v"] "_law_put" (defScope sPut) f cdv A outer s H E).A.units + 1 < cLine := by
      have z := hr.un
      show (A.deeper _).units + 1 < cLine
      omega
    refine ⟨_, (pss_cons (ps_expr (pe_bm PySem.F.plainAttrs_list PySem.F.slot_list_append PySem.F.type_list_append mt_append (pe_ix ix_seq (pe_ix ix_seq (pv 0) pe_int fun _ _ => rfl) (pv 1) fun _ _ => rfl) (pa_cons (pv 2) pa_nil)))
      (pss_one (ps_for (passes_of rfl) rfl (pi_list (pe_ix ix_seq (pv 0) pe_int fun _ _ => rfl)) (pg_tup rfl (pgs_cons (pg_name (i := 4) scPut.nd rfl (Or.inl rfl)) (pgs_cons (pg_name (i := 5) scPut.nd rfl (Or.inl rfl)) pgs_nil)))
        (pss_one (ps_if (pw_and (pt_cmpR op_in_seq (pv 1) (pe_lst (pa_cons (pv 4) (pa_cons (pv 5) pa_nil))) (by rfl)) (pw_and1 (pt_cmpR op_ne (pe_op op_sub (pe_op op_add (pv 4) (pv 5)) (pv 1)) (pv 3) (nomark _)))).pt
          (pss_one (ps_expr (pe_bm PySem.F.plainAttrs_list PySem.F.slot_list_append PySem.F.type_list_append mt_append (pe_dget hu (pe_ix ix_seq (pv 0) pe_int fun _ _ => rfl) (pe_tup (pa_cons (pv 1) (pa_cons (pe_op op_sub (pe_op op_add (pv 4) (pv 5)) (pv 1)) pa_nil))) (fun _ _ => rfl)) (pa_cons (pv 2) pa_nil))))
          pss_nil))))), ?_⟩
    obtain ⟨p, n, rs, ns, S, h, y, l, src, rfl, N, hh, ry, l1, l2, q⟩ := h
    obtain ⟨a, xs, ha, ht, hl, rx, put⟩ := N.log hh
    have lxs : xs.length = (S.lg h).length := by
      have := rdds_len rx
      rwa [List.length_map] at this
    refine ⟨_, rfl, ixAt N.x (by rfl) ?_⟩
    refine ⟨_, rfl, ixAt ht (atI_nat (by rw [List.getElem?_map, ha]; rfl)) ?_⟩
    refine ⟨.inl ⟨rfl, _, SqL.of hl⟩, _, rfl, a, xs, _, rfl, rfl, hl, (by rw [lxs]; exact lt_ln (by omega)), ?_⟩
    have rnew : RddAll H (xs ++ [y]) ((S.lg h ++ [l]).map lineD) := by
      rw [List.map_append]
      exact rdds_add ry rx
    obtain ⟨N1, b1⟩ := put (xs ++ [y]) (S.lg h ++ [l]) rnew
    have ry1 := rdd_bm b1 ry rfl
    generalize upd H a (.lst (xs ++ [y])) = H1 at N1 b1 ry1 ⊢
    obtain ⟨rv, hr1, rr⟩ := N1.r
    have lrv : rv.length = rs.length := by
      have := rdds_len rr
      rwa [List.length_map] at this
    have fr : flatAll (rs.map rd) = true := by
      have := flat_rds rs
      simpa only [flat] using this
    refine ⟨_, rfl, ixAt N1.x (by rfl) ?_⟩
    refine ⟨p.r, rfl, ⟨_, SqL.of hr1⟩, for_it (walk_list (xs := rv)) (fun i σ H' => Bm p.M H1 H' ∧ LNet H' p n rs ns (S.ar2 rs h l (some src) i) ∧ ∃ z1 z2 : Option V, σ = [some (.ref p.x), some (.int (h : Nat)), some y, some (.int (src : Nat)), z1, z2]) ?_ (fun i σ H' _ z => ?_) ?_ ?_⟩
    · refine ⟨Bm.of fun _ _ e => e, N1.congr (fun q _ => ?_) (fun r _ => ?_) rfl rfl, none, none, rfl⟩
      · unfold NS.ar2 NS.setL
        by_cases c : q = h
        · simp only [if_pos c, c]
        · simp only [if_neg c]
      · unfold NS.ar2 NS.setL
        simp [Tm.near]
    · exact SqL.of (z.1.lst (LM_r N1.apart) hr1)
    · rintro i x σ H2 H3 hi ⟨k2, N2, z1, z2, rfl⟩ ⟨rfl, hx2⟩
      have hir : i < rs.length := by omega
      obtain ⟨x', hx', rx'⟩ := rdds_get (rdds_bm k2 rr fr) (show (rs.map rd)[i]? = some (rd rs[i]) by rw [List.getElem?_map, List.getElem?_eq_getElem hir]; rfl)
      rw [hx2] at hx'
      obtain rfl : x = x' := Option.some.inj hx'
      have mr : rs[i] ∈ rs := List.getElem_mem hir
      have bnd := N1.ok.bnd _ mr
      generalize hr2 : rs[i] = r at rx' mr bnd
      obtain ⟨u, v⟩ := r
      unfold rd at rx'
      cases rx' with
      | @tup pt zs es hpt0 r2 =>
        obtain ⟨y1, y2, rfl, r3, r4⟩ := rdds_two r2
        cases r3
        cases r4
        refine ⟨pt, _, rfl, SqT.of hpt0, rfl, _, _, rfl, _, _, rfl, rfl, ?_⟩
        refine ⟨_, rfl, _, rfl, _, rfl, two_ln (by show 2 ≤ _; decide), fun pl hpl => ⟨pl, _, rfl, .inl (SqL.of upd_same), rfl, rfl, _, rfl, iteB (fun c1 => ?_) fun c1 => ?_⟩⟩
        · rw [if_neg Bool.false_ne_true, show [V.int ((u, v).1 : Nat), V.int ((u, v).2 : Nat)] = natV [u, v] from rfl, natV_in] at c1
          have hm := of_decide_eq_true c1
          obtain ⟨o, ho, eo⟩ : ∃ o, Tm.nb h rs[i] = some o ∧ ((u : Int) + (v : Int) - (h : Int)) = (o : Nat) := by
            rw [hr2]
            unfold Tm.nb
            by_cases e1 : u = h
            · exact ⟨v, if_pos e1, by omega⟩
            · have e2 : v = h := by
                simp only [List.mem_cons, List.not_mem_nil, or_false] at hm
                omega
              exact ⟨u, by rw [if_neg e1, if_pos e2], by omega⟩
          have hr3 : (h, o) ∈ both rs := near_both (by
            unfold Tm.near
            exact List.mem_filterMap.mpr ⟨rs[i], List.getElem_mem hir, ho⟩)
          have k3 := upd_grow (o := .lst [V.int ((u, v).1 : Nat), V.int ((u, v).2 : Nat)]) hpl
          generalize upd H3 pl (.lst [V.int ((u, v).1 : Nat), V.int ((u, v).2 : Nat)]) = H4 at k3 ⊢
          have N4 := N2.same k3
          refine ⟨_, rfl, _, rfl, _, _, rfl, rfl, _, rfl, _, _, rfl, rfl, _, rfl, rfl, _, rfl, iteB (fun c2 => ?_) fun c2 => ?_⟩
          · have c2 : some o ≠ some src := fun z => by
              have z := Option.some.inj z
              have c2 := of_decide_eq_false (not_t c2)
              exact c2 (congrArg V.int (eo.trans (by rw [z])))
            refine ⟨_, rfl, ixAt N4.x (by rfl) ?_⟩
            refine ⟨_, rfl, _, rfl, _, rfl, _, _, rfl, rfl, _, rfl, _, _, rfl, rfl, two_ln (by show 2 ≤ _; decide), fun pt2 hpt2 => ?_⟩
            have key : (upd H4 pt2 (HO.tup [V.int (h : Nat), V.int ((((u, v).1 : Nat) : Int) + ((u, v).2 : Nat) - (h : Nat))])) pt2 = some (.tup ((rk (h, o)).map kV)) := by
              rw [upd_same]
              exact congrArg (fun z => some (HO.tup [V.int (h : Nat), V.int z])) eo
            have k5 := upd_grow (o := HO.tup [V.int (h : Nat), V.int ((((u, v).1 : Nat) : Int) + ((u, v).2 : Nat) - (h : Nat))]) hpt2
            have N5 := N4.same k5
            obtain ⟨aw, ws, hwt, hv, hlw, rw_, putw⟩ := N5.way hr3
            have d1 := DGet.t (k := rk (h, o)) hwt key
            rw [hv] at d1
            rw [ar2_old N1.ok hir ho] at rw_
            have lws : ws.length = (S.wt (h, o)).length := by
              have := rdds_len rw_
              rwa [List.length_map] at this
            have lo := l2 _ hr3
            have ry4 := rdd_bm (k2.trans ((Bm.of k3).trans (Bm.of k5))) ry1 rfl
            have rn4 := rdds_add ry4 rw_
            obtain ⟨N6, b6⟩ := putw (ws ++ [y]) (S.wt (h, o) ++ [l]) (by rw [List.map_append]; exact rn4)
            refine ⟨_, _, rfl, d1, .inl ⟨rfl, _, SqL.of hlw⟩, _, rfl, aw, ws, _, rfl, rfl, hlw, (by rw [lws]; exact lt_ln (by omega)), ?_⟩
            refine ⟨k2.trans ((Bm.of k3).trans ((Bm.of k5).trans b6)), N6.congr (fun _ _ => rfl) (fun r _ => ?_) rfl rfl, _, _, rfl⟩
            rw [ar2_step hir ho]
            unfold NS.setW
            by_cases e : r = (h, o)
            · subst e
              rw [if_pos ⟨rfl, c2⟩]
              simp only [if_true]
            · rw [if_neg fun z => e z.1]
              simp only [if_neg e]
          · have c2 : some o = some src := by
              have c2 := V.int.inj (of_decide_eq_true (not_f c2))
              exact congrArg some (by
                have : ((u : Int) + (v : Int) - (h : Int)) = (src : Nat) := c2
                omega)
            refine ⟨k2.trans (Bm.of k3), N4.congr (fun _ _ => rfl) (fun r _ => ?_) rfl rfl, _, _, rfl⟩
            rw [ar2_step hir ho, if_neg fun z => z.2 c2]
        · rw [if_neg Bool.false_ne_true, show [V.int ((u, v).1 : Nat), V.int ((u, v).2 : Nat)] = natV [u, v] from rfl, natV_in] at c1
          have hm := of_decide_eq_false c1
          simp only [List.mem_cons, List.not_mem_nil, or_false, not_or] at hm
          have ho : Tm.nb h rs[i] = none := by
            rw [hr2]
            unfold Tm.nb
            rw [if_neg fun z => hm.1 z.symm, if_neg fun z => hm.2 z.symm]
          have k3 := upd_grow (o := .lst [V.int ((u, v).1 : Nat), V.int ((u, v).2 : Nat)]) hpl
          refine ⟨k2.trans (Bm.of k3), (N2.same k3).congr (fun _ _ => rfl) (fun r _ => ar2_skip hir ho r) rfl rfl, _, _, rfl⟩
    · rintro σ H2 ⟨k2, N2, z1, z2, rfl⟩
      rw [lrv] at N2
      refine q _ (b1.trans k2) (N2.congr (fun _ _ => rfl) (fun r _ => ?_) rfl rfl)
      unfold NS.arrive NS.ar2
      simp only [List.take_length]
end
end K04

namespace K04
open PySem PySem.Spec PyProof.Rows L2 Tn TL
/-- one more list in the table -/
theorem _root_.L2.DL.add {H : Hp} {D a : Addr} {tab : List (List Key × Addr)} {k : List Key} (S : DL H D tab (fun _ => [])) (nk : k ∉ tab.map (·.1)) (na : a ∉ tab.map (·.2)) (nD : a ≠ D) (ha : H a = some (.lst [])) :
    putK (tabV tab) k (.ref a) = tabV (tab ++ [(k, a)]) ∧ DL (upd H D (.dT (tabV (tab ++ [(k, a)])))) D (tab ++ [(k, a)]) (fun _ => []) := by
  refine ⟨?_, upd_same, ?_, ?_, ?_, ?_⟩
  · rw [putK_new (V.ref a) (tab_none nk)]
    unfold tabV
    rw [List.map_append]
    rfl
  · rw [List.map_append]
    refine List.nodup_append.mpr ⟨S.nk, by simp, fun b hb c hc e => ?_⟩
    have hc := List.mem_singleton.mp hc
    rw [e, hc] at hb
    exact nk hb
  · rw [List.map_append]
    refine List.nodup_append.mpr ⟨S.nd, by simp, fun b hb c hc e => ?_⟩
    have hc := List.mem_singleton.mp hc
    rw [e, hc] at hb
    exact na hb
  · intro m
    rw [List.map_append] at m
    rcases List.mem_append.mp m with m | m
    · exact S.nin m
    · exact nD (List.mem_singleton.mp m).symm
  · intro e he
    rcases List.mem_append.mp he with he | he
    · have ne : e.2 ≠ D := fun z => S.nin (by rw [← z]; exact List.mem_map.mpr ⟨e, he, rfl⟩)
      rw [upd_ne ne]
      exact S.row e he
    · rw [List.mem_singleton.mp he, upd_ne nD]
      exact ha
def swp (r : Tm.Road) : Tm.Road := (r.2, r.1)
/-- the keys as the law lays them -/
def inter (rs : List Tm.Road) : List (List Key) := rs.flatMap fun r => [rk r, rk (swp r)]
theorem inter_perm (rs : List Tm.Road) : (inter rs).Perm ((both rs).map rk) := by
  unfold inter both
  rw [List.map_append, List.map_map]
  induction rs with
  | nil => exact .nil
  | cons r rs ih =>
    rw [List.flatMap_cons, List.map_cons, List.map_cons]
    refine List.Perm.cons (rk r) ?_
    exact ((ih.cons (rk (swp r)))).trans List.perm_middle.symm
theorem put_new {H H' : Hp} {D a pt : Addr} {tab : List (List Key × Addr)} {k : List Key} (k0 : Same H H') (hD : H D = none) (S : DL H' D tab (fun _ => [])) (nk : k ∉ tab.map (·.1)) (ha : H' a = none) (hpt : upd H' a (.lst []) pt = none) (few : tab.length < sizeLine) :
    ∃ H4, DPut (upd (upd H' a (.lst [])) pt (.tup (k.map kV))) D (.ref pt) (.ref a) H4 ∧ Same H H4 ∧ DL H4 D (tab ++ [(k, a)]) (fun _ => []) ∧ H a = none := by
  have k1 := upd_grow (o := .lst []) ha
  have h1 := upd_same (H := H') (a := a) (o := .lst [])
  have nD : a ≠ D := fun z => by rw [z, S.top] at ha; cases ha
  have na : a ∉ tab.map (·.2) := fun m => by
    obtain ⟨e, he, z⟩ := List.mem_map.mp m
    have := S.row e he
    rw [z, ha] at this
    cases this
  have a0 : H a = none := by
    cases e : H a with
    | none => rfl
    | some o => rw [k0 _ _ e] at ha; cases ha
  generalize upd H' a (.lst []) = H2 at k1 h1 hpt ⊢
  have k2 := upd_grow (o := .tup (k.map kV)) hpt
  have h2 := upd_same (H := H2) (a := pt) (o := .tup (k.map kV))
  generalize upd H2 pt (.tup (k.map kV)) = H3 at k2 h2 ⊢
  have k13 := k1.trans k2
  have S3 : DL H3 D tab (fun _ => []) := ⟨k13 _ _ S.top, S.nk, S.nd, S.nin, fun e m => k13 _ _ (S.row e m)⟩
  obtain ⟨e1, S4⟩ := S3.add nk na nD (k2 _ _ h1)
  refine ⟨_, DPut.t (v := .ref a) S3.top h2 (by unfold tabV; rw [List.length_map]; exact few), ?_, by rw [e1]; exact S4, a0⟩
  intro b o e
  rw [upd_ne (ne_of_none e hD)]
  exact k13 _ _ (k0 _ _ e)
theorem inter_len (rs : List Tm.Road) : (inter rs).length = 2 * rs.length := by
  have := (inter_perm rs).length_eq
  unfold both at this
  rw [this, List.length_map, List.length_append, List.length_map]
  omega
section
variable {P : Program} {w : World} {K : PySem.W.Frag} {mg : Str → Option Value} {base : Heap} {f : Addr} {fd : FuncData}
def spStart : Sp := fun vs H Q _ => ∃ (r nm : Addr) (ys : List V) (n : Nat) (rs : List Tm.Road) (ns : List Str), vs = [.ref r, .ref nm] ∧ H r = some (.lst ys) ∧ RddAll H ys (rs.map rd) ∧ Tm.RoadsOk n rs ∧ H nm = some (.lst (ns.map V.str)) ∧ ns.length = n ∧ n ≤ 64 ∧ r ≠ nm ∧
  ∀ (p : LParts) H', Same H H' → p.r = r → p.nm = nm → (∀ a ∈ p.x :: p.lg :: p.wt :: p.ht :: p.dd :: (p.la ++ p.tab.map (·.2)), H a = none) → LNet H' p n rs ns NS.new → Q (.ref p.x) H'
theorem ok_start (F : Fd K "_law_start" sStart f fd) (g : mg "_law_start" = some (.ref f)) (B : Bl mg) : Ok P w K mg base CX0 1 "_law_start" sStart ["roads", "names"] spStart := by
  refine ⟨f, fd, g, F, F.bindsN fun _ _ _ _ _ _ us hl => match us, hl with | [_, _], _ => rfl, F.ok scStart (fun vs H Q E h => ?_) (fun cdv A outer s H vs Q E hr h => ?_)⟩
  · obtain ⟨r, nm, ys, n, rs, ns, rfl, _⟩ := h
    rfl
  · have hu : (cxOf CX0 P w K mg base ["roads", "names", "under", "u", "v", "name"] "_law_start" (defScope sStart) f cdv A outer s H E).A.units + 1 < cLine := by
      have z := hr.un
      show (A.deeper _).units + 1 < cLine
      omega
    refine ⟨_, (pss_cons (ps_set (i := 2) scStart.nd rfl (Or.inl rfl) pe_dnewT)
      (pss_cons (ps_for (passes_of rfl) rfl (pi_list (pv 0)) (pg_tup rfl (pgs_cons (pg_name (i := 3) scStart.nd rfl (Or.inl rfl)) (pgs_cons (pg_name (i := 4) scStart.nd rfl (Or.inl rfl)) pgs_nil)))
        (pss_cons (ps_dput hu (pv 2) (pe_tup (pa_cons (pv 3) (pa_cons (pv 4) pa_nil))) (pe_lst pa_nil) rfl)
        (pss_one (ps_dput hu (pv 2) (pe_tup (pa_cons (pv 4) (pa_cons (pv 3) pa_nil))) (pe_lst pa_nil) rfl))))
      (pss_one (ps_ret (pe_lst (pa_cons (pv 0) (pa_cons (pv 1) (pa_cons (pe_lc (own := [("name", 5)]) (g := gName 5) rfl scStart.nd (pi_list (pv 1)) (blkOk_by (N := ["roads", "names", "under", "u", "v", "name"]) (sc := defScope sStart) (by decide +kernel)) (fun _ _ _ _ _ => (pg_name (i := 5) scStart.nd rfl (Or.inl rfl))) (fun _ _ _ _ _ => pts_nil) (fun _ _ _ _ _ => (pe_lst pa_nil))) (pa_cons (pv 2) (pa_cons (pe_lst pa_nil) (pa_cons (pe_lst pa_nil) pa_nil))))))))))), ?_⟩
    obtain ⟨r, nm, ys, n, rs, ns, rfl, hr1, rr, ok, hnm, ln, n64, rnm, q⟩ := h
    have lys : ys.length = rs.length := by
      have := rdds_len rr
      rwa [List.length_map] at this
    have lrs := ok.len
    have ind : (inter rs).Nodup := (inter_perm rs).nodup_iff.mpr (both_nd ok)
    refine fun D hD => ?_
    have kD := upd_grow (o := .dT []) hD
    have hD1 := upd_same (H := H) (a := D) (o := .dT [])
    generalize upd H D (.dT []) = H1 at kD hD1 ⊢
    dsimp only [gName, tSeq, gNil, L2.start]
    refine ⟨_, rfl, r, rfl, ⟨_, SqL.of (kD _ _ hr1)⟩, for_it (walk_list (xs := ys)) (fun i σ H' => ∃ tab, tab.map (·.1) = inter (rs.take i) ∧ (∀ e ∈ tab, H e.2 = none) ∧ DL H' D tab (fun _ => []) ∧ Same H H' ∧ ∃ z1 z2 : Option V, σ = [some (.ref r), some (.ref nm), some (.ref D), z1, z2, none]) ?_ (fun i σ H' _ z => ?_) ?_ ?_⟩
    · exact ⟨[], by simp [inter], (fun _ z => nomatch z), ⟨hD1, .nil, .nil, (fun z => nomatch z), fun _ z => nomatch z⟩, kD, none, none, rfl⟩
    · obtain ⟨_, _, _, _, k, _⟩ := z
      exact SqL.of (k _ _ hr1)
    · rintro i x σ H2 H3 hi ⟨tab, lt, fr, S, k2, z1, z2, rfl⟩ ⟨rfl, hx2⟩
      have hir : i < rs.length := by omega
      obtain ⟨x', hx', rx'⟩ := rdds_get (rr.mono k2) (show (rs.map rd)[i]? = some (rd rs[i]) by rw [List.getElem?_map, List.getElem?_eq_getElem hir]; rfl)
      rw [hx2] at hx'
      obtain rfl : x = x' := Option.some.inj hx'
      have e1 : inter (rs.take (i + 1)) = inter (rs.take i) ++ [rk rs[i], rk (swp rs[i])] := by
        unfold inter
        rw [List.take_succ_eq_append_getElem hir, List.flatMap_append]
        simp
      have nd2 : (inter (rs.take (i + 1))).Nodup := by
        have e0 : inter rs = inter (rs.take (i + 1)) ++ inter (rs.drop (i + 1)) := by
          unfold inter
          rw [← List.flatMap_append, List.take_append_drop]
        have ind := ind
        rw [e0] at ind
        exact (List.nodup_append.mp ind).1
      rw [e1, ← lt] at nd2
      have ltab : tab.length ≤ 128 := by
        have := congrArg List.length lt
        rw [List.length_map, inter_len, List.length_take] at this
        omega
      generalize rs[i] = r2 at rx' e1 nd2
      obtain ⟨u, v⟩ := r2
      have nd3 := List.nodup_append.mp nd2
      have n1 : rk (u, v) ∉ tab.map (·.1) := fun m => nd3.2.2 _ m _ (by simp) rfl
      have n2 : rk (swp (u, v)) ∉ tab.map (·.1) := fun m => nd3.2.2 _ m _ (by simp) rfl
      have n3 : rk (swp (u, v)) ≠ rk (u, v) := fun z => by
        have := (List.nodup_cons.mp nd3.2.1).1
        exact this (by rw [z]; exact List.mem_cons_self)
      unfold rd at rx'
      cases rx' with
      | @tup pt zs es hpt0 r3 =>
        obtain ⟨y1, y2, rfl, r4, r5⟩ := rdds_two r3
        cases r4
        cases r5
        refine ⟨pt, _, rfl, SqT.of hpt0, rfl, _, _, rfl, _, _, rfl, rfl, ?_⟩
        refine ⟨two_ln (by decide), fun a ha => ⟨_, rfl, _, rfl, _, rfl, two_ln (by show 2 ≤ _; decide), fun p1 hp1 => ?_⟩⟩
        obtain ⟨H4, d4, k4, S4, a0⟩ := put_new (k := rk (u, v)) k2 hD S n1 ha hp1 (lt_ln (by omega))
        refine ⟨D, H4, rfl, d4, ?_⟩
        have n4 : rk (swp (u, v)) ∉ (tab ++ [(rk (u, v), a)]).map (·.1) := fun m => by
          rw [List.map_append] at m
          rcases List.mem_append.mp m with m | m
          · exact n2 m
          · exact n3 (List.mem_singleton.mp m)
        refine ⟨two_ln (by decide), fun b hb => ⟨_, rfl, _, rfl, _, rfl, two_ln (by show 2 ≤ _; decide), fun p2 hp2 => ?_⟩⟩
        obtain ⟨H5, d5, k5, S5, b0⟩ := put_new (k := rk (swp (u, v))) k4 hD S4 n4 hb hp2 (lt_ln (by rw [List.length_append]; show _ + 1 < _; omega))
        refine ⟨D, H5, rfl, d5, _, ?_, ?_, S5, k5, _, _, rfl⟩
        · rw [List.map_append, List.map_append, lt, e1, List.append_assoc]
          rfl
        · intro e he
          rcases List.mem_append.mp he with he | he
          · rcases List.mem_append.mp he with he | he
            · exact fr e he
            · rw [List.mem_singleton.mp he]
              exact a0
          · rw [List.mem_singleton.mp he]
            exact b0
    · rintro σ H2 ⟨tab, lt, fr, S, k2, z1, z2, rfl⟩
      rw [lys, List.take_length] at lt
      refine ⟨_, rfl, _, rfl, _, rfl, nm, rfl, ⟨_, SqL.of (k2 _ _ hnm)⟩, fun lg hlg => ?_⟩
      refine lc_empties (walk_list (xs := ns.map V.str)) hlg (by rw [List.length_map]; omega) (fun H' k => SqL.of (del_sub k _ _ (k2 _ _ hnm))) ?_ ?_
      · rintro i y H4 H5 K1 N1 hi k4 ⟨rfl, _⟩ hK
        exact ⟨rfl, two_ln (by decide), fun a ha => hK a ha⟩
      intro la H3 lla f3 _ k3 S3
      have lla : la.length = n := by rw [lla, List.length_map, ln]
      refine ⟨_, rfl, two_ln (by decide), fun ht hht => ⟨two_ln (by decide), fun dd hdd => ⟨two_ln (by show 6 ≤ _; decide), fun x hx => ?_⟩⟩⟩
      have k4 := upd_grow (o := .lst []) hht
      have h4 := upd_same (H := H3) (a := ht) (o := .lst [])
      generalize upd H3 ht (.lst []) = H4 at k4 h4 hdd hx ⊢
      have k5 := upd_grow (o := .lst []) hdd
      have h5 := upd_same (H := H4) (a := dd) (o := .lst [])
      generalize upd H4 dd (.lst []) = H5 at k5 h5 hx ⊢
      have k6 := upd_grow (o := .lst (xsL ⟨x, r, nm, lg, D, ht, dd, la, tab⟩)) hx
      have k35 := k4.trans k5
      have k36 := k35.trans k6
      have k06 := (k2.trans k3).trans k36
      have none0 : ∀ {X : Hp} {a : Addr}, Same H X → X a = none → H a = none := fun {X a} k e => by
        cases z : H a with
        | none => rfl
        | some o => rw [k _ _ z] at e; cases e
      have none2 : ∀ {X : Hp} {a : Addr}, Same H2 X → X a = none → H2 a = none := fun {X a} k e => by
        cases z : H2 a with
        | none => rfl
        | some o => rw [k _ _ z] at e; cases e
      have k25 := k3.trans k35
      refine q ⟨x, r, nm, lg, D, ht, dd, la, tab⟩ _ k06 rfl rfl (fun a m => ?_) ?_
      · simp only [List.mem_cons, List.mem_append] at m
        rcases m with rfl | rfl | rfl | rfl | rfl | m | m
        · exact none0 (k2.trans k25) hx
        · exact none0 k2 hlg
        · exact hD
        · exact none0 (k2.trans k3) hht
        · exact none0 ((k2.trans k3).trans k4) hdd
        · exact none0 k2 (f3 a m)
        · obtain ⟨e, he, rfl⟩ := List.mem_map.mp m
          exact fr e he
      · have la2 : ∀ a ∈ la, H2 a = none := f3
        have la3 : ∀ a ∈ la, ∃ o, H3 a = some o := fun a m => by
          obtain ⟨j, lj, e⟩ := List.mem_iff_getElem.mp m
          exact ⟨_, S3.row j a (by rw [List.getElem?_eq_getElem lj, e])⟩
        have tab2 : ∀ a ∈ tab.map (·.2), ∃ o, H2 a = some o := fun a m => by
          obtain ⟨e, he, rfl⟩ := List.mem_map.mp m
          exact ⟨_, S.row e he⟩
        have tab0 : ∀ a ∈ tab.map (·.2), H a = none := fun a m => by
          obtain ⟨e, he, rfl⟩ := List.mem_map.mp m
          exact fr e he
        have sd : ∀ {X Y : Hp} {a : Addr} {o : HO}, Same X Y → X a = some o → ∀ {b : Addr}, Y b = none → a ≠ b := fun {X Y a o} k e {b} z y => by
          have := k _ _ e
          rw [y, z] at this
          cases this
        refine ⟨upd_same, ⟨ys, k06 _ _ hr1, rr.mono k06⟩, k06 _ _ hnm, ln, ok, ⟨fun _ => [], fun _ => [], ⟨k36 _ _ S3.top, S3.nd, S3.nin, fun j a e => k36 _ _ (S3.row j a e)⟩, ⟨(k3.trans k36) _ _ S.top, S.nk, S.nd, S.nin, fun e m => (k3.trans k36) _ _ (S.row e m)⟩, fun _ _ => .nil, fun _ _ => .nil⟩,
          lla, lt ▸ inter_perm rs, (k5.trans k6) _ _ h4, ⟨[], k6 _ _ h5, .nil⟩, ?_⟩
        have s_lg := S3.top
        have x5 : ∀ {a : Addr} {o : HO}, H5 a = some o → x ≠ a := fun {a o} e => (sd (fun _ _ z => z) e hx).symm
        have d4 : ∀ {a : Addr} {o : HO}, H4 a = some o → a ≠ dd := fun {a o} e => sd (fun _ _ z => z) e hdd
        have t3 : ∀ {a : Addr} {o : HO}, H3 a = some o → a ≠ ht := fun {a o} e => sd (fun _ _ z => z) e hht
        have g2 : ∀ {a : Addr} {o : HO}, H2 a = some o → a ≠ lg ∧ a ∉ la := fun {a o} e => ⟨sd (fun _ _ z => z) e hlg, fun m => by rw [la2 a m] at e; cases e⟩
        have h0 : ∀ {a : Addr} {o : HO}, H a = some o → a ≠ D ∧ a ∉ tab.map (·.2) := fun {a o} e => ⟨(fun z => by rw [z, hD] at e; cases e), fun m => by rw [tab0 a m] at e; cases e⟩
        have r0 := hr1
        have r2 := k2 _ _ hr1
        have r3 := k3 _ _ r2
        have r4 := k4 _ _ r3
        have m2 := k2 _ _ hnm
        have m3 := k3 _ _ m2
        have m4 := k4 _ _ m3
        have D3 := k3 _ _ S.top
        have D4 := k4 _ _ D3
        have g4 := k4 _ _ s_lg
        unfold LParts.all
        simp only [List.nodup_cons, List.mem_cons, List.mem_append, not_or]
        refine ⟨⟨x5 (k5 _ _ r4), x5 (k5 _ _ m4), x5 (k5 _ _ g4), x5 (k5 _ _ D4), x5 (k5 _ _ h4), x5 h5, (fun m => ?_), fun m => ?_⟩, ⟨rnm, (g2 r2).1, (h0 hr1).1, t3 r3, d4 r4, (g2 r2).2, (h0 hr1).2⟩, ⟨(g2 m2).1, (h0 hnm).1, t3 m3, d4 m4, (g2 m2).2, (h0 hnm).2⟩,
          ⟨(g2 S.top).1.symm, t3 s_lg, d4 g4, S3.nin, fun m => ?_⟩, ⟨t3 D3, d4 D4, (g2 S.top).2, S.nin⟩, ⟨d4 h4, (fun m => ?_), fun m => ?_⟩, ⟨(fun m => ?_), fun m => ?_⟩, List.nodup_append.mpr ⟨S3.nd, S.nd, fun a ha b hb e => ?_⟩⟩
        · obtain ⟨o, e⟩ := la3 _ m
          exact x5 (k35 _ _ e) rfl
        · obtain ⟨o, e⟩ := tab2 _ m
          exact x5 (k25 _ _ e) rfl
        · obtain ⟨o, e⟩ := tab2 _ m
          exact (g2 e).1 rfl
        · obtain ⟨o, e⟩ := la3 _ m
          exact t3 e rfl
        · obtain ⟨o, e⟩ := tab2 _ m
          exact t3 (k3 _ _ e) rfl
        · obtain ⟨o, e⟩ := la3 _ m
          exact d4 (k4 _ _ e) rfl
        · obtain ⟨o, e⟩ := tab2 _ m
          exact d4 ((k3.trans k4) _ _ e) rfl
        · subst e
          obtain ⟨o, e⟩ := tab2 _ hb
          exact (g2 e).2 ha
end
end K04

namespace K04
open PySem PySem.Spec PyProof.Rows L2 Tn TL
section
variable {H : Hp} {p : LParts} {n : Nat} {rs : List Tm.Road} {ns : List Str} {S : NS}
theorem L_apart2 (h : p.all.Nodup) : (p.x ≠ p.ht ∧ p.r ≠ p.ht ∧ p.nm ≠ p.ht ∧ p.lg ≠ p.ht ∧ p.dd ≠ p.ht) ∧ (p.x ≠ p.dd ∧ p.r ≠ p.dd ∧ p.nm ≠ p.dd ∧ p.lg ≠ p.dd ∧ p.ht ≠ p.dd) := by
  unfold LParts.all at h
  simp only [List.nodup_cons, List.mem_cons, List.mem_append, not_or] at h
  obtain ⟨⟨_, _, _, _, x1, x2, _⟩, ⟨_, _, _, r1, r2, _⟩, ⟨_, _, m1, m2, _⟩, ⟨_, g1, g2, _⟩, _, ⟨h1, _⟩, _⟩ := h
  exact ⟨⟨x1, r1, m1, g1, fun z => h1 z.symm⟩, ⟨x2, r2, m2, g2, h1⟩⟩
/-- who is halted -/
theorem LNet.halt (N : LNet H p n rs ns S) (l : List Nat) : LNet (upd H p.ht (.lst (natV l))) p n rs ns { S with ht := l } ∧ Bm p.M H (upd H p.ht (.lst (natV l))) := by
  obtain ⟨LG, WT, S1, S2, a1, a2⟩ := N.ex
  obtain ⟨⟨x1, r1, m1, g1, d1⟩, _⟩ := L_apart2 N.apart
  obtain ⟨ap1, _⟩ := L_apart N.apart
  have k1 : Bm [p.ht] H (upd H p.ht (.lst (natV l))) := Bm.upd N.ht List.mem_cons_self
  have ne : ∀ b, b ≠ p.ht → b ∉ [p.ht] := fun b h m => h (List.mem_singleton.mp m)
  obtain ⟨rsv, hr1, rr⟩ := N.r
  obtain ⟨ds, hd, rdd⟩ := N.dd
  have fr : flatAll (rs.map rd) = true := by
    have := flat_rds rs
    simpa only [flat] using this
  exact ⟨⟨k1.lst (ne _ x1) N.x, ⟨rsv, k1.lst (ne _ r1) hr1, rdds_bm k1 rr fr⟩, k1.lst (ne _ m1) N.nm, N.len, N.ok,
    ⟨LG, WT, LL.bm k1 (ne _ g1) (fun b m => ne _ (ap1 b (List.mem_append_left _ m)).2.2.2.2.2.1) S1, DL.bm k1 (fun e m => ne _ (ap1 e.2 (List.mem_append_right _ (List.mem_map.mpr ⟨e, m, rfl⟩))).2.2.2.2.2.1) S2, fun h lt => rdds_bm k1 (a1 h lt) (flat_line _), fun q hq => rdds_bm k1 (a2 q hq) (flat_line _)⟩,
    N.lla, N.keys, upd_same, ⟨ds, k1.lst (ne _ d1) hd, rdds_bm k1 rdd (flat_deed _)⟩, N.apart⟩, Bm.upd N.ht (by unfold LParts.M; exact List.mem_cons_self)⟩
/-- its deeds -/
theorem LNet.deed (N : LNet H p n rs ns S) : ∃ xs, H p.dd = some (.lst xs) ∧ RddAll H xs (S.dd.map deedD) ∧ ∀ ys l, RddAll H ys (l.map deedD) → LNet (upd H p.dd (.lst ys)) p n rs ns { S with dd := l } ∧ Bm p.M H (upd H p.dd (.lst ys)) := by
  obtain ⟨LG, WT, S1, S2, a1, a2⟩ := N.ex
  obtain ⟨_, ⟨x1, r1, m1, g1, d1⟩⟩ := L_apart2 N.apart
  obtain ⟨ap1, _⟩ := L_apart N.apart
  obtain ⟨rsv, hr1, rr⟩ := N.r
  obtain ⟨ds, hd, rdd⟩ := N.dd
  refine ⟨ds, hd, rdd, fun ys l ry => ?_⟩
  have k1 : Bm [p.dd] H (upd H p.dd (.lst ys)) := Bm.upd hd List.mem_cons_self
  have ne : ∀ b, b ≠ p.dd → b ∉ [p.dd] := fun b h m => h (List.mem_singleton.mp m)
  have fr : flatAll (rs.map rd) = true := by
    have := flat_rds rs
    simpa only [flat] using this
  exact ⟨⟨k1.lst (ne _ x1) N.x, ⟨rsv, k1.lst (ne _ r1) hr1, rdds_bm k1 rr fr⟩, k1.lst (ne _ m1) N.nm, N.len, N.ok,
    ⟨LG, WT, LL.bm k1 (ne _ g1) (fun b m => ne _ (ap1 b (List.mem_append_left _ m)).2.2.2.2.2.2) S1, DL.bm k1 (fun e m => ne _ (ap1 e.2 (List.mem_append_right _ (List.mem_map.mpr ⟨e, m, rfl⟩))).2.2.2.2.2.2) S2, fun h lt => rdds_bm k1 (a1 h lt) (flat_line _), fun q hq => rdds_bm k1 (a2 q hq) (flat_line _)⟩,
    N.lla, N.keys, k1.lst (ne _ d1) N.ht, ⟨_, upd_same, rdds_bm k1 ry (flat_deed _)⟩, N.apart⟩, Bm.upd hd (by unfold LParts.M; exact List.mem_cons_of_mem _ List.mem_cons_self)⟩
end
end K04

namespace K04
open PySem PySem.Spec PyProof.Rows L2 Tn TL
theorem LNet.tell {H : Hp} {p : LParts} {n : Nat} {rs : List Tm.Road} {ns : List Str} {S : NS} (N : LNet H p n rs ns S) (l2 : S.dd.length < 1000) : ∃ ds, H p.dd = some (.lst ds) ∧ ds.length < sizeLine ∧
    ∀ (pt : Addr) (xs : List V) (d : Deed), H pt = none → Rdd (upd H pt (.tup xs)) (.ref pt) (deedD d) → upd H pt (.tup xs) p.dd = some (.lst ds) ∧
      LNet (upd (upd H pt (.tup xs)) p.dd (.lst (ds ++ [.ref pt]))) p n rs ns { S with dd := S.dd ++ [d] } ∧ Bm p.M H (upd (upd H pt (.tup xs)) p.dd (.lst (ds ++ [.ref pt]))) := by
  obtain ⟨ds, hd, rd2, _⟩ := N.deed
  have lds : ds.length = S.dd.length := by
    have := rdds_len rd2
    rwa [List.length_map] at this
  refine ⟨ds, hd, by rw [lds]; exact lt_ln (by omega), fun pt xs d hpt r => ?_⟩
  have k3 := upd_grow (o := .tup xs) hpt
  generalize upd H pt (.tup xs) = H3 at k3 r ⊢
  obtain ⟨ds3, hd3, rd3, put3⟩ := (N.same k3).deed
  have e3 := k3 _ _ hd
  rw [hd3] at e3
  obtain rfl := HO.lst.inj (Option.some.inj e3)
  have rnew : RddAll H3 (ds3 ++ [V.ref pt]) ((S.dd ++ [d]).map deedD) := by
    rw [List.map_append]
    exact rdds_add r rd3
  obtain ⟨N4, b4⟩ := put3 _ (S.dd ++ [d]) rnew
  exact ⟨hd3, N4, (Bm.of k3).trans b4⟩
end K04

/-! sorted(d), d a dict whose keys are tuples of whole numbers -/
namespace L2
open PySem PySem.Spec PyProof.Rows
theorem isKeys_perm_of {H : Hp} {kvs : List (List Key × V)} {bs : List Addr} (h : IsKeys H kvs bs) : ∀ b ∈ bs, ∃ k ∈ kvs.map (·.1), H b = some (.tup (k.map kV)) := by
  unfold IsKeys at h
  induction h with
  | nil => intro b m; cases m
  | cons h t ih =>
    intro b m
    rcases List.mem_cons.mp m with rfl | m
    · exact ⟨_, List.mem_cons_self, h⟩
    · obtain ⟨k, mk, e⟩ := ih b m
      exact ⟨k, List.mem_cons_of_mem _ mk, e⟩
section
variable {X : Cx}
theorem call_sortedDT {d : Nat} {B : Int} (hd0 : 1 ≤ d) (hc : X.calm = true) : CallR X (.builtin "sorted") (fun xs H Q => ∃ D kvs, xs = [V.ref D] ∧ Rd H D (.dT kvs) ∧ kvs.length < 64 ∧
    (∀ k ∈ kvs.map (·.1), ∃ ns : List Int, k.map kV = ns.map V.int ∧ ns.length = d ∧ TS.Bd B ns) ∧
    ∀ (p : Addr) (bs cs : List Addr), H p = none → IsKeys H kvs bs → cs.Perm bs → Q (.ref p) (upd H p (.lst (cs.map V.ref)))) := by
  intro pins s σ H xs us Q I r h
  obtain ⟨D, kvs, rfl, hd, h64, hks, q⟩ := h
  obtain ⟨u, rfl, rx⟩ := r.one
  cases rx
  obtain ⟨z, hs, ks, pr, o, es, ep, ho, hx, hdt, he, hn⟩ := (show ObjOk X.prog X.w H s.heap D (.dT kvs) from hd.ok I.hok)
  have l1 : es.size = ks.length := size_of_entries he
  have l2 : kvs.length = ks.length := Paired.length pr
  have ik := isKeys_of pr
  refine Calls.call_function_entry PyProof.Rows.kind_sorted PyProof.Rows.plain_sorted PyProof.Rows.entry_sorted (PyProof.Rows.args_sorted1 _) ?_
  unfold Builtin.«sorted»
  refine wpAny_bind (m := checkCount "sorted" 1 1 _) (wpAny_pure ?_)
  refine wpAny_bind (PySem.W.kdu_collect (A := X.A.in1) (kdl_raw hs hx hdt) (I.ok.hd hc) ho (by omega) fun h' tk acc kp it => ?_)
  have ea : acc.toList = ks.map fun x => Value.ref x.2.1 := by
    have hl : acc.toList.length = ks.length := by rw [Array.length_toList, it.1]; exact l1
    apply List.ext_getElem?
    intro j
    rw [List.getElem?_map]
    cases hj : acc.toList[j]? with
    | none =>
      have h1 := List.getElem?_eq_none_iff.mp hj
      rw [List.getElem?_eq_none (by omega)]
      all_goals rfl
    | some v =>
      obtain ⟨en, hen, hv⟩ := it.2 j v (by rw [← Array.getElem?_toList]; exact hj)
      have qe := entry_at he j
      rw [hen] at qe
      cases hb : ks[j]? with
      | none =>
        rw [hb] at qe
        exact nomatch (show some en = none from qe)
      | some b =>
        rw [hb] at qe
        have e2 : en = entryOfKey (tupleKind (mixKind X.prog X.w)) b := Option.some.inj qe
        rw [hv, e2]
        all_goals rfl
  have eb : acc.toList = (ks.map fun x => x.2.1).map Value.ref := by rw [ea, List.map_map]; all_goals rfl
  generalize hbs : (ks.map fun x => x.2.1) = bs at eb ik
  have lbs : bs.length = kvs.length := by rw [← hbs, List.length_map, l2]
  have I1 : Inv X pins σ H { s with heap := h', toks := tk } := I.kept kp
  rw [eb]
  have lv : (bs.map Value.ref).length < 64 := by rw [List.length_map, lbs]; exact h64
  refine wpAny_bind (wpAny_newList ?_ (by rw [sizeLine_eq]; omega))
  have hoL : (h'.push (seqObj "list" (bs.map Value.ref).toArray 0)).get? h'.objs.size = some (seqObj "list" (bs.map Value.ref).toArray 0) := Heap.get?_push_size _ rfl
  show wpAny _ _ _ _ _ { s with heap := h'.push (seqObj "list" (bs.map Value.ref).toArray 0), toks := tk }
  have tup : ∀ v ∈ bs.map Value.ref, ∃ ns, TS.TupInts h' v ns ∧ ns.length = d ∧ TS.Bd B ns := fun v hv => by
    obtain ⟨b, mb, rfl⟩ := List.mem_map.mp hv
    obtain ⟨k, mk, e⟩ := isKeys_perm_of ik b mb
    obtain ⟨ns, e1, e2, e3⟩ := hks k mk
    rw [e1] at e
    exact ⟨ns, tupI_raw I1 (SqT.of e), e2, e3⟩
  have keep : ∀ b o, h'.get? b = some o → o.cls = .type "tuple" → (h'.push (seqObj "list" (bs.map Value.ref).toArray 0)).get? b = some o := fun b o q _ => Heap.get?_push_of_some _ q
  have x : TS.TupsOk { s with heap := h', toks := tk }.heap d B (bs.map Value.ref) := tup
  refine wpAny_bind (wpAny_holding (wpAny_call_entry slot_list_sort ⟨_, hoL, rfl⟩ entry_list_sort
    (TS.sort_tups (s := { s with heap := h'.push (seqObj "list" (bs.map Value.ref).toArray 0), toks := tk }) (d := d) (B := B) hoL lv hd0 (x.keeps keep) (fun v => TS.code B (TS.intsOf h' v)) (fun v hv ns t => ?_) fun out a1 a2 => ⟨_, rfl, ?_⟩) (args_list_sort _)))
  · obtain ⟨ns0, t0, _⟩ := tup v hv
    have e : ns = ns0 := t.ints.symm.trans (t0.keeps keep).ints
    rw [e]
    show TS.code B (TS.intsOf h' v) = TS.code B ns0
    rw [t0.ints]
  · obtain ⟨ep', he'⟩ := PyProof.Rows.sortedHeap_at (vs := bs.map Value.ref) (out := out) hoL
    obtain ⟨cs, pc, ec⟩ : ∃ cs : List Addr, cs.Perm bs ∧ out.toList = cs.map Value.ref := by
      have inj : ∀ {us : List Value}, (∀ u ∈ us, u ∈ bs.map Value.ref) → ∃ cs : List Addr, us = cs.map Value.ref := by
        intro us
        induction us with
        | nil => intro _; exact ⟨[], rfl⟩
        | cons u us ih =>
          intro h
          obtain ⟨cs, rfl⟩ := ih fun y hy => h y (List.mem_cons_of_mem _ hy)
          obtain ⟨b, _, rfl⟩ := List.mem_map.mp (h u List.mem_cons_self)
          exact ⟨b :: cs, rfl⟩
      obtain ⟨cs, ec⟩ := inj fun u hu => a1.mem_iff.mp hu
      refine ⟨cs, ?_, ec⟩
      rw [ec] at a1
      have := a1.map fun v => match v with | Value.ref a => a | _ => 0
      rw [List.map_map, List.map_map] at this
      simpa [Function.comp_def] using this
    have hlen : (cs.map V.ref).length ≤ sizeLine := by
      rw [List.length_map, pc.length_eq, lbs]
      exact Nat.le_trans (Nat.le_of_lt h64) (by decide)
    refine wpAny_pure ⟨_, rfl, .ref h'.objs.size, upd H h'.objs.size (.lst (cs.map V.ref)), I1.laid (t' := tk) (fun b u e => ?_) (Nat.le_refl _)
      (show ObjOk X.prog X.w _ _ _ (.lst (cs.map V.ref)) from ⟨hlen, out.toList, ep', by rw [ec]; exact vals_refs _, by rw [Array.toArray_toList]; exact he'⟩), rfl, q _ bs cs (I1.hok.fresh (Nat.le_refl _)) ik pc⟩
    have hb : b < h'.objs.size := Heap.lt_size e
    rw [PyProof.Rows.sortedHeap_old (Nat.ne_of_lt hb) (by rw [size_push']; exact Nat.lt_succ_of_lt hb)]
    exact Heap.get?_push_of_some _ e
end
end L2

/-! a method called by keywords alone, which may raise -/
namespace L2
open PySem PySem.Spec PyProof.Rows
def tMethK (C : Addr) (m : Str) (n : Nat) (sp : Sp) (gV : List V → List V → List V) (E : St → XK) (ta : TE) (tk : TA) : TE := fun σ H Q => ta σ H fun x H1 => ∃ a dx fs, x = .ref a ∧ H1 a = some (.ins C dx fs) ∧ fs.lookup m = none ∧
  tk σ H1 fun zs H2 => zs.length = n ∧ sp (gV [x] zs) H2 Q (E σ)
section
variable {X : Cx} {CX : CXT} {k : Nat} {f C : Addr} {fd : FuncData} {ps ks : List Str} {sp : Sp} {E : St → XK} {m : Str} {pos apos : Pos} {o : Expr} {kws : List Keyword} {ta : TE} {tk : TA} {g : List Value → List Value → List Value} {gV : List V → List V → List V}
theorem pe_methK0 {pl : Sem Bool} (he : PE X o ta) (c : Cls X.K C) (hm : Meth X.K C m f) (F : FnOk X.prog X.w X.K X.mg X.base CX k f fd ps sp) (hr : Room k X.A) (hb : KBn X.K fd ps 1 ks g gV) (hx : ∀ σ, PassesAt CX X σ (E σ)) (hkw : PK X kws tk)
    (hall : (backToKw pos (keywordEach kws X.env)).all (·.1.isSome) = true := by rfl) (hks : (backToKw pos (keywordEach kws X.env)).filterMap (·.1) = ks := by rfl)
    (hpl : ((backTo pos (starEach [] X.env)).any (·.1) || (backToKw pos (keywordEach kws X.env)).any (·.1.isNone)) = false := by rfl)
    (ht : eval (.Call (.Attribute o m apos) [] kws pos) X.env = (do
      let ov ← eval o X.env
      standAt apos.atName
      let (f, first) ← holding [ov] (getMethod ov m pl)
      callWith pos f first (backTo pos (starEach [] X.env)) (backToKw pos (keywordEach kws X.env))) := by rfl) :
    PE X (.Call (.Attribute o m apos) [] kws pos) (tMethK C m ks.length sp gV E ta tk) := by
  refine ⟨fun pins s σ H Q I h => ?_⟩
  refine PySem.W.methodCall_KW (pl := pl) (thn (he.run pins s σ H _ I h) fun u s1 ⟨x, H1, I1, rx, a, dx, fs, ex, ea, l, q⟩ => ?_) ht
  subst ex
  obtain rfl : u = Value.ref a := rx
  refine getmeth_ok I1 ea c hm l ?_
  refine PySem.W.callWith_KW0 (first := [.ref a]) (h₀ := X.base) I.ok.mod.kin hm.kp hall ?_ hpl
  refine thn (hkw.run pos pins s1 σ H1 _ I1 q) fun ws s2 ⟨zs, H2, I2, rz, l2, q2⟩ => ⟨I2.kIn, ?_⟩
  rw [hks]
  exact run_fnKS (us := [.ref a]) (vs := [.ref a]) F hr hb (hx σ) I2 (.cons rfl .nil) rz rfl l2 q2
end
/-- a method by its place, called by the keywords ks -/
structure MeOkK (P : Program) (w : World) (K : PySem.W.Frag) (mg : Str → Option Value) (base : Heap) (CX : CXT) (k : Nat) (C : Addr) (m : Str) (ps : List Str) (sp : Sp) (ks : List Str) (gV : List V → List V → List V) : Prop where
  ex : ∃ f fd g, Meth K C m f ∧ KBn K fd ps 1 ks g gV ∧ FnOk P w K mg base CX k f fd ps sp
section
variable {X : Cx} {CX : CXT} {k : Nat} {C : Addr} {ps ks : List Str} {sp : Sp} {E : St → XK} {m : Str} {pos apos : Pos} {o : Expr} {kws : List Keyword} {ta : TE} {tk : TA} {gV : List V → List V → List V}
theorem pe_mk (O : MeOkK X.prog X.w X.K X.mg X.base CX k C m ps sp ks gV) {pl : Sem Bool} (he : PE X o ta) (c : Cls X.K C) (hr : Room k X.A) (hx : ∀ σ, PassesAt CX X σ (E σ)) (hkw : PK X kws tk)
    (hall : (backToKw pos (keywordEach kws X.env)).all (·.1.isSome) = true := by rfl) (hks : (backToKw pos (keywordEach kws X.env)).filterMap (·.1) = ks := by rfl)
    (hpl : ((backTo pos (starEach [] X.env)).any (·.1) || (backToKw pos (keywordEach kws X.env)).any (·.1.isNone)) = false := by rfl)
    (ht : eval (.Call (.Attribute o m apos) [] kws pos) X.env = (do
      let ov ← eval o X.env
      standAt apos.atName
      let (f, first) ← holding [ov] (getMethod ov m pl)
      callWith pos f first (backTo pos (starEach [] X.env)) (backToKw pos (keywordEach kws X.env))) := by rfl) :
    PE X (.Call (.Attribute o m apos) [] kws pos) (tMethK C m ks.length sp gV E ta tk) := by
  obtain ⟨f, fd, g, hm, b, F⟩ := O.ex
  exact pe_methK0 (pl := pl) he c hm F hr b hx hkw hall hks hpl ht
end
end L2

namespace K04
open PySem PySem.Spec PyProof.Rows L2 Tn TL
/-! ### a word, what is due -/
inductive Wd | make | hand | lose | under | stop | log
def Wd.s : Wd → Str
  | .make => "make" | .hand => "hand" | .lose => "lose" | .under => "under" | .stop => "stop" | .log => "log"
/-- what is done -/
inductive Act | make (a : Nat) (z : Str) | hand (a b : Nat) | lose (a b : Nat) | under (a b : Nat) | stop (a : Nat) | log (a : Nat)
/-- what is refused -/
inductive Bad | house (v : V) | text (v : V) | road (u v : V) | stopped (v : V) | twice (u v : V) | nothing (u v : V)
def Bad.vs : Bad → List V
  | .house v => [.str "house", v]
  | .text v => [.str "text", v]
  | .road u v => [.str "road", u, v]
  | .stopped v => [.str "stopped", v]
  | .twice u v => [.str "twice", u, v]
  | .nothing u v => [.str "nothing", u, v]
def houseOf (n : Nat) : PyData → Option Nat
  | .int i => if belowD n (.int i) = true then some i.toNat else none
  | _ => none
def Wd.one : Wd → Bool
  | .make => true | .stop => true | .log => true | _ => false
theorem Wd.in3 (w : Wd) : inV (.str w.s) [.str "log", .str "stop", .str "make"] = w.one := by cases w <;> decide +kernel
/-- an act on a road -/
def judgeR (rs : List Tm.Road) (S : NS) (w : Wd) (v1 v2 : V) (a b : Nat) : Bad ⊕ Act :=
  if b ∈ Tm.near rs a then
    match w with
    | .hand => if a ∈ S.ht then .inl (.stopped v1) else if b ∈ S.ht then .inl (.stopped v2) else if (S.wt (a, b)).isEmpty then .inl (.nothing v1 v2) else .inr (.hand a b)
    | .lose => if (S.wt (a, b)).isEmpty then .inl (.nothing v1 v2) else .inr (.lose a b)
    | _ => .inr (.under a b)
  else .inl (.road v1 v2)
def judgeM (ns : List Str) (S : NS) (v1 v2 : V) (a : Nat) : PyData → Bad ⊕ Act
  | .str z => if textS z = true then (if a ∈ S.ht then .inl (.stopped v1) else if (ns.getD a "", z) ∈ S.lg a then .inl (.twice v1 v2) else .inr (.make a z)) else .inl (.text v2)
  | _ => .inl (.text v2)
def judge (n : Nat) (rs : List Tm.Road) (ns : List Str) (S : NS) (w : Wd) (v1 v2 : V) (d1 d2 : PyData) : Bad ⊕ Act :=
  match houseOf n d1 with
  | none => .inl (.house v1)
  | some a => match w with
    | .log => .inr (.log a)
    | .stop => if a ∈ S.ht then .inl (.stopped v1) else .inr (.stop a)
    | .make => judgeM ns S v1 v2 a d2
    | w => match houseOf n d2 with
      | none => .inl (.house v2)
      | some b => judgeR rs S w v1 v2 a b
theorem house_no {n : Nat} {d : PyData} (h : belowD n d = false) : houseOf n d = none := by
  cases d with
  | int i =>
    show (if belowD (n : Int) (.int i) = true then some i.toNat else none) = none
    rw [h]
    rfl
  | _ => rfl
theorem house_of {n a : Nat} (h : a < n) : houseOf n (.int a) = some a := by
  have : belowD n (.int (a : Nat)) = true := by
    simp only [belowD, Bool.and_eq_true, decide_eq_true_eq]
    omega
  show (if belowD (n : Int) (.int (a : Nat)) = true then some (Int.toNat (a : Nat)) else none) = some a
  rw [if_pos this]
  rfl
def badV : Bad ⊕ Act → List V
  | .inl b => b.vs
  | .inr _ => []
theorem near_of_both {n : Nat} {rs : List Tm.Road} (ok : Tm.RoadsOk n rs) {a b : Nat} : (a, b) ∈ both rs ↔ b ∈ Tm.near rs a := by
  refine ⟨fun h => ?_, near_both⟩
  unfold both at h
  unfold Tm.near
  rw [List.mem_filterMap]
  rcases List.mem_append.mp h with h | h
  · exact ⟨_, h, by unfold Tm.nb; rw [if_pos rfl]⟩
  · obtain ⟨⟨u, v⟩, hr, e⟩ := List.mem_map.mp h
    have e1 : v = a := congrArg Prod.fst e
    have e2 : u = b := congrArg Prod.snd e
    subst e1 e2
    have lt := (ok.bnd _ hr).1
    refine ⟨_, hr, ?_⟩
    unfold Tm.nb
    simp only at lt
    rw [if_neg (by simp only; omega), if_pos rfl]
theorem valV_none {D : List (List Key × Addr)} {k : List Key} (h : k ∉ D.map (·.1)) : valV (tabV D) k = none := by
  unfold tabV
  induction D with
  | nil => rfl
  | cons e D ih =>
    rw [List.map_cons, List.mem_cons, not_or] at h
    rw [List.map_cons]
    unfold valV at ih ⊢
    rw [List.find?_cons_of_neg (by simpa using fun z => h.1 z.symm)]
    exact ih h.2
end K04

namespace K04
open PySem PySem.Spec PyProof.Rows L2 Tn TL
abbrev sWrong : Stmt := top 49
theorem scWrong : FnScope ["net", "word", "first", "second", "house"] ["net", "word", "first", "second"] (defScope sWrong) := ⟨rfl, rfl, rfl, by decide +kernel, rfl, by decide +kernel, by decide +kernel⟩
def Wd.isHand : Wd → Bool
  | .hand => true | _ => false
def Wd.isUnder : Wd → Bool
  | .under => true | _ => false
theorem Wd.hand_eq (w : Wd) : decide (V.str w.s = V.str "hand") = w.isHand := by cases w <;> decide +kernel
theorem Wd.under_eq (w : Wd) : (!decide (V.str w.s = V.str "under")) = !w.isUnder := by cases w <;> decide +kernel
theorem judgeR_bad {rs : List Tm.Road} {S : NS} {w : Wd} {v1 v2 : V} {a b : Nat} (h : w.one = false) : badV (judgeR rs S w v1 v2 a b) = if b ∈ Tm.near rs a then (if (w.isHand && decide (a ∈ S.ht)) = true then [.str "stopped", v1] else if (w.isHand && decide (b ∈ S.ht)) = true then [.str "stopped", v2] else
    if (!w.isUnder && (S.wt (a, b)).isEmpty) = true then [.str "nothing", v1, v2] else []) else [.str "road", v1, v2] := by
  unfold judgeR
  by_cases c1 : b ∈ Tm.near rs a
  · simp only [if_pos c1]
    cases w with
    | hand =>
      by_cases c2 : a ∈ S.ht
      · simp [Wd.isHand, c2, badV, Bad.vs]
      · by_cases c3 : b ∈ S.ht
        · simp [Wd.isHand, c2, c3, badV, Bad.vs]
        · by_cases c4 : (S.wt (a, b)).isEmpty = true
          · simp only [Wd.isHand, Wd.isUnder, if_neg c2, if_neg c3, c4, decide_eq_false c2, decide_eq_false c3]
            rfl
          · simp only [Wd.isHand, Wd.isUnder, if_neg c2, if_neg c3, c4, decide_eq_false c2, decide_eq_false c3]
            rfl
    | lose =>
      by_cases c4 : (S.wt (a, b)).isEmpty = true
      · simp only [Wd.isHand, Wd.isUnder, c4]
        rfl
      · simp only [Wd.isHand, Wd.isUnder, c4]
        rfl
    | under => rfl
    | _ => cases h
  · simp only [if_neg c1]
    rfl
def spWrong : Sp := fun vs H Q _ => ∃ (p : LParts) (n : Nat) (rs : List Tm.Road) (ns : List Str) (S : NS) (w : Wd) (v1 v2 : V) (d1 d2 : PyData), vs = [.ref p.x, .str w.s, v1, v2] ∧ LNet H p n rs ns S ∧ NamesOk n ns ∧ (∀ h, h < n → ∀ l ∈ S.lg h, lineOk l) ∧
  Rdd H v1 d1 ∧ Rdd H v2 d2 ∧ (∀ z, d2 = .str z → z.length ≤ 100000) ∧ ∀ l H', Same H H' → H l = none → H' l = some (.lst (badV (judge n rs ns S w v1 v2 d1 d2))) → Q (.ref l) H'
section
variable {P : Program} {w : World} {K : PySem.W.Frag} {mg : Str → Option Value} {base : Heap} {f : Addr} {fd : FuncData}
theorem ok_wrong (F : Fd K "_law_wrong" sWrong f fd) (g : mg "_law_wrong" = some (.ref f)) (B : Bl mg) (o_law_house : Ok P w K mg base CX0 1 "_law_house" sLHouse ["net", "value"] (spLHouse K)) (o_law_text : Ok P w K mg base CX0 1 "_law_text" sLText ["value"] spLText) :
    Ok P w K mg base CX0 2 "_law_wrong" sWrong ["net", "word", "first", "second"] spWrong := by
  refine ⟨f, fd, g, F, F.bindsN fun _ _ _ _ _ _ us hl => match us, hl with | [_, _, _, _], _ => rfl, F.ok scWrong (fun vs H Q E h => ?_) (fun cdv A outer s H vs Q E hr h => ?_)⟩
  · obtain ⟨p, n, rs, ns, S, w, v1, v2, d1, d2, rfl, _⟩ := h
    rfl
  · have hu : (cxOf CX0 P w K mg base ["net", "word", "first", "second", "house"] "_law_wrong" (defScope sWrong) f cdv A outer s H E).A.units + 65 < cLine := by
      have z := hr.un
      show (A.deeper _).units + 65 < cLine
      omega
    have hu1 : (cxOf CX0 P w K mg base ["net", "word", "first", "second", "house"] "_law_wrong" (defScope sWrong) f cdv A outer s H E).A.units + 1 < cLine := by omega
    have hu2 : (cxOf CX0 P w K mg base ["net", "word", "first", "second", "house"] "_law_wrong" (defScope sWrong) f cdv A outer s H E).A.units + 64 < cLine := by omega
    refine ⟨_, (pss_cons (ps_if (pt_not (pt_val (pe_o o_law_house (hr.mono (by decide)) (by rfl) (pa_cons (pv 0) (pa_cons (pv 2) pa_nil)))))
        (pss_one (ps_ret (pe_lst (pa_cons pe_str (pa_cons (pv 2) pa_nil)))))
        pss_nil)
      (pss_cons (ps_if (pt_cmpR op_in_seq (pv 1) (pe_lst (pa_cons pe_str (pa_cons pe_str (pa_cons pe_str pa_nil)))) (by rfl))
        (pss_cons (ps_if (pw_and (pt_cmpR op_eq (pv 1) pe_str (nomark _)) (pw_and1 (pt_not (pt_val (pe_o o_law_text (hr.mono (by decide)) (by rfl) (pa_cons (pv 3) pa_nil)))))).pt
          (pss_one (ps_ret (pe_lst (pa_cons pe_str (pa_cons (pv 3) pa_nil)))))
          pss_nil)
        (pss_cons (ps_if (pw_and (pt_cmpR op_ne (pv 1) pe_str (nomark _)) (pw_and1 (pt_cmpR op_in_seq (pv 2) (pe_ix ix_seq (pv 0) pe_int fun _ _ => rfl) (by rfl)))).pt
          (pss_one (ps_ret (pe_lst (pa_cons pe_str (pa_cons (pv 2) pa_nil)))))
          pss_nil)
        (pss_cons (ps_if (pw_and (pt_cmpR op_eq (pv 1) pe_str (nomark _)) (pw_and1 (pt_cmpR (op_inD hu) (pe_tup (pa_cons (pe_ix ix_seq (pe_ix ix_seq (pv 0) pe_int fun _ _ => rfl) (pv 2) fun _ _ => rfl) (pa_cons (pv 3) pa_nil))) (pe_ix ix_seq (pe_ix ix_seq (pv 0) pe_int fun _ _ => rfl) (pv 2) fun _ _ => rfl) (by rfl)))).pt
          (pss_one (ps_ret (pe_lst (pa_cons pe_str (pa_cons (pv 2) (pa_cons (pv 3) pa_nil))))))
          pss_nil)
        (pss_one (ps_ret (pe_lst pa_nil))))))
        pss_nil)
      (pss_cons (ps_if (pt_not (pt_val (pe_o o_law_house (hr.mono (by decide)) (by rfl) (pa_cons (pv 0) (pa_cons (pv 3) pa_nil)))))
        (pss_one (ps_ret (pe_lst (pa_cons pe_str (pa_cons (pv 3) pa_nil)))))
        pss_nil)
      (pss_cons (ps_if (pt_cmp (pc_dnotin hu1 (pe_tup (pa_cons (pv 2) (pa_cons (pv 3) pa_nil))) (pe_ix ix_seq (pv 0) pe_int fun _ _ => rfl)))
        (pss_one (ps_ret (pe_lst (pa_cons pe_str (pa_cons (pv 2) (pa_cons (pv 3) pa_nil))))))
        pss_nil)
      (pss_cons (ps_for (passes_of rfl) rfl (pi_list (pe_lst (pa_cons (pv 2) (pa_cons (pv 3) pa_nil)))) (pg_name (i := 4) scWrong.nd rfl (Or.inl rfl))
        (pss_one (ps_if (pw_and (pt_cmpR op_eq (pv 1) pe_str (nomark _)) (pw_and1 (pt_cmpR op_in_seq (pv 4) (pe_ix ix_seq (pv 0) pe_int fun _ _ => rfl) (by rfl)))).pt
          (pss_one (ps_ret (pe_lst (pa_cons pe_str (pa_cons (pv 4) pa_nil)))))
          pss_nil)))
      (pss_one (ps_ret (pe_ifExp (pw_and (pt_cmpR op_ne (pv 1) pe_str (nomark _)) (pw_and1 (pt_cmpR (op_eqNil hu2) (pe_dget hu1 (pe_ix ix_seq (pv 0) pe_int fun _ _ => rfl) (pe_tup (pa_cons (pv 2) (pa_cons (pv 3) pa_nil))) (fun _ _ => rfl)) (pe_lst pa_nil) (nomark _)))).pt (pe_lst (pa_cons pe_str (pa_cons (pv 2) (pa_cons (pv 3) pa_nil)))) (pe_lst pa_nil))))))))), ?_⟩
    obtain ⟨p, n, rs, ns, S, wd, v1, v2, d1, d2, rfl, N, nok, lok, r1, r2, tz, q⟩ := h
    have lns : (ns.map V.str).length = n := by rw [List.length_map, nok.len]
    refine ⟨_, rfl, _, rfl, p.x, p.nm, xsL p, ns.map V.str, v1, d1, rfl, N.x, rfl, SqL.of N.nm, r1, ?_⟩
    rw [lns]
    refine ⟨_, rfl, iteB (fun e => ?_) fun e => ?_⟩
    · have ej : badV (judge n rs ns S wd v1 v2 d1 d2) = [.str "house", v1] := by
        unfold judge
        rw [house_no (not_t e)]
        rfl
      rw [ej] at q
      exact ⟨_, rfl, two_ln (by show 2 ≤ _; decide), fun l hl => q l _ (upd_grow hl) hl upd_same⟩
    obtain ⟨a, ha, rfl, rfl⟩ := int_of r1 (not_f e)
    refine ⟨_, rfl, two_ln (by show 3 ≤ _; decide), fun pw hpw => ?_⟩
    have k1 := upd_grow (o := .lst [V.str "log", V.str "stop", V.str "make"]) hpw
    have hw1 := upd_same (H := H) (a := pw) (o := .lst [V.str "log", V.str "stop", V.str "make"])
    generalize upd H pw (.lst [V.str "log", V.str "stop", V.str "make"]) = H1 at k1 hw1 ⊢
    have N1 := N.same k1
    have old : ∀ {H2 : Hp} {l : Addr}, Same H H2 → H2 l = none → H l = none := fun {H2 l} k e => by
      cases z : H l with
      | none => rfl
      | some o => rw [k _ _ z] at e; cases e
    have fin : ∀ {H2 : Hp} {xs : List V}, Same H H2 → xs = badV (judge n rs ns S wd (.int (a : Nat)) v2 (.int (a : Nat)) d2) → ∀ l, H2 l = none → Q (.ref l) (upd H2 l (.lst xs)) := fun {H2 xs} k e l hl => by
      subst e
      exact q l _ (k.trans (upd_grow hl)) (old k hl) upd_same
    refine ⟨pw, _, rfl, .inl (SqL.of hw1), rfl, rfl, _, rfl, iteB (fun e1 => ?_) fun e1 => ?_⟩
    · rw [if_neg Bool.false_ne_true, Wd.in3] at e1
      have no : ∀ {x y : Str} {A B : Prop}, (x == y) = false → B → if decide (V.str x = V.str y) = true then A else B := fun {x y A B} e h => by
        rw [decide_eq_false (fun z => by cases z; simp at e)]
        exact iteF h
      have yes : ∀ {x : Str} {A B : Prop}, A → if decide (V.str x = V.str x) = true then A else B := fun {x A B} h => by
        rw [decide_eq_true rfl]
        exact iteT h
      have noN : ∀ {x y : Str} {A B : Prop}, (x == y) = false → A → if (!decide (V.str x = V.str y)) = true then A else B := fun {x y A B} e h => by
        rw [decide_eq_false (fun z => by cases z; simp at e)]
        exact iteT h
      have yesN : ∀ {x : Str} {A B : Prop}, B → if (!decide (V.str x = V.str x)) = true then A else B := fun {x A B} h => by
        rw [decide_eq_true rfl]
        exact iteF h
      cases wd with
      | log =>
        have ej : [] = badV (judge n rs ns S .log (.int (a : Nat)) v2 (.int (a : Nat)) d2) := by
          unfold judge
          rw [house_of ha]
          rfl
        exact ⟨_, rfl, rfl, _, rfl, no (by decide +kernel) ⟨_, rfl, rfl, _, rfl, yesN ⟨_, rfl, rfl, _, rfl, no (by decide +kernel) ⟨two_ln (by show 0 ≤ _; decide), fun l hl => fin k1 ej l hl⟩⟩⟩⟩
      | stop =>
        refine ⟨_, rfl, rfl, _, rfl, no (by decide +kernel) ⟨_, rfl, rfl, _, rfl, noN (by decide +kernel) ?_⟩⟩
        refine ⟨_, rfl, _, rfl, ixAt N1.x (by rfl) ⟨p.ht, _, rfl, .inl (SqL.of N1.ht), rfl, natV_flat _, _, rfl, iteB (fun e2 => ?_) fun e2 => ?_⟩⟩
        · rw [if_neg Bool.false_ne_true, natV_in] at e2
          have e2 := of_decide_eq_true e2
          refine ⟨_, rfl, two_ln (by show 2 ≤ _; decide), fun l hl => fin k1 ?_ l hl⟩
          unfold judge
          rw [house_of ha]
          simp only [if_pos e2]
          rfl
        · rw [if_neg Bool.false_ne_true, natV_in] at e2
          have e2 := of_decide_eq_false e2
          refine ⟨_, rfl, rfl, _, rfl, no (by decide +kernel) ⟨two_ln (by show 0 ≤ _; decide), fun l hl => fin k1 ?_ l hl⟩⟩
          unfold judge
          rw [house_of ha]
          simp only [if_neg e2]
          rfl
      | make =>
        refine ⟨_, rfl, rfl, _, rfl, yes ⟨_, rfl, v2, d2, rfl, r2.mono k1, tz, fun H2 k2 => ⟨_, rfl, iteB (fun e2 => ?_) fun e2 => ?_⟩⟩⟩
        · have e2 := not_t e2
          refine ⟨_, rfl, two_ln (by show 2 ≤ _; decide), fun l hl => fin (k1.trans k2) ?_ l hl⟩
          unfold judge
          rw [house_of ha]
          show _ = badV (judgeM ns S _ v2 a d2)
          cases d2 with
          | str z =>
            have e2 : textS z = false := e2
            unfold judgeM
            simp only [e2]
            rfl
          | _ => rfl
        · have e2 := not_f e2
          have N2 := N1.same k2
          have k02 := k1.trans k2
          obtain ⟨z, rfl⟩ : ∃ z, d2 = .str z := by
            cases d2 with
            | str z => exact ⟨z, rfl⟩
            | _ => cases e2
          have e2 : textS z = true := e2
          cases r2
          have ej : judge n rs ns S .make (.int (a : Nat)) (.str z) (.int (a : Nat)) (.str z) = if a ∈ S.ht then .inl (.stopped (.int (a : Nat))) else if (ns.getD a "", z) ∈ S.lg a then .inl (.twice (.int (a : Nat)) (.str z)) else .inr (.make a z) := by
            unfold judge
            rw [house_of ha]
            show judgeM ns S _ _ a (.str z) = _
            unfold judgeM
            simp only [if_pos e2]
          refine ⟨_, rfl, rfl, _, rfl, noN (by decide +kernel) ⟨_, rfl, _, rfl, ixAt N2.x (by rfl) ⟨p.ht, _, rfl, .inl (SqL.of N2.ht), rfl, natV_flat _, _, rfl, iteB (fun e3 => ?_) fun e3 => ?_⟩⟩⟩
          · rw [if_neg Bool.false_ne_true, natV_in] at e3
            have e3 := of_decide_eq_true e3
            refine ⟨_, rfl, two_ln (by show 2 ≤ _; decide), fun l hl => fin k02 ?_ l hl⟩
            rw [ej, if_pos e3]
            rfl
          · rw [if_neg Bool.false_ne_true, natV_in] at e3
            have e3 := of_decide_eq_false e3
            rw [if_neg e3] at ej
            have lta : a < ns.length := by rw [nok.len]; exact ha
            have enm : ns[a]? = some (ns.getD a "") := by rw [List.getD_eq_getElem?_getD, List.getElem?_eq_getElem lta]; rfl
            have good : nameS (ns.getD a "") = true := nok.good _ (List.mem_of_getElem? enm)
            refine ⟨_, rfl, rfl, _, rfl, yes ⟨_, rfl, ixAt N2.x (by rfl) ⟨_, rfl, ixAt N2.nm (atI_nat (by rw [List.getElem?_map, enm]; rfl)) ⟨_, rfl, two_ln (by show 2 ≤ _; decide), fun pl hpl => ?_⟩⟩⟩⟩
            have k3 := upd_grow (o := .tup [V.str (ns.getD a ""), V.str z]) hpl
            have hpl1 := upd_same (H := H2) (a := pl) (o := .tup [V.str (ns.getD a ""), V.str z])
            generalize upd H2 pl (.tup [V.str (ns.getD a ""), V.str z]) = H3 at k3 hpl1 ⊢
            have N3 := N2.same k3
            have k03 := k02.trans k3
            have lo : lineOk (ns.getD a "", z) := ⟨name_ok good, text_ok e2⟩
            have ry : Rdd H3 (.ref pl) (lineD (ns.getD a "", z)) := .tup hpl1 (.cons (.str _) (.cons (.str _) .nil))
            obtain ⟨al, xs, hal, ht, hl, rx, _⟩ := N3.log ha
            have sl := lines_shaped (lok a ha)
            refine ⟨_, rfl, ixAt N3.x (by rfl) ⟨_, rfl, ixAt ht (atI_nat (by rw [List.getElem?_map, hal]; rfl)) ?_⟩⟩
            refine ⟨lineD (ns.getD a "", z), (S.lg a).map lineD, ry.dp (shaped_lay (line_shaped lo)), (Rdd.lst hl rx).dp (shaped_lay sl), line_shaped lo, sl, _, rfl, iteB (fun e4 => ?_) fun e4 => ?_⟩
            · rw [lines_any] at e4
              have e4 := of_decide_eq_true e4
              refine ⟨_, rfl, _, rfl, two_ln (by show 3 ≤ _; decide), fun l hl => fin k03 ?_ l hl⟩
              rw [ej, if_pos e4]
              rfl
            · rw [lines_any] at e4
              have e4 := of_decide_eq_false e4
              refine ⟨two_ln (by show 0 ≤ _; decide), fun l hl => fin k03 ?_ l hl⟩
              rw [ej, if_neg e4]
              rfl
      | _ => cases e1
    · rw [if_neg Bool.false_ne_true, Wd.in3] at e1
      refine ⟨_, rfl, _, rfl, p.x, p.nm, xsL p, ns.map V.str, v2, d2, rfl, N1.x, rfl, SqL.of N1.nm, r2.mono k1, ?_⟩
      rw [lns]
      have ej : judge n rs ns S wd (.int (a : Nat)) v2 (.int (a : Nat)) d2 = match houseOf n d2 with
          | none => .inl (.house v2)
          | some b => judgeR rs S wd (.int (a : Nat)) v2 a b := by
        unfold judge
        rw [house_of ha]
        cases wd <;> first | rfl | cases e1
      refine ⟨_, rfl, iteB (fun e2 => ?_) fun e2 => ?_⟩
      · refine ⟨_, rfl, two_ln (by show 2 ≤ _; decide), fun l hl => fin k1 ?_ l hl⟩
        rw [ej, house_no (not_t e2)]
        rfl
      obtain ⟨b, hb, rfl, rfl⟩ := int_of r2 (not_f e2)
      rw [house_of hb] at ej
      have ej : badV (judge n rs ns S wd (.int (a : Nat)) (.int (b : Nat)) (.int (a : Nat)) (.int (b : Nat))) = _ := (congrArg badV ej).trans (judgeR_bad e1)
      rw [ej] at fin
      refine ⟨_, rfl, _, rfl, two_ln (by show 2 ≤ _; decide), fun pt hpt => ?_⟩
      have k2 := upd_grow (o := .tup [V.int (a : Nat), V.int (b : Nat)]) hpt
      have hpt1 := upd_same (H := H1) (a := pt) (o := .tup [V.int (a : Nat), V.int (b : Nat)])
      generalize upd H1 pt (.tup [V.int (a : Nat), V.int (b : Nat)]) = H2 at k2 hpt1 ⊢
      have k02 := k1.trans k2
      have N2 := N.same k02
      obtain ⟨LG, WT, S1, S2, _, _⟩ := N2.ex
      have d1 : DGet H2 p.wt (.ref pt) (valV (tabV p.tab) (rk (a, b))) := DGet.t S2.top hpt1
      refine ⟨_, rfl, ixAt N2.x (by rfl) ⟨_, _, rfl, d1, _, rfl, iteB (fun e3 => ?_) fun e3 => ?_⟩⟩
      · have nb : b ∉ Tm.near rs a := fun m => by
          obtain ⟨a2, xs, _, hv, _⟩ := N2.way ((near_of_both N.ok).mpr m)
          rw [hv] at e3
          cases e3
        rw [if_neg nb] at fin
        exact ⟨_, rfl, _, rfl, two_ln (by show 3 ≤ _; decide), fun l hl => fin k02 rfl l hl⟩
      have nb : b ∈ Tm.near rs a := by
        refine (near_of_both N.ok).mp (Classical.byContradiction fun m => ?_)
        rw [valV_none fun z => ?_] at e3
        · cases e3
        · obtain ⟨r, hr, e⟩ := List.mem_map.mp (N2.keys.mem_iff.mp z)
          exact m (rk_inj e ▸ hr)
      rw [if_pos nb] at fin
      have hr2 := near_both nb
      refine ⟨_, rfl, _, rfl, two_ln (by show 2 ≤ _; decide), fun pl hpl => ?_⟩
      have k3 := upd_grow (o := .lst [V.int (a : Nat), V.int (b : Nat)]) hpl
      have hpl1 := upd_same (H := H2) (a := pl) (o := .lst [V.int (a : Nat), V.int (b : Nat)])
      generalize upd H2 pl (.lst [V.int (a : Nat), V.int (b : Nat)]) = H3 at k3 hpl1 ⊢
      have k03 := k02.trans k3
      have N3 := N.same k03
      refine ⟨pl, rfl, ⟨_, SqL.of hpl1⟩, for_it (walk_list (xs := [V.int (a : Nat), V.int (b : Nat)])) (fun i σ H' => H' = H3 ∧ (∀ j, j < i → (wd.isHand && decide (([a, b].getD j 0) ∈ S.ht)) = false) ∧ ∃ z : Option V, σ = [some (.ref p.x), some (.str wd.s), some (.int (a : Nat)), some (.int (b : Nat)), z]) ?_ (fun i σ H' _ z => ?_) ?_ ?_⟩
      · exact ⟨rfl, (fun j h => absurd h (Nat.not_lt_zero _)), none, rfl⟩
      · rw [z.1]
        exact SqL.of hpl1
      · rintro i x σ H4 H5 hi ⟨rfl, pr, z, rfl⟩ ⟨rfl, hx2⟩
        have hx3 : x = .int (([a, b].getD i 0 : Nat) : Int) := by
          match i, hi, hx2 with
          | 0, _, h => cases h; rfl
          | 1, _, h => cases h; rfl
        subst hx3
        have st : ∀ {c : Nat}, [a, b].getD i 0 = c → (wd.isHand && decide (c ∈ S.ht)) = false → ∀ j, j < i + 1 → (wd.isHand && decide (([a, b].getD j 0) ∈ S.ht)) = false := fun {c} ec h j hj => by
          by_cases z : j = i
          · subst z
            rw [ec]
            exact h
          · exact pr j (by omega)
        refine ⟨_, rfl, rfl, _, rfl, ?_⟩
        rw [Wd.hand_eq]
        refine iteB (fun e4 => ?_) fun e4 => ?_
        · refine ⟨_, rfl, _, rfl, ixAt N3.x (by rfl) ⟨p.ht, _, rfl, .inl (SqL.of N3.ht), rfl, natV_flat _, _, rfl, iteB (fun e5 => ?_) fun e5 => ?_⟩⟩
          · rw [if_neg Bool.false_ne_true, natV_in] at e5
            refine ⟨_, rfl, two_ln (by show 2 ≤ _; decide), fun l hl => fin k03 ?_ l hl⟩
            match i, hi, e5, pr with
            | 0, _, e5, _ =>
              rw [if_pos (by rw [e4, Bool.true_and]; exact e5)]
              rfl
            | 1, _, e5, pr =>
              have p0 := pr 0 (by decide)
              rw [if_neg (by rw [show ([a, b].getD 0 0) = a from rfl] at p0; rw [p0]; decide), if_pos (by rw [e4, Bool.true_and]; exact e5)]
              rfl
          · rw [if_neg Bool.false_ne_true, natV_in] at e5
            exact ⟨rfl, st rfl (by rw [e4, Bool.true_and]; exact e5), _, rfl⟩
        · exact ⟨rfl, st rfl (by rw [e4, Bool.false_and]), _, rfl⟩
      · rintro σ H4 ⟨rfl, pr, z, rfl⟩
        have p0 : (wd.isHand && decide (a ∈ S.ht)) = false := pr 0 (by show 0 < 2; decide)
        have p1 : (wd.isHand && decide (b ∈ S.ht)) = false := pr 1 (by show 1 < 2; decide)
        rw [p0, p1, if_neg Bool.false_ne_true, if_neg Bool.false_ne_true] at fin
        refine ⟨_, rfl, rfl, _, rfl, ?_⟩
        rw [Wd.under_eq]
        refine iteB (fun e4 => ?_) fun e4 => ?_
        · rw [e4, Bool.true_and] at fin
          obtain ⟨aw, ws, _, hv, hlw, rw_, _⟩ := N3.way hr2
          obtain ⟨LG3, WT3, _, S3, _, _⟩ := N3.ex
          refine ⟨_, rfl, ixAt N3.x (by rfl) ⟨_, rfl, _, rfl, two_ln (by show 2 ≤ _; decide), fun pt2 hpt2 => ?_⟩⟩
          have k4 := upd_grow (o := .tup [V.int (a : Nat), V.int (b : Nat)]) hpt2
          have hpt3 := upd_same (H := H4) (a := pt2) (o := .tup [V.int (a : Nat), V.int (b : Nat)])
          generalize upd H4 pt2 (.tup [V.int (a : Nat), V.int (b : Nat)]) = H5 at k4 hpt3 ⊢
          have d2 : DGet H5 p.wt (.ref pt2) (valV (tabV p.tab) (rk (a, b))) := DGet.t (k4 _ _ S3.top) hpt3
          rw [hv] at d2
          refine ⟨_, _, rfl, d2, two_ln (by show 0 ≤ _; decide), fun pe hpe => ?_⟩
          have k5 := upd_grow (o := .lst []) hpe
          have hpe1 := upd_same (H := H5) (a := pe) (o := .lst [])
          generalize upd H5 pe (.lst []) = H6 at k5 hpe1 ⊢
          have k06 := k03.trans (k4.trans k5)
          have ewt : ws.isEmpty = (S.wt (a, b)).isEmpty := by
            have := rdds_len rw_
            rw [List.length_map] at this
            cases ws with
            | nil => cases h : S.wt (a, b) with
              | nil => rfl
              | cons => rw [h] at this; simp at this
            | cons => cases h : S.wt (a, b) with
              | nil => rw [h] at this; simp at this
              | cons => rfl
          refine ⟨aw, pe, ws, rfl, rfl, SqL.of ((k4.trans k5) _ _ hlw), SqL.of hpe1, _, rfl, ?_⟩
          rw [ewt]
          refine iteB (fun e5 => ?_) fun e5 => ?_
          · rw [if_pos e5] at fin
            exact ⟨_, rfl, _, rfl, two_ln (by show 3 ≤ _; decide), fun l hl => fin k06 rfl l hl⟩
          · rw [if_neg (by rw [e5]; decide)] at fin
            exact ⟨two_ln (by show 0 ≤ _; decide), fun l hl => fin k06 rfl l hl⟩
        · rw [e4, Bool.false_and, if_neg Bool.false_ne_true] at fin
          exact ⟨two_ln (by show 0 ≤ _; decide), fun l hl => fin k03 rfl l hl⟩
end
end K04

namespace K04
open PySem PySem.Spec PyProof.Rows L2 Tn TL
abbrev sDone : Stmt := top 50
theorem scDone : FnScope ["net", "word", "first", "second", "line"] ["net", "word", "first", "second"] (defScope sDone) := ⟨rfl, rfl, rfl, by decide +kernel, rfl, by decide +kernel, by decide +kernel⟩
/-- an act, as it was asked -/
inductive ActOk (n : Nat) (rs : List Tm.Road) (ns : List Str) (S : NS) : Wd → V → V → Act → Prop
  | make {a : Nat} {z : Str} (h1 : a < n) (h2 : textS z = true) (h3 : a ∉ S.ht) (h4 : (ns.getD a "", z) ∉ S.lg a) : ActOk n rs ns S .make (.int a) (.str z) (.make a z)
  | hand {a b : Nat} (h1 : a < n) (h2 : b < n) (h3 : b ∈ Tm.near rs a) (h4 : a ∉ S.ht) (h5 : b ∉ S.ht) (h6 : S.wt (a, b) ≠ []) : ActOk n rs ns S .hand (.int a) (.int b) (.hand a b)
  | lose {a b : Nat} (h1 : a < n) (h2 : b < n) (h3 : b ∈ Tm.near rs a) (h6 : S.wt (a, b) ≠ []) : ActOk n rs ns S .lose (.int a) (.int b) (.lose a b)
  | under {a b : Nat} (h1 : a < n) (h2 : b < n) (h3 : b ∈ Tm.near rs a) : ActOk n rs ns S .under (.int a) (.int b) (.under a b)
  | stop {a : Nat} {v : V} (h1 : a < n) (h3 : a ∉ S.ht) : ActOk n rs ns S .stop (.int a) v (.stop a)
  | log {a : Nat} {v : V} (h1 : a < n) : ActOk n rs ns S .log (.int a) v (.log a)
theorem house_some {H : Hp} {n a : Nat} {v : V} {d : PyData} (r : Rdd H v d) (h : houseOf n d = some a) : a < n ∧ v = .int a ∧ d = .int a := by
  by_cases c : belowD n d = true
  · obtain ⟨b, hb, rfl, rfl⟩ := int_of r c
    rw [house_of hb] at h
    cases h
    exact ⟨hb, rfl, rfl⟩
  · rw [house_no (by simpa using c)] at h
    cases h
theorem judgeM_str {ns : List Str} {S : NS} {v1 v2 : V} {a : Nat} {z : Str} : judgeM ns S v1 v2 a (.str z) = if textS z = true then (if a ∈ S.ht then .inl (.stopped v1) else if (ns.getD a "", z) ∈ S.lg a then .inl (.twice v1 v2) else .inr (.make a z)) else .inl (.text v2) := rfl
theorem judge_act {H : Hp} {n : Nat} {rs : List Tm.Road} {ns : List Str} {S : NS} {w : Wd} {v1 v2 : V} {d1 d2 : PyData} {act : Act} (r1 : Rdd H v1 d1) (r2 : Rdd H v2 d2) (h : judge n rs ns S w v1 v2 d1 d2 = .inr act) : ActOk n rs ns S w v1 v2 act := by
  unfold judge at h
  cases e1 : houseOf n d1 with
  | none => rw [e1] at h; cases h
  | some a =>
    rw [e1] at h
    obtain ⟨ha, rfl, rfl⟩ := house_some r1 e1
    have road : ∀ {w' : Wd}, (match houseOf n d2 with
        | none => .inl (.house v2)
        | some b => judgeR rs S w' (.int (a : Nat)) v2 a b) = (.inr act : Bad ⊕ Act) → ∃ b : Nat, b < n ∧ v2 = .int b ∧ judgeR rs S w' (.int (a : Nat)) (.int (b : Nat)) a b = .inr act ∧ b ∈ Tm.near rs a := fun {w'} hh => by
      cases e2 : houseOf n d2 with
      | none => rw [e2] at hh; cases hh
      | some b =>
        rw [e2] at hh
        obtain ⟨hb, rfl, rfl⟩ := house_some r2 e2
        refine ⟨b, hb, rfl, hh, Classical.byContradiction fun m => ?_⟩
        have hh : judgeR rs S w' (.int (a : Nat)) (.int (b : Nat)) a b = .inr act := hh
        unfold judgeR at hh
        rw [if_neg m] at hh
        cases hh
    cases w with
    | log => cases h; exact .log ha
    | stop =>
      by_cases c : a ∈ S.ht
      · simp only [if_pos c] at h
        cases h
      · simp only [if_neg c] at h
        cases h
        exact .stop ha c
    | make =>
      have h : judgeM ns S (.int (a : Nat)) v2 a d2 = .inr act := h
      cases d2 with
      | str z =>
        cases r2
        rw [judgeM_str] at h
        by_cases c1 : textS z = true
        · rw [if_pos c1] at h
          by_cases c2 : a ∈ S.ht
          · rw [if_pos c2] at h
            cases h
          · rw [if_neg c2] at h
            by_cases c3 : (ns.getD a "", z) ∈ S.lg a
            · rw [if_pos c3] at h
              cases h
            · rw [if_neg c3] at h
              cases h
              exact .make ha c1 c2 c3
        · rw [if_neg c1] at h
          cases h
      | _ => cases h
    | hand =>
      obtain ⟨b, hb, rfl, h, nb⟩ := road h
      unfold judgeR at h
      rw [if_pos nb] at h
      by_cases c2 : a ∈ S.ht
      · simp only [if_pos c2] at h
        cases h
      · simp only [if_neg c2] at h
        by_cases c3 : b ∈ S.ht
        · simp only [if_pos c3] at h
          cases h
        · simp only [if_neg c3] at h
          by_cases c4 : (S.wt (a, b)).isEmpty = true
          · rw [if_pos c4] at h
            cases h
          · rw [if_neg c4] at h
            cases h
            exact .hand ha hb nb c2 c3 fun z => c4 (by rw [z]; rfl)
    | lose =>
      obtain ⟨b, hb, rfl, h, nb⟩ := road h
      unfold judgeR at h
      rw [if_pos nb] at h
      by_cases c4 : (S.wt (a, b)).isEmpty = true
      · simp only [if_pos c4] at h
        cases h
      · simp only [if_neg c4] at h
        cases h
        exact .lose ha hb nb fun z => c4 (by rw [z]; rfl)
    | under =>
      obtain ⟨b, hb, rfl, h, nb⟩ := road h
      unfold judgeR at h
      rw [if_pos nb] at h
      cases h
      exact .under ha hb nb
/-- what is told -/
def ansD (ns : List Str) (S : NS) : Act → PyData
  | .make a z => lineD (ns.getD a "", z)
  | .hand a b => lineD ((S.wt (a, b)).headD ("", ""))
  | .lose a b => lineD ((S.wt (a, b)).headD ("", ""))
  | .under a b => .tuple ((S.wt (a, b)).map lineD)
  | .stop _ => .none
  | .log a => .tuple ((S.lg a).map lineD)
/-- what becomes of the net -/
def NS.did (rs : List Tm.Road) (ns : List Str) (S : NS) : Act → NS
  | .make a z => { S.arrive rs a (ns.getD a "", z) none with dd := S.dd ++ [.make a z] }
  | .hand a b => { (S.setW (a, b) (S.wt (a, b)).tail).arrive rs b ((S.wt (a, b)).headD ("", "")) (some a) with dd := S.dd ++ [.hand a b] }
  | .lose a b => { S.setW (a, b) (S.wt (a, b)).tail with dd := S.dd ++ [.lose a b] }
  | .stop a => { S with ht := S.ht ++ [a], dd := S.dd ++ [.stop a] }
  | .under _ _ => S
  | .log _ => S
section
variable {rs : List Tm.Road} {ns : List Str} {S : NS} {a b : Nat} {l : Line} {ls : List Line}
theorem ans_hand (el : S.wt (a, b) = l :: ls) : ansD ns S (.hand a b) = lineD l := by
  show lineD ((S.wt (a, b)).headD ("", "")) = _
  rw [el]
  rfl
theorem ans_lose (el : S.wt (a, b) = l :: ls) : ansD ns S (.lose a b) = lineD l := by
  show lineD ((S.wt (a, b)).headD ("", "")) = _
  rw [el]
  rfl
theorem did_hand (el : S.wt (a, b) = l :: ls) : S.did rs ns (.hand a b) = { (S.setW (a, b) ls).arrive rs b l (some a) with dd := S.dd ++ [.hand a b] } := by
  show ({ (S.setW (a, b) (S.wt (a, b)).tail).arrive rs b ((S.wt (a, b)).headD ("", "")) (some a) with dd := S.dd ++ [.hand a b] } : NS) = _
  rw [el]
  rfl
theorem did_lose (el : S.wt (a, b) = l :: ls) : S.did rs ns (.lose a b) = { S.setW (a, b) ls with dd := S.dd ++ [.lose a b] } := by
  show ({ S.setW (a, b) (S.wt (a, b)).tail with dd := S.dd ++ [.lose a b] } : NS) = _
  rw [el]
  rfl
end
def Wd.deed : Wd → Bool
  | .under => false | .log => false | _ => true
theorem self_near {n : Nat} {rs : List Tm.Road} (ok : Tm.RoadsOk n rs) (a : Nat) : a ∉ Tm.near rs a := fun h => by
  unfold Tm.near at h
  obtain ⟨⟨u, v⟩, hr, e⟩ := List.mem_filterMap.mp h
  have lt := (ok.bnd _ hr).1
  simp only at lt
  rcases nb_some e with ⟨e1, e2⟩ | ⟨e1, e2⟩ <;> omega
/-- the numbers of lines are small -/
structure Few (n : Nat) (rs : List Tm.Road) (S : NS) (c : Nat) : Prop where
  d : S.dd.length ≤ c
  h : S.ht.length ≤ c
  l : ∀ h, h < n → (S.lg h).length ≤ c
  w : ∀ r ∈ both rs, (S.wt r).length ≤ c
def spDone : Sp := fun vs H Q _ => ∃ (p : LParts) (n : Nat) (rs : List Tm.Road) (ns : List Str) (S : NS) (w : Wd) (v1 v2 : V) (act : Act), vs = [.ref p.x, .str w.s, v1, v2] ∧ LNet H p n rs ns S ∧ w.deed = true ∧ ActOk n rs ns S w v1 v2 act ∧ Few n rs S 900 ∧
  ∀ y H', Bm p.M H H' → Rdd H' y (ansD ns S act) → LNet H' p n rs ns (S.did rs ns act) → Q y H'
section
variable {P : Program} {w : World} {K : PySem.W.Frag} {mg : Str → Option Value} {base : Heap} {f : Addr} {fd : FuncData}
theorem ok_done (F : Fd K "_law_done" sDone f fd) (g : mg "_law_done" = some (.ref f)) (B : Bl mg) (o_law_put : Ok P w K mg base CX0 1 "_law_put" sPut ["net", "house", "line", "origin"] spPut) : Ok P w K mg base CX0 2 "_law_done" sDone ["net", "word", "first", "second"] spDone := by
  refine ⟨f, fd, g, F, F.bindsN fun _ _ _ _ _ _ us hl => match us, hl with | [_, _, _, _], _ => rfl, F.ok scDone (fun vs H Q E h => ?_) (fun cdv A outer s H vs Q E hr h => ?_)⟩
  · obtain ⟨p, n, rs, ns, S, w, v1, v2, act, rfl, _⟩ := h
    rfl
  · have hu : (cxOf CX0 P w K mg base ["net", "word", "first", "second", "line"] "_law_done" (defScope sDone) f cdv A outer s H E).A.units + 1 < cLine := by
      have z := hr.un
      show (A.deeper _).units + 1 < cLine
      omega
    refine ⟨_, (pss_cons (ps_expr (pe_bm PySem.F.plainAttrs_list PySem.F.slot_list_append PySem.F.type_list_append mt_append (pe_ix ix_seq (pv 0) pe_int fun _ _ => rfl) (pa_cons (pe_ifExp (pt_cmpR op_eq (pv 1) pe_str (nomark _)) (pe_tup (pa_cons (pv 1) (pa_cons (pv 2) pa_nil))) (pe_tup (pa_cons (pv 1) (pa_cons (pv 2) (pa_cons (pv 3) pa_nil))))) pa_nil)))
      (pss_cons (ps_if (pt_cmpR op_eq (pv 1) pe_str (nomark _))
        (pss_cons (ps_expr (pe_bm PySem.F.plainAttrs_list PySem.F.slot_list_append PySem.F.type_list_append mt_append (pe_ix ix_seq (pv 0) pe_int fun _ _ => rfl) (pa_cons (pv 2) pa_nil)))
        (pss_one (ps_ret pe_non)))
        pss_nil)
      (pss_cons (ps_if (pt_cmpR op_eq (pv 1) pe_str (nomark _))
        (pss_cons (ps_set (i := 4) scDone.nd rfl (Or.inl rfl) (pe_tup (pa_cons (pe_ix ix_seq (pe_ix ix_seq (pv 0) pe_int fun _ _ => rfl) (pv 2) fun _ _ => rfl) (pa_cons (pv 3) pa_nil))))
        (pss_cons (ps_expr (pe_o o_law_put (hr.mono (by decide)) (by rfl) (pa_cons (pv 0) (pa_cons (pv 2) (pa_cons (pv 4) (pa_cons (pv 2) pa_nil))))))
        (pss_one (ps_ret (pv 4)))))
        pss_nil)
      (pss_cons (ps_set (i := 4) scDone.nd rfl (Or.inl rfl) (pe_bm PySem.F.plainAttrs_list PySem.F.slot_list_pop PySem.F.type_list_pop mt_popAt (pe_dget hu (pe_ix ix_seq (pv 0) pe_int fun _ _ => rfl) (pe_tup (pa_cons (pv 2) (pa_cons (pv 3) pa_nil))) (fun _ _ => rfl)) (pa_cons pe_int pa_nil)))
      (pss_cons (ps_if (pt_cmpR op_eq (pv 1) pe_str (nomark _))
        (pss_one (ps_expr (pe_o o_law_put (hr.mono (by decide)) (by rfl) (pa_cons (pv 0) (pa_cons (pv 3) (pa_cons (pv 4) (pa_cons (pv 2) pa_nil)))))))
        pss_nil)
      (pss_one (ps_ret (pv 4)))))))), ?_⟩
    obtain ⟨p, n, rs, ns, S, wd, v1, v2, act, rfl, N, dl, ao, few, q⟩ := h
    have no : ∀ {x y : Str} {A B : Prop}, (x == y) = false → B → if decide (V.str x = V.str y) = true then A else B := fun {x y A B} e h => by
      rw [decide_eq_false (fun z => by cases z; simp at e)]
      exact iteF h
    have yes : ∀ {x : Str} {A B : Prop}, A → if decide (V.str x = V.str x) = true then A else B := fun {x A B} h => by
      rw [decide_eq_true rfl]
      exact iteT h
    obtain ⟨ds, hd, lds, tell⟩ := N.tell (Nat.lt_of_le_of_lt few.d (by decide))
    refine ⟨_, rfl, ixAt N.x (by rfl) ?_⟩
    refine ⟨.inl ⟨rfl, _, SqL.of hd⟩, ?_⟩
    cases ao with
    | log h1 => cases dl
    | under h1 h2 h3 => cases dl
    | @stop a v h1 h3 =>
      rw [show Wd.stop.s = ("stop" : Str) from rfl]
      refine ⟨_, rfl, rfl, _, rfl, yes ⟨_, rfl, _, rfl, two_ln (by show 2 ≤ _; decide), fun pt hpt => ?_⟩⟩
      obtain ⟨hd3, N4, b4⟩ := tell pt _ (.stop a) hpt (.tup upd_same (.cons (.str _) (.cons (.int _) .nil)))
      refine ⟨p.dd, ds, _, rfl, rfl, hd3, lds, ?_⟩
      generalize upd (upd H pt (.tup [V.str "stop", V.int (a : Nat)])) p.dd (.lst (ds ++ [.ref pt])) = H4 at N4 b4 ⊢
      have enat : natV S.ht ++ [V.int (a : Nat)] = natV (S.ht ++ [a]) := by
        unfold natV
        rw [List.map_append]
        rfl
      obtain ⟨N5, b5⟩ := N4.halt (S.ht ++ [a])
      refine ⟨_, rfl, rfl, _, rfl, yes ⟨_, rfl, ixAt N4.x (by rfl) ?_⟩⟩
      refine ⟨.inl ⟨rfl, _, SqL.of N4.ht⟩, _, rfl, p.ht, natV S.ht, _, rfl, rfl, N4.ht, (by have := few.h; unfold natV; rw [List.length_map]; exact lt_ln (by omega)), ?_⟩
      rw [enat]
      exact q .non _ (b4.trans b5) .non N5
    | @make a z h1 h2 h3 h4 =>
      rw [show Wd.make.s = ("make" : Str) from rfl]
      refine ⟨_, rfl, rfl, _, rfl, no (by decide +kernel) ⟨_, rfl, _, rfl, _, rfl, two_ln (by show 3 ≤ _; decide), fun pt hpt => ?_⟩⟩
      obtain ⟨hd3, N4, b4⟩ := tell pt _ (.make a z) hpt (.tup upd_same (.cons (.str _) (.cons (.int _) (.cons (.str _) .nil))))
      refine ⟨p.dd, ds, _, rfl, rfl, hd3, lds, ?_⟩
      generalize upd (upd H pt (.tup [V.str "make", V.int (a : Nat), V.str z])) p.dd (.lst (ds ++ [.ref pt])) = H4 at N4 b4 ⊢
      have enm : ns[a]? = some (ns.getD a "") := by rw [List.getD_eq_getElem?_getD, List.getElem?_eq_getElem (by rw [N.len]; exact h1)]; rfl
      refine ⟨_, rfl, rfl, _, rfl, no (by decide +kernel) ⟨_, rfl, rfl, _, rfl, yes ⟨_, rfl, ixAt N4.x (by rfl) ⟨_, rfl, ixAt N4.nm (atI_nat (by rw [List.getElem?_map, enm]; rfl)) ⟨_, rfl, two_ln (by show 2 ≤ _; decide), fun pl hpl => ?_⟩⟩⟩⟩⟩
      have k5 := upd_grow (o := .tup [V.str (ns.getD a ""), V.str z]) hpl
      have hpl1 := upd_same (H := H4) (a := pl) (o := .tup [V.str (ns.getD a ""), V.str z])
      generalize upd H4 pl (.tup [V.str (ns.getD a ""), V.str z]) = H5 at k5 hpl1 ⊢
      have ry : Rdd H5 (.ref pl) (lineD (ns.getD a "", z)) := .tup hpl1 (.cons (.str _) (.cons (.str _) .nil))
      refine ⟨_, rfl, _, rfl, _, rfl, _, rfl, p, n, rs, ns, _, a, .ref pl, (ns.getD a "", z), a, rfl, N4.same k5, h1, ry, Nat.lt_of_le_of_lt (few.l a h1) (by decide), (fun r hr => Nat.lt_of_le_of_lt (few.w r hr) (by decide)), fun H6 b6 N6 => ?_⟩
      refine ⟨_, rfl, q _ _ (b4.trans ((Bm.of k5).trans b6)) (rdd_bm b6 ry rfl) (N6.congr (fun _ _ => rfl) (fun r _ => ?_) rfl rfl)⟩
      show (if r.1 = a ∧ r.2 ∈ Tm.near rs a ∧ some r.2 ≠ none then _ else _) = (if r.1 = a ∧ r.2 ∈ Tm.near rs a ∧ some r.2 ≠ some a then _ else _)
      by_cases c : r.1 = a ∧ r.2 ∈ Tm.near rs a
      · rw [if_pos ⟨c.1, c.2, fun z => nomatch z⟩, if_pos ⟨c.1, c.2, fun z => self_near N.ok a (Option.some.inj z ▸ c.2)⟩]
      · rw [if_neg fun z => c ⟨z.1, z.2.1⟩, if_neg fun z => c ⟨z.1, z.2.1⟩]
    | @hand a b h1 h2 h3 h4 h5 h6 =>
      rw [show Wd.hand.s = ("hand" : Str) from rfl]
      have hr2 := near_both h3
      obtain ⟨l, ls, el⟩ : ∃ l ls, S.wt (a, b) = l :: ls := by
        cases z : S.wt (a, b) with
        | nil => exact absurd z h6
        | cons l ls => exact ⟨l, ls, rfl⟩
      refine ⟨_, rfl, rfl, _, rfl, no (by decide +kernel) ⟨_, rfl, _, rfl, _, rfl, two_ln (by show 3 ≤ _; decide), fun pt hpt => ?_⟩⟩
      obtain ⟨hd3, N4, b4⟩ := tell pt _ (.hand a b) hpt (.tup upd_same (.cons (.str _) (.cons (.int _) (.cons (.int _) .nil))))
      refine ⟨p.dd, ds, _, rfl, rfl, hd3, lds, ?_⟩
      generalize upd (upd H pt (.tup [V.str "hand", V.int (a : Nat), V.int (b : Nat)])) p.dd (.lst (ds ++ [.ref pt])) = H4 at N4 b4 ⊢
      refine ⟨_, rfl, rfl, _, rfl, no (by decide +kernel) ⟨_, rfl, rfl, _, rfl, no (by decide +kernel) ⟨_, rfl, ixAt N4.x (by rfl) ⟨_, rfl, _, rfl, two_ln (by show 2 ≤ _; decide), fun pt2 hpt2 => ?_⟩⟩⟩⟩
      have k5 := upd_grow (o := .tup [V.int (a : Nat), V.int (b : Nat)]) hpt2
      have hpt3 := upd_same (H := H4) (a := pt2) (o := .tup [V.int (a : Nat), V.int (b : Nat)])
      generalize upd H4 pt2 (.tup [V.int (a : Nat), V.int (b : Nat)]) = H5 at k5 hpt3 ⊢
      have N5 := N4.same k5
      obtain ⟨aw, ws, htop, hv, hlw, rw_, put⟩ := N5.way hr2
      have rw_ : RddAll H5 ws ((S.wt (a, b)).map lineD) := rw_
      rw [el] at rw_
      obtain ⟨y, ys, rfl, ry, rys⟩ : ∃ y ys, ws = y :: ys ∧ Rdd H5 y (lineD l) ∧ RddAll H5 ys (ls.map lineD) := by
        cases rw_ with
        | cons r1 r2 => exact ⟨_, _, rfl, r1, r2⟩
      have d2 : DGet H5 p.wt (.ref pt2) (valV (tabV p.tab) (rk (a, b))) := DGet.t htop hpt3
      rw [hv] at d2
      refine ⟨_, _, rfl, d2, ?_⟩
      refine ⟨.inl ⟨rfl, _, SqL.of hlw⟩, aw, y :: ys, 0, 0, y, rfl, rfl, hlw, by decide, by decide, seqIx (j := 0) (by simp), rfl, ?_⟩
      obtain ⟨N6, b6⟩ := put ys ls rys
      have b06 := b4.trans ((Bm.of k5).trans b6)
      have ry6 := rdd_bm b6 ry rfl
      refine ⟨_, rfl, rfl, _, rfl, yes ⟨_, rfl, _, rfl, _, rfl, _, rfl, p, n, rs, ns, _, b, y, l, a, rfl, N6, h2, ry6, Nat.lt_of_le_of_lt (few.l b h2) (by decide), (fun r hr => ?_), fun H7 b7 N7 => ?_⟩⟩
      · show (if r = (a, b) then ls else S.wt r).length < 1000
        have fw := few.w r hr
        by_cases e3 : r = (a, b)
        · rw [if_pos e3]
          rw [e3, el, List.length_cons] at fw
          omega
        · rw [if_neg e3]
          omega
      · refine ⟨_, rfl, q _ _ (b06.trans b7) ?_ ?_⟩
        · rw [ans_hand el]
          exact rdd_bm b7 ry6 rfl
        · rw [did_hand el]
          exact N7.congr (fun _ _ => rfl) (fun _ _ => rfl) rfl rfl
    | @lose a b h1 h2 h3 h6 =>
      rw [show Wd.lose.s = ("lose" : Str) from rfl]
      have hr2 := near_both h3
      obtain ⟨l, ls, el⟩ : ∃ l ls, S.wt (a, b) = l :: ls := by
        cases z : S.wt (a, b) with
        | nil => exact absurd z h6
        | cons l ls => exact ⟨l, ls, rfl⟩
      refine ⟨_, rfl, rfl, _, rfl, no (by decide +kernel) ⟨_, rfl, _, rfl, _, rfl, two_ln (by show 3 ≤ _; decide), fun pt hpt => ?_⟩⟩
      obtain ⟨hd3, N4, b4⟩ := tell pt _ (.lose a b) hpt (.tup upd_same (.cons (.str _) (.cons (.int _) (.cons (.int _) .nil))))
      refine ⟨p.dd, ds, _, rfl, rfl, hd3, lds, ?_⟩
      generalize upd (upd H pt (.tup [V.str "lose", V.int (a : Nat), V.int (b : Nat)])) p.dd (.lst (ds ++ [.ref pt])) = H4 at N4 b4 ⊢
      refine ⟨_, rfl, rfl, _, rfl, no (by decide +kernel) ⟨_, rfl, rfl, _, rfl, no (by decide +kernel) ⟨_, rfl, ixAt N4.x (by rfl) ⟨_, rfl, _, rfl, two_ln (by show 2 ≤ _; decide), fun pt2 hpt2 => ?_⟩⟩⟩⟩
      have k5 := upd_grow (o := .tup [V.int (a : Nat), V.int (b : Nat)]) hpt2
      have hpt3 := upd_same (H := H4) (a := pt2) (o := .tup [V.int (a : Nat), V.int (b : Nat)])
      generalize upd H4 pt2 (.tup [V.int (a : Nat), V.int (b : Nat)]) = H5 at k5 hpt3 ⊢
      have N5 := N4.same k5
      obtain ⟨aw, ws, htop, hv, hlw, rw_, put⟩ := N5.way hr2
      have rw_ : RddAll H5 ws ((S.wt (a, b)).map lineD) := rw_
      rw [el] at rw_
      obtain ⟨y, ys, rfl, ry, rys⟩ : ∃ y ys, ws = y :: ys ∧ Rdd H5 y (lineD l) ∧ RddAll H5 ys (ls.map lineD) := by
        cases rw_ with
        | cons r1 r2 => exact ⟨_, _, rfl, r1, r2⟩
      have d2 : DGet H5 p.wt (.ref pt2) (valV (tabV p.tab) (rk (a, b))) := DGet.t htop hpt3
      rw [hv] at d2
      refine ⟨_, _, rfl, d2, ?_⟩
      refine ⟨.inl ⟨rfl, _, SqL.of hlw⟩, aw, y :: ys, 0, 0, y, rfl, rfl, hlw, by decide, by decide, seqIx (j := 0) (by simp), rfl, ?_⟩
      obtain ⟨N6, b6⟩ := put ys ls rys
      have b06 := b4.trans ((Bm.of k5).trans b6)
      have ry6 := rdd_bm b6 ry rfl
      refine ⟨_, rfl, rfl, _, rfl, no (by decide +kernel) ⟨_, rfl, q _ _ b06 ?_ ?_⟩⟩
      · rw [ans_lose el]
        exact ry6
      · rw [did_lose el]
        exact N6.congr (fun _ _ => rfl) (fun _ _ => rfl) rfl rfl
end
end K04

namespace L2
open PySem PySem.Spec PyProof.Rows
/-- arguments in another order -/
def pick (is : List Nat) {α : Type} (us ws : List α) : List α := is.filterMap fun i => (us ++ ws)[i]?
theorem vals_get : ∀ {xs : List V} {us : List Value} (i : Nat), Vals xs us → (xs[i]? = none ∧ us[i]? = none) ∨ ∃ x u, xs[i]? = some x ∧ us[i]? = some u ∧ RelV x u
  | _, _, _, .nil => .inl ⟨rfl, rfl⟩
  | _, _, 0, .cons r _ => .inr ⟨_, _, rfl, rfl, r⟩
  | _, _, i + 1, .cons _ t => by
    rw [List.getElem?_cons_succ, List.getElem?_cons_succ]
    exact vals_get i t
theorem pick_rel (is : List Nat) {vs zs : List V} {us ws : List Value} (r : Vals vs us) (q : Vals zs ws) : Vals (pick is vs zs) (pick is us ws) := by
  have a := rel_app r q
  unfold pick
  induction is with
  | nil => exact .nil
  | cons i is ih =>
    rw [List.filterMap_cons, List.filterMap_cons]
    rcases vals_get i a with ⟨h1, h2⟩ | ⟨x, u, h1, h2, h3⟩
    · rw [h1, h2]
      exact ih
    · rw [h1, h2]
      exact .cons h3 ih
end L2
namespace K04
open PySem PySem.Spec PyProof.Rows L2 Tn TL
abbrev sCall : Stmt := top 51
theorem scCall : FnScope ["network", "word", "first", "second", "named"] ["network", "word", "first", "second", "named"] (defScope sCall) := ⟨rfl, rfl, rfl, by decide +kernel, rfl, by decide +kernel, by decide +kernel⟩
theorem Refuses.mono' {K : PySem.W.Frag} {x f : Str} {v : V} {H H' : Hp} {E : XK} (h : Refuses K x f v H E) (k : Same H H') : Refuses K x f v H' E := fun d H2 k2 e => h d H2 (k.trans k2) e
/-- what raises -/
def Bad.raises (K : PySem.W.Frag) (H : Hp) (E : XK) : Bad → Prop
  | .house v => Refuses K "InvalidHouse" "given" v H E
  | .text v => Refuses K "InvalidText" "given" v H E
  | .road u v => Refuses2 K "NotARoad" "u" "v" u v H E
  | .stopped v => Refuses K "Stopped" "house" v H E
  | .twice u v => Refuses2 K "Twice" "house" "text" u v H E
  | .nothing u v => Refuses2 K "NothingUnderWay" "u" "v" u v H E
/-- a call of a network's methods -/
structure CallH (K : PySem.W.Frag) (H : Hp) (p : Parts) (n : Nat) (rs : List Tm.Road) (ns : List Str) (S : NS) (w : Wd) (v1 v2 : V) (d1 d2 : PyData) (Q : VK) (E : XK) : Prop where
  N : NetS K H p n rs ns S
  few : Few n rs S 900
  lok : ∀ h, h < n → ∀ l ∈ S.lg h, lineOk l
  r1 : Rdd H v1 d1
  r2 : Rdd H v2 d2
  tz : ∀ z, d2 = .str z → z.length ≤ 100000
  bad : ∀ b, judge n rs ns S w v1 v2 d1 d2 = .inl b → b.raises K H E
  ok : ∀ act y H', judge n rs ns S w v1 v2 d1 d2 = .inr act → Bm p.M H H' → Rdd H' y (ansD ns S act) → NetS K H' p n rs ns (S.did rs ns act) → Q y H'
structure NetM (P : Program) (w : World) (K : PySem.W.Frag) (mg : Str → Option Value) (base : Heap) : Prop where
  make : MeOk P w K mg base (L2N.CX P w) 4 (CN K) "make" ["self", "house", "text"] (spNMake K)
  makeK : MeOkK P w K mg base (L2N.CX P w) 4 (CN K) "make" ["self", "house", "text"] (spNMake K) ["text", "house"] (pick [0, 2, 1])
  hand : MeOk P w K mg base (L2N.CX P w) 5 (CN K) "hand" ["self", "u", "v"] (spNHand K)
  handK : MeOkK P w K mg base (L2N.CX P w) 5 (CN K) "hand" ["self", "u", "v"] (spNHand K) ["v", "u"] (pick [0, 2, 1])
  lose : MeOk P w K mg base (L2N.CX P w) 5 (CN K) "lose" ["self", "u", "v"] (spNLose K)
  loseK : MeOkK P w K mg base (L2N.CX P w) 5 (CN K) "lose" ["self", "u", "v"] (spNLose K) ["v", "u"] (pick [0, 2, 1])
  under : MeOk P w K mg base (L2N.CX P w) 5 (CN K) "under_way" ["self", "u", "v"] (spNUnder K)
  underK : MeOkK P w K mg base (L2N.CX P w) 5 (CN K) "under_way" ["self", "u", "v"] (spNUnder K) ["v", "u"] (pick [0, 2, 1])
  stop : MeOk P w K mg base (L2N.CX P w) 4 (CN K) "stop" ["self", "house"] (spNStop K)
  stopK : MeOkK P w K mg base (L2N.CX P w) 4 (CN K) "stop" ["self", "house"] (spNStop K) ["house"] (pick [0, 1])
  log : MeOk P w K mg base (L2N.CX P w) 4 (CN K) "log" ["self", "house"] (spNLog K)
  logK : MeOkK P w K mg base (L2N.CX P w) 4 (CN K) "log" ["self", "house"] (spNLog K) ["house"] (pick [0, 1])
section
variable {K : PySem.W.Frag} {H : Hp} {p : Parts} {n : Nat} {rs : List Tm.Road} {ns : List Str} {S : NS} {w : Wd} {v1 v2 : V} {d1 d2 : PyData} {Q : VK} {E : XK}
theorem CallH.one (C : CallH K H p n rs ns S w v1 v2 d1 d2 Q E) {W : Nat → Prop} (k : ∀ a, a < n → v1 = .int a → d1 = .int a → W a) : One1 K H n v1 d1 E W := by
  refine ⟨C.r1, fun no => C.bad (.house v1) ?_, k⟩
  unfold judge
  rw [house_no no]
theorem CallH.road (C : CallH K H p n rs ns S w v1 v2 d1 d2 Q E) (hw : w.one = false) {W : Nat → Nat → Prop} (k : ∀ a b, a < n → v1 = .int a → d1 = .int a → b < n → v2 = .int b → d2 = .int b → judge n rs ns S w v1 v2 d1 d2 = judgeR rs S w (.int a) (.int b) a b → W a b) :
    One1 K H n v1 d1 E fun a => One1 K H n v2 d2 E fun b => W a b := by
  refine C.one fun a ha ea ed => ?_
  subst ea ed
  have ej : judge n rs ns S w (.int (a : Nat)) v2 (.int (a : Nat)) d2 = match houseOf n d2 with
      | none => .inl (.house v2)
      | some b => judgeR rs S w (.int (a : Nat)) v2 a b := by
    unfold judge
    rw [house_of ha]
    cases w <;> first | rfl | cases hw
  refine ⟨C.r2, fun no => C.bad (.house v2) ?_, fun b hb eb ed => ?_⟩
  · rw [ej, house_no no]
  · subst eb ed
    rw [house_of hb] at ej
    exact k a b ha rfl rfl hb rfl rfl ej
theorem CallH.log (C : CallH K H p n rs ns S .log v1 v2 d1 d2 Q E) : spNLog K [.ref p.x, v1] H Q E := by
  refine ⟨p, n, rs, ns, S, v1, d1, rfl, C.N, C.one fun a ha ea ed t H' k rt => ?_⟩
  subst ea ed
  refine C.ok (.log a) _ H' ?_ (Bm.of k) rt (C.N.same k)
  unfold judge
  rw [house_of ha]
theorem CallH.stop (C : CallH K H p n rs ns S .stop v1 v2 d1 d2 Q E) : spNStop K [.ref p.x, v1] H Q E := by
  refine ⟨p, n, rs, ns, S, v1, d1, rfl, C.N, Nat.lt_of_le_of_lt C.few.h (by decide), Nat.lt_of_le_of_lt C.few.d (by decide), C.one fun a ha ea ed => ?_⟩
  subst ea ed
  refine ⟨fun h => C.bad (.stopped (.int (a : Nat))) ?_, fun h H' k N' => C.ok (.stop a) _ H' ?_ k .non N'⟩
  · unfold judge
    rw [house_of ha]
    simp only [if_pos h]
  · unfold judge
    rw [house_of ha]
    simp only [if_neg h]
theorem CallH.under (C : CallH K H p n rs ns S .under v1 v2 d1 d2 Q E) : spNUnder K [.ref p.x, v1, v2] H Q E := by
  refine ⟨p, n, rs, ns, S, v1, v2, d1, d2, rfl, C.N, C.road rfl fun a b ha ea ed hb eb ed2 ej => ?_⟩
  subst ea ed eb ed2
  refine ⟨fun nb => C.bad (.road (.int (a : Nat)) (.int (b : Nat))) ?_, fun nb t H' k rt => C.ok (.under a b) _ H' ?_ (Bm.of k) rt (C.N.same k)⟩
  · rw [ej]
    unfold judgeR
    rw [if_neg nb]
  · rw [ej]
    unfold judgeR
    rw [if_pos nb]
theorem CallH.lose (C : CallH K H p n rs ns S .lose v1 v2 d1 d2 Q E) : spNLose K [.ref p.x, v1, v2] H Q E := by
  refine ⟨p, n, rs, ns, S, v1, v2, d1, d2, rfl, C.N, Nat.lt_of_le_of_lt C.few.d (by decide), C.road rfl fun a b ha ea ed hb eb ed2 ej => ?_⟩
  subst ea ed eb ed2
  unfold judgeR at ej
  refine ⟨fun nb => C.bad (.road (.int (a : Nat)) (.int (b : Nat))) ?_, fun nb => ⟨fun em => C.bad (.nothing (.int (a : Nat)) (.int (b : Nat))) ?_, fun l ls y H' el k ry N' => C.ok (.lose a b) _ H' ?_ k ?_ ?_⟩⟩
  · rw [ej, if_neg nb]
  · rw [ej, if_pos nb, em]
    rfl
  · rw [ej, if_pos nb, el]
    rfl
  · rw [ans_lose el]
    exact ry
  · rw [did_lose el]
    exact N'
theorem CallH.hand (C : CallH K H p n rs ns S .hand v1 v2 d1 d2 Q E) : spNHand K [.ref p.x, v1, v2] H Q E := by
  refine ⟨p, n, rs, ns, S, v1, v2, d1, d2, rfl, C.N, Nat.lt_of_le_of_lt C.few.d (by decide), (fun h hh => Nat.lt_of_le_of_lt (C.few.l h hh) (by decide)), (fun r hr => Nat.lt_of_le_of_lt (C.few.w r hr) (by decide)), C.road rfl fun a b ha ea ed hb eb ed2 ej => ?_⟩
  subst ea ed eb ed2
  unfold judgeR at ej
  refine ⟨fun nb => C.bad (.road (.int (a : Nat)) (.int (b : Nat))) ?_, fun nb => ⟨fun sa => C.bad (.stopped (.int (a : Nat))) ?_, fun sa sb => C.bad (.stopped (.int (b : Nat))) ?_, fun sa sb => ⟨fun em => C.bad (.nothing (.int (a : Nat)) (.int (b : Nat))) ?_, fun l ls y H' el k ry N' => C.ok (.hand a b) _ H' ?_ k ?_ ?_⟩⟩⟩
  · rw [ej, if_neg nb]
  · rw [ej, if_pos nb]
    simp only [if_pos sa]
  · rw [ej, if_pos nb]
    simp only [if_neg sa, if_pos sb]
  · rw [ej, if_pos nb, em]
    simp only [if_neg sa, if_neg sb]
    rfl
  · rw [ej, if_pos nb, el]
    simp only [if_neg sa, if_neg sb]
    rfl
  · rw [ans_hand el]
    exact ry
  · rw [did_hand el]
    exact N'
theorem CallH.make (C : CallH K H p n rs ns S .make v1 v2 d1 d2 Q E) : spNMake K [.ref p.x, v1, v2] H Q E := by
  refine ⟨p, n, rs, ns, S, v1, v2, d1, d2, rfl, C.N, Nat.lt_of_le_of_lt C.few.d (by decide), (fun h hh => Nat.lt_of_le_of_lt (C.few.l h hh) (by decide)), (fun r hr => Nat.lt_of_le_of_lt (C.few.w r hr) (by decide)), C.lok, C.r2, C.tz, C.one fun a ha ea ed => ?_⟩
  subst ea ed
  have ej : judge n rs ns S .make (.int (a : Nat)) v2 (.int (a : Nat)) d2 = judgeM ns S (.int (a : Nat)) v2 a d2 := by
    unfold judge
    rw [house_of ha]
  refine ⟨fun no => C.bad (.text v2) ?_, fun z ez tz => ?_⟩
  · rw [ej]
    cases d2 with
    | str z =>
      have no : textS z = false := no
      rw [judgeM_str, no]
      rfl
    | _ => rfl
  · subst ez
    have hv : v2 = .str z := by
      cases C.r2
      rfl
    subst hv
    rw [judgeM_str, if_pos tz] at ej
    refine ⟨fun sa => C.bad (.stopped (.int (a : Nat))) (by rw [ej, if_pos sa]), fun sa nm enm => ?_⟩
    rw [if_neg sa] at ej
    have eg : ns.getD a "" = nm := by rw [List.getD_eq_getElem?_getD, enm]; rfl
    rw [eg] at ej
    refine ⟨fun tw => C.bad (.twice (.int (a : Nat)) (.str z)) (by rw [ej, if_pos tw]), fun tw y H' k ry N' => C.ok (.make a z) _ H' (by rw [ej, if_neg tw]) k ?_ ?_⟩
    · show Rdd H' y (lineD (ns.getD a "", z))
      rw [eg]
      exact ry
    · show NetS K H' p n rs ns { S.arrive rs a (ns.getD a "", z) none with dd := S.dd ++ [.make a z] }
      rw [eg]
      exact N'
end
def spCall (K : PySem.W.Frag) : Sp := fun vs H Q E => ∃ (p : Parts) (n : Nat) (rs : List Tm.Road) (ns : List Str) (S : NS) (w : Wd) (v1 v2 : V) (d1 d2 : PyData) (bn : Bool), vs = [.ref p.x, .str w.s, v1, v2, .bl bn] ∧ CallH K H p n rs ns S w v1 v2 d1 d2 Q E
section
variable {P : Program} {w : World} {K : PySem.W.Frag} {mg : Str → Option Value} {base : Heap} {f : Addr} {fd : FuncData}
theorem ok_call (F : Fd K "_law_call" sCall f fd) (g : mg "_law_call" = some (.ref f)) (B : Bl mg) (CK : NetK K mg) (M : NetM P w K mg base) : Ok P w K mg base (L2N.CX P w) 6 "_law_call" sCall ["network", "word", "first", "second", "named"] (spCall K) := by
  refine ⟨f, fd, g, F, F.bindsN fun _ _ _ _ _ _ us hl => match us, hl with | [_, _, _, _, _], _ => rfl, F.ok scCall (fun vs H Q E h => ?_) (fun cdv A outer s H vs Q E hr h => ?_)⟩
  · obtain ⟨p, n, rs, ns, S, w, v1, v2, d1, d2, bn, rfl, _⟩ := h
    rfl
  · have tk : L2N.Takes (cxOf (L2N.CX P w) P w K mg base ["network", "word", "first", "second", "named"] "_law_call" (defScope sCall) f cdv A outer s H E) (fun cls d _ H => E cls d H) := L2N.takes_of rfl rfl rfl rfl
    refine ⟨_, (pss_cons (ps_if (pt_cmpR op_eq (pv 1) pe_str (nomark _))
        (pss_one (ps_ret (pe_ifExp (pt_val (pv 4)) (pe_mk M.makeK (pv 0) CK.cl (hr.mono (by decide)) (fun σ => L2N.passAt tk σ) (pk_cons (pv 3) (pk_cons (pv 2) pk_nil))) (pe_me M.make (pv 0) CK.cl (hr.mono (by decide)) (fun σ => L2N.passAt tk σ) (pa_cons (pv 2) (pa_cons (pv 3) pa_nil))))))
        pss_nil)
      (pss_cons (ps_if (pt_cmpR op_eq (pv 1) pe_str (nomark _))
        (pss_one (ps_ret (pe_ifExp (pt_val (pv 4)) (pe_mk M.handK (pv 0) CK.cl (hr.mono (by decide)) (fun σ => L2N.passAt tk σ) (pk_cons (pv 3) (pk_cons (pv 2) pk_nil))) (pe_me M.hand (pv 0) CK.cl (hr.mono (by decide)) (fun σ => L2N.passAt tk σ) (pa_cons (pv 2) (pa_cons (pv 3) pa_nil))))))
        pss_nil)
      (pss_cons (ps_if (pt_cmpR op_eq (pv 1) pe_str (nomark _))
        (pss_one (ps_ret (pe_ifExp (pt_val (pv 4)) (pe_mk M.loseK (pv 0) CK.cl (hr.mono (by decide)) (fun σ => L2N.passAt tk σ) (pk_cons (pv 3) (pk_cons (pv 2) pk_nil))) (pe_me M.lose (pv 0) CK.cl (hr.mono (by decide)) (fun σ => L2N.passAt tk σ) (pa_cons (pv 2) (pa_cons (pv 3) pa_nil))))))
        pss_nil)
      (pss_cons (ps_if (pt_cmpR op_eq (pv 1) pe_str (nomark _))
        (pss_one (ps_ret (pe_ifExp (pt_val (pv 4)) (pe_mk M.stopK (pv 0) CK.cl (hr.mono (by decide)) (fun σ => L2N.passAt tk σ) (pk_cons (pv 2) pk_nil)) (pe_me M.stop (pv 0) CK.cl (hr.mono (by decide)) (fun σ => L2N.passAt tk σ) (pa_cons (pv 2) pa_nil)))))
        pss_nil)
      (pss_cons (ps_if (pt_cmpR op_eq (pv 1) pe_str (nomark _))
        (pss_one (ps_ret (pe_ifExp (pt_val (pv 4)) (pe_mk M.logK (pv 0) CK.cl (hr.mono (by decide)) (fun σ => L2N.passAt tk σ) (pk_cons (pv 2) pk_nil)) (pe_me M.log (pv 0) CK.cl (hr.mono (by decide)) (fun σ => L2N.passAt tk σ) (pa_cons (pv 2) pa_nil)))))
        pss_nil)
      (pss_one (ps_ret (pe_ifExp (pt_val (pv 4)) (pe_mk M.underK (pv 0) CK.cl (hr.mono (by decide)) (fun σ => L2N.passAt tk σ) (pk_cons (pv 3) (pk_cons (pv 2) pk_nil))) (pe_me M.under (pv 0) CK.cl (hr.mono (by decide)) (fun σ => L2N.passAt tk σ) (pa_cons (pv 2) (pa_cons (pv 3) pa_nil))))))))))), ?_⟩
    obtain ⟨p, n, rs, ns, S, wd, v1, v2, d1, d2, bn, rfl, C⟩ := h
    obtain ⟨⟨dx, hx⟩, _⟩ := C.N.xt
    have no : ∀ {x y : Str} {A B : Prop}, (x == y) = false → B → if decide (V.str x = V.str y) = true then A else B := fun {x y A B} e h => by
      rw [decide_eq_false (fun z => by cases z; simp at e)]
      exact iteF h
    have yes : ∀ {x : Str} {A B : Prop}, A → if decide (V.str x = V.str x) = true then A else B := fun {x A B} h => by
      rw [decide_eq_true rfl]
      exact iteT h
    cases wd with
    | make =>
      refine ⟨_, rfl, rfl, _, rfl, yes ⟨_, rfl, bn, rfl, ?_⟩⟩
      cases bn with
      | true => exact iteT ⟨_, rfl, p.x, dx, _, rfl, hx, rfl, _, rfl, _, rfl, rfl, C.make⟩
      | false => exact iteF ⟨_, rfl, p.x, dx, _, rfl, hx, rfl, _, rfl, _, rfl, C.make⟩
    | hand =>
      refine ⟨_, rfl, rfl, _, rfl, no (by decide +kernel) ⟨_, rfl, rfl, _, rfl, yes ⟨_, rfl, bn, rfl, ?_⟩⟩⟩
      cases bn with
      | true => exact iteT ⟨_, rfl, p.x, dx, _, rfl, hx, rfl, _, rfl, _, rfl, rfl, C.hand⟩
      | false => exact iteF ⟨_, rfl, p.x, dx, _, rfl, hx, rfl, _, rfl, _, rfl, C.hand⟩
    | lose =>
      refine ⟨_, rfl, rfl, _, rfl, no (by decide +kernel) ⟨_, rfl, rfl, _, rfl, no (by decide +kernel) ⟨_, rfl, rfl, _, rfl, yes ⟨_, rfl, bn, rfl, ?_⟩⟩⟩⟩
      cases bn with
      | true => exact iteT ⟨_, rfl, p.x, dx, _, rfl, hx, rfl, _, rfl, _, rfl, rfl, C.lose⟩
      | false => exact iteF ⟨_, rfl, p.x, dx, _, rfl, hx, rfl, _, rfl, _, rfl, C.lose⟩
    | stop =>
      refine ⟨_, rfl, rfl, _, rfl, no (by decide +kernel) ⟨_, rfl, rfl, _, rfl, no (by decide +kernel) ⟨_, rfl, rfl, _, rfl, no (by decide +kernel) ⟨_, rfl, rfl, _, rfl, yes ⟨_, rfl, bn, rfl, ?_⟩⟩⟩⟩⟩
      cases bn with
      | true => exact iteT ⟨_, rfl, p.x, dx, _, rfl, hx, rfl, _, rfl, rfl, C.stop⟩
      | false => exact iteF ⟨_, rfl, p.x, dx, _, rfl, hx, rfl, _, rfl, C.stop⟩
    | log =>
      refine ⟨_, rfl, rfl, _, rfl, no (by decide +kernel) ⟨_, rfl, rfl, _, rfl, no (by decide +kernel) ⟨_, rfl, rfl, _, rfl, no (by decide +kernel) ⟨_, rfl, rfl, _, rfl, no (by decide +kernel) ⟨_, rfl, rfl, _, rfl, yes ⟨_, rfl, bn, rfl, ?_⟩⟩⟩⟩⟩⟩
      cases bn with
      | true => exact iteT ⟨_, rfl, p.x, dx, _, rfl, hx, rfl, _, rfl, rfl, C.log⟩
      | false => exact iteF ⟨_, rfl, p.x, dx, _, rfl, hx, rfl, _, rfl, C.log⟩
    | under =>
      refine ⟨_, rfl, rfl, _, rfl, no (by decide +kernel) ⟨_, rfl, rfl, _, rfl, no (by decide +kernel) ⟨_, rfl, rfl, _, rfl, no (by decide +kernel) ⟨_, rfl, rfl, _, rfl, no (by decide +kernel) ⟨_, rfl, rfl, _, rfl, no (by decide +kernel) ⟨_, rfl, bn, rfl, ?_⟩⟩⟩⟩⟩⟩
      cases bn with
      | true => exact iteT ⟨_, rfl, p.x, dx, _, rfl, hx, rfl, _, rfl, _, rfl, rfl, C.under⟩
      | false => exact iteF ⟨_, rfl, p.x, dx, _, rfl, hx, rfl, _, rfl, _, rfl, C.under⟩
end
end K04

namespace K04
open PySem PySem.Spec PyProof.Rows L2 Tn TL
abbrev sAsked : Stmt := top 52
theorem scAsked : FnScope ["network", "word", "first", "second", "named", "e"] ["network", "word", "first", "second", "named"] (defScope sAsked) := ⟨rfl, rfl, rfl, by decide +kernel, rfl, by decide +kernel, by decide +kernel⟩
/-- a class of errors as the clauses want it -/
structure ErrK (K : PySem.W.Frag) (mg : Str → Option Value) (x : Str) : Prop where
  g : mg x = some (.ref (He.ga K x))
  X : XfC K (He.ga K x)
/-- the clause for a class of one field -/
def Ts1 (K : PySem.W.Frag) (i : Nat) (C f t : Str) (a : Addr) (cls : Value) (d : Option Addr) : TS := fun D σ H => ∃ (v : V) (dd : Addr), σ[i]? = some (some (.ref a)) ∧ cls = .ref (He.ga K C) ∧ d = some dd ∧ H dd = some (.xd [(f, v)]) ∧
  ∀ p, H p = none → D.rt (.ref p) (upd H p (.lst [.str t, v]))
def Ts2 (K : PySem.W.Frag) (i : Nat) (C f g t : Str) (a : Addr) (cls : Value) (d : Option Addr) : TS := fun D σ H => ∃ (u v : V) (dd : Addr), σ[i]? = some (some (.ref a)) ∧ cls = .ref (He.ga K C) ∧ d = some dd ∧ H dd = some (.xd [(g, v), (f, u)]) ∧
  ∀ p, H p = none → D.rt (.ref p) (upd H p (.lst [.str t, u, v]))
abbrev hdsA (K : PySem.W.Frag) : List (Value × Nat × (Addr → Value → Option Addr → TS)) := [(.ref (He.ga K "InvalidHouse"), 5, Ts1 K 5 "InvalidHouse" "given" "house"), (.ref (He.ga K "InvalidText"), 5, Ts1 K 5 "InvalidText" "given" "text"), (.ref (He.ga K "NotARoad"), 5, Ts2 K 5 "NotARoad" "u" "v" "road"),
  (.ref (He.ga K "Stopped"), 5, Ts1 K 5 "Stopped" "house" "stopped"), (.ref (He.ga K "Twice"), 5, Ts2 K 5 "Twice" "house" "text" "twice"), (.ref (He.ga K "NothingUnderWay"), 5, Ts2 K 5 "NothingUnderWay" "u" "v" "nothing")]
/-- the six classes -/
structure Six (K : PySem.W.Frag) (mg : Str → Option Value) : Prop where
  e : ∀ x ∈ six, ErrK K mg x
  m : ∀ x ∈ six, ∀ y ∈ six, PySem.W.exmOne K (.ref (He.ga K x)) (.ref (He.ga K y)) = some (decide (x = y))
  f : ∀ x ∈ [(("InvalidHouse" : Str), ("given" : Str)), ("InvalidText", "given"), ("NotARoad", "u"), ("NotARoad", "v"), ("Stopped", "house"), ("Twice", "house"), ("Twice", "text"), ("NothingUnderWay", "u"), ("NothingUnderWay", "v")], PySem.W.findIn K (.ref (He.ga K x.1)) x.2 = some none
theorem wNo {K : PySem.W.Frag} {x y : Str} {i : Nat} {ts : Addr → Value → Option Addr → TS} {W : WX} {D : Ends} {d : Option Addr} {σ : L2.St} {H : Hp} (h : PySem.W.exmOne K (.ref (He.ga K x)) (.ref (He.ga K y)) = some false) (k : W (.ref (He.ga K x)) d σ H) :
    wAs K (.ref (He.ga K y)) i ts W D (.ref (He.ga K x)) d σ H := ⟨false, h, fun z => (nomatch z), fun _ => k⟩
theorem raises_asked {K : PySem.W.Frag} {mg : Str → Option Value} (X : Six K mg) {b : Bad} {H : Hp} {D : Ends} {a0 a1 a2 a3 a4 : Option V} (k : ∀ p H', Same H H' → H p = none → H' p = some (.lst b.vs) → D.rt (.ref p) H') :
    b.raises K H fun cls d H' => L2N.wManyAs K (fun _ _ _ _ => False) D (hdsA K) cls d [a0, a1, a2, a3, a4, none] H' := by
  have m : ∀ {x y : Str}, x ∈ six → y ∈ six → (x == y) = false → PySem.W.exmOne K (.ref (He.ga K x)) (.ref (He.ga K y)) = some false := fun {x y} h1 h2 e => by
    rw [X.m x h1 y h2, decide_eq_false (by simpa using e)]
  have t : ∀ {x : Str}, x ∈ six → PySem.W.exmOne K (.ref (He.ga K x)) (.ref (He.ga K x)) = some true := fun {x} h1 => by
    rw [X.m x h1 x h1, decide_eq_true rfl]
  have old : ∀ {H2 : Hp} {l : Addr}, Same H H2 → H2 l = none → H l = none := fun {H2 l} k e => by
    cases z : H l with
    | none => rfl
    | some o => rw [k _ _ z] at e; cases e
  cases b with
  | house v =>
    intro d H2 k2 h2
    exact ⟨true, t (by decide +kernel), fun _ a ha => ⟨v, d, rfl, rfl, rfl, h2, fun p hp => k p _ (k2.trans (upd_grow hp)) (old k2 hp) upd_same⟩, fun z => nomatch z⟩
  | text v =>
    intro d H2 k2 h2
    refine wNo (m (by decide +kernel) (by decide +kernel) (by decide +kernel)) ?_
    exact ⟨true, t (by decide +kernel), fun _ a ha => ⟨v, d, rfl, rfl, rfl, h2, fun p hp => k p _ (k2.trans (upd_grow hp)) (old k2 hp) upd_same⟩, fun z => nomatch z⟩
  | road u v =>
    intro d H2 k2 h2
    refine wNo (m (by decide +kernel) (by decide +kernel) (by decide +kernel)) (wNo (m (by decide +kernel) (by decide +kernel) (by decide +kernel)) ?_)
    exact ⟨true, t (by decide +kernel), fun _ a ha => ⟨u, v, d, rfl, rfl, rfl, h2, fun p hp => k p _ (k2.trans (upd_grow hp)) (old k2 hp) upd_same⟩, fun z => nomatch z⟩
  | stopped v =>
    intro d H2 k2 h2
    refine wNo (m (by decide +kernel) (by decide +kernel) (by decide +kernel)) (wNo (m (by decide +kernel) (by decide +kernel) (by decide +kernel)) (wNo (m (by decide +kernel) (by decide +kernel) (by decide +kernel)) ?_))
    exact ⟨true, t (by decide +kernel), fun _ a ha => ⟨v, d, rfl, rfl, rfl, h2, fun p hp => k p _ (k2.trans (upd_grow hp)) (old k2 hp) upd_same⟩, fun z => nomatch z⟩
  | twice u v =>
    intro d H2 k2 h2
    refine wNo (m (by decide +kernel) (by decide +kernel) (by decide +kernel)) (wNo (m (by decide +kernel) (by decide +kernel) (by decide +kernel)) (wNo (m (by decide +kernel) (by decide +kernel) (by decide +kernel)) (wNo (m (by decide +kernel) (by decide +kernel) (by decide +kernel)) ?_)))
    exact ⟨true, t (by decide +kernel), fun _ a ha => ⟨u, v, d, rfl, rfl, rfl, h2, fun p hp => k p _ (k2.trans (upd_grow hp)) (old k2 hp) upd_same⟩, fun z => nomatch z⟩
  | nothing u v =>
    intro d H2 k2 h2
    refine wNo (m (by decide +kernel) (by decide +kernel) (by decide +kernel)) (wNo (m (by decide +kernel) (by decide +kernel) (by decide +kernel)) (wNo (m (by decide +kernel) (by decide +kernel) (by decide +kernel)) (wNo (m (by decide +kernel) (by decide +kernel) (by decide +kernel)) (wNo (m (by decide +kernel) (by decide +kernel) (by decide +kernel)) ?_))))
    exact ⟨true, t (by decide +kernel), fun _ a ha => ⟨u, v, d, rfl, rfl, rfl, h2, fun p hp => k p _ (k2.trans (upd_grow hp)) (old k2 hp) upd_same⟩, fun z => nomatch z⟩
/-- a question to a network -/
structure AskH (K : PySem.W.Frag) (H : Hp) (p : Parts) (n : Nat) (rs : List Tm.Road) (ns : List Str) (S : NS) (v1 v2 : V) (d1 d2 : PyData) : Prop where
  N : NetS K H p n rs ns S
  few : Few n rs S 900
  lok : ∀ h, h < n → ∀ l ∈ S.lg h, lineOk l
  r1 : Rdd H v1 d1
  r2 : Rdd H v2 d2
  tz : ∀ z, d2 = .str z → z.length ≤ 100000
def spAsked (K : PySem.W.Frag) : Sp := fun vs H Q _ => ∃ (p : Parts) (n : Nat) (rs : List Tm.Road) (ns : List Str) (S : NS) (w : Wd) (v1 v2 : V) (d1 d2 : PyData) (bn : Bool), vs = [.ref p.x, .str w.s, v1, v2, .bl bn] ∧ AskH K H p n rs ns S v1 v2 d1 d2 ∧
  (∀ b l H', judge n rs ns S w v1 v2 d1 d2 = .inl b → Same H H' → H l = none → H' l = some (.lst b.vs) → Q (.ref l) H') ∧
  ∀ act l y H1 H', judge n rs ns S w v1 v2 d1 d2 = .inr act → Bm p.M H H1 → H1 l = none → Same H1 H' → H' l = some (.lst [.str "told", y]) → Rdd H1 y (ansD ns S act) → NetS K H1 p n rs ns (S.did rs ns act) → Q (.ref l) H'
section
variable {P : Program} {w : World} {K : PySem.W.Frag} {mg : Str → Option Value} {base : Heap} {f : Addr} {fd : FuncData}
theorem ok_asked (F : Fd K "_law_asked" sAsked f fd) (g : mg "_law_asked" = some (.ref f)) (B : Bl mg) (X : Six K mg) (o_law_call : Ok P w K mg base (L2N.CX P w) 6 "_law_call" sCall ["network", "word", "first", "second", "named"] (spCall K)) :
    Ok P w K mg base CX0 7 "_law_asked" sAsked ["network", "word", "first", "second", "named"] (spAsked K) := by
  refine ⟨f, fd, g, F, F.bindsN fun _ _ _ _ _ _ us hl => match us, hl with | [_, _, _, _, _], _ => rfl, F.ok scAsked (fun vs H Q E h => ?_) (fun cdv A outer s H vs Q E hr h => ?_)⟩
  · obtain ⟨p, n, rs, ns, S, w, v1, v2, d1, d2, bn, rfl, _⟩ := h
    rfl
  · have E1 := X.e "InvalidHouse" (by decide +kernel)
    have E2 := X.e "InvalidText" (by decide +kernel)
    have E3 := X.e "NotARoad" (by decide +kernel)
    have E4 := X.e "Stopped" (by decide +kernel)
    have E5 := X.e "Twice" (by decide +kernel)
    have E6 := X.e "NothingUnderWay" (by decide +kernel)
    refine ⟨_, pss_one (L2N.ps_try_manyAs (Wout := fun _ _ _ _ => False) (l := hdsA K) rfl rfl scAsked.nd takes_none
        (fun W pn xe tk _ => (pss_one (ps_ret (pe_lst (pa_cons pe_str (pa_cons (pe_oS o_law_call (hr.mono (by decide)) (by rfl) (fun σ => L2N.passAt tk σ) (pa_cons (pv 0) (pa_cons (pv 1) (pa_cons (pv 2) (pa_cons (pv 3) (pa_cons (pv 4) pa_nil)))))) pa_nil))))))
        (.cons ⟨by rfl, by decide, .inl E1.g⟩ rfl rfl (fun a oe cls d pn hz hv => ?_) (.cons ⟨by rfl, by decide, .inl E2.g⟩ rfl rfl (fun a oe cls d pn hz hv => ?_) (.cons ⟨by rfl, by decide, .inl E3.g⟩ rfl rfl (fun a oe cls d pn hz hv => ?_)
          (.cons ⟨by rfl, by decide, .inl E4.g⟩ rfl rfl (fun a oe cls d pn hz hv => ?_) (.cons ⟨by rfl, by decide, .inl E5.g⟩ rfl rfl (fun a oe cls d pn hz hv => ?_) (.cons ⟨by rfl, by decide, .inl E6.g⟩ rfl rfl (fun a oe cls d pn hz hv => ?_) .nil))))))), ?_⟩
    · have hps : ∀ q ∈ [(a, oe)], q ∈ ((cxOf CX0 P w K mg base ["network", "word", "first", "second", "named", "e"] "_law_asked" (defScope sAsked) f cdv A outer s H E).suite a ((a, oe) :: pn)).pn := fun q hq => by
        rw [List.mem_singleton.mp hq]
        exact List.mem_cons_self
      refine pss_mono (pss_one (ps_ret (pe_lst (pa_cons pe_str (pa_cons (pe_evF hps (pv 5)) pa_nil))))) fun D σ H1 h => ?_
      obtain ⟨v, dd, h7, rfl, rfl, hdd, fin⟩ := h
      exact ⟨_, h7, a, _, dd, _, v, rfl, ⟨.inr ⟨oe, List.mem_cons_self, hz.1, hz.2.1, hv⟩, .inr hdd⟩, E1.X, X.f ("InvalidHouse", "given") (by decide +kernel), rfl, two_ln (by show 2 ≤ _; decide), fun p hp => fin p hp⟩
    · have hps : ∀ q ∈ [(a, oe)], q ∈ ((cxOf CX0 P w K mg base ["network", "word", "first", "second", "named", "e"] "_law_asked" (defScope sAsked) f cdv A outer s H E).suite a ((a, oe) :: pn)).pn := fun q hq => by
        rw [List.mem_singleton.mp hq]
        exact List.mem_cons_self
      refine pss_mono (pss_one (ps_ret (pe_lst (pa_cons pe_str (pa_cons (pe_evF hps (pv 5)) pa_nil))))) fun D σ H1 h => ?_
      obtain ⟨v, dd, h7, rfl, rfl, hdd, fin⟩ := h
      exact ⟨_, h7, a, _, dd, _, v, rfl, ⟨.inr ⟨oe, List.mem_cons_self, hz.1, hz.2.1, hv⟩, .inr hdd⟩, E2.X, X.f ("InvalidText", "given") (by decide +kernel), rfl, two_ln (by show 2 ≤ _; decide), fun p hp => fin p hp⟩
    · have hps : ∀ q ∈ [(a, oe)], q ∈ ((cxOf CX0 P w K mg base ["network", "word", "first", "second", "named", "e"] "_law_asked" (defScope sAsked) f cdv A outer s H E).suite a ((a, oe) :: pn)).pn := fun q hq => by
        rw [List.mem_singleton.mp hq]
        exact List.mem_cons_self
      refine pss_mono (pss_one (ps_ret (pe_lst (pa_cons pe_str (pa_cons (pe_evF hps (pv 5)) (pa_cons (pe_evF hps (pv 5)) pa_nil)))))) fun D σ H1 h => ?_
      obtain ⟨u, v, dd, h7, rfl, rfl, hdd, fin⟩ := h
      exact ⟨_, h7, a, _, dd, _, u, rfl, ⟨.inr ⟨oe, List.mem_cons_self, hz.1, hz.2.1, hv⟩, .inr hdd⟩, E3.X, X.f ("NotARoad", "u") (by decide +kernel), rfl, _, h7, a, _, dd, _, v, rfl, ⟨.inr ⟨oe, List.mem_cons_self, hz.1, hz.2.1, hv⟩, .inr hdd⟩, E3.X, X.f ("NotARoad", "v") (by decide +kernel), rfl, two_ln (by show 3 ≤ _; decide), fun p hp => fin p hp⟩
    · have hps : ∀ q ∈ [(a, oe)], q ∈ ((cxOf CX0 P w K mg base ["network", "word", "first", "second", "named", "e"] "_law_asked" (defScope sAsked) f cdv A outer s H E).suite a ((a, oe) :: pn)).pn := fun q hq => by
        rw [List.mem_singleton.mp hq]
        exact List.mem_cons_self
      refine pss_mono (pss_one (ps_ret (pe_lst (pa_cons pe_str (pa_cons (pe_evF hps (pv 5)) pa_nil))))) fun D σ H1 h => ?_
      obtain ⟨v, dd, h7, rfl, rfl, hdd, fin⟩ := h
      exact ⟨_, h7, a, _, dd, _, v, rfl, ⟨.inr ⟨oe, List.mem_cons_self, hz.1, hz.2.1, hv⟩, .inr hdd⟩, E4.X, X.f ("Stopped", "house") (by decide +kernel), rfl, two_ln (by show 2 ≤ _; decide), fun p hp => fin p hp⟩
    · have hps : ∀ q ∈ [(a, oe)], q ∈ ((cxOf CX0 P w K mg base ["network", "word", "first", "second", "named", "e"] "_law_asked" (defScope sAsked) f cdv A outer s H E).suite a ((a, oe) :: pn)).pn := fun q hq => by
        rw [List.mem_singleton.mp hq]
        exact List.mem_cons_self
      refine pss_mono (pss_one (ps_ret (pe_lst (pa_cons pe_str (pa_cons (pe_evF hps (pv 5)) (pa_cons (pe_evF hps (pv 5)) pa_nil)))))) fun D σ H1 h => ?_
      obtain ⟨u, v, dd, h7, rfl, rfl, hdd, fin⟩ := h
      exact ⟨_, h7, a, _, dd, _, u, rfl, ⟨.inr ⟨oe, List.mem_cons_self, hz.1, hz.2.1, hv⟩, .inr hdd⟩, E5.X, X.f ("Twice", "house") (by decide +kernel), rfl, _, h7, a, _, dd, _, v, rfl, ⟨.inr ⟨oe, List.mem_cons_self, hz.1, hz.2.1, hv⟩, .inr hdd⟩, E5.X, X.f ("Twice", "text") (by decide +kernel), rfl, two_ln (by show 3 ≤ _; decide), fun p hp => fin p hp⟩
    · have hps : ∀ q ∈ [(a, oe)], q ∈ ((cxOf CX0 P w K mg base ["network", "word", "first", "second", "named", "e"] "_law_asked" (defScope sAsked) f cdv A outer s H E).suite a ((a, oe) :: pn)).pn := fun q hq => by
        rw [List.mem_singleton.mp hq]
        exact List.mem_cons_self
      refine pss_mono (pss_one (ps_ret (pe_lst (pa_cons pe_str (pa_cons (pe_evF hps (pv 5)) (pa_cons (pe_evF hps (pv 5)) pa_nil)))))) fun D σ H1 h => ?_
      obtain ⟨u, v, dd, h7, rfl, rfl, hdd, fin⟩ := h
      exact ⟨_, h7, a, _, dd, _, u, rfl, ⟨.inr ⟨oe, List.mem_cons_self, hz.1, hz.2.1, hv⟩, .inr hdd⟩, E6.X, X.f ("NothingUnderWay", "u") (by decide +kernel), rfl, _, h7, a, _, dd, _, v, rfl, ⟨.inr ⟨oe, List.mem_cons_self, hz.1, hz.2.1, hv⟩, .inr hdd⟩, E6.X, X.f ("NothingUnderWay", "v") (by decide +kernel), rfl, two_ln (by show 3 ≤ _; decide), fun p hp => fin p hp⟩
    · obtain ⟨p, n, rs, ns, S, wd, v1, v2, d1, d2, bn, rfl, C, qb, qa⟩ := h
      refine ⟨_, rfl, _, rfl, _, rfl, _, rfl, _, rfl, p, n, rs, ns, S, wd, v1, v2, d1, d2, bn, rfl, ⟨C.N, C.few, C.lok, C.r1, C.r2, C.tz, fun b ej => raises_asked X fun pl H' k hp hl => qb b pl H' ej k hp hl, fun act y H1 ej k ry N' => ⟨two_ln (by show 2 ≤ _; decide), fun pl hpl => ?_⟩⟩⟩
      exact qa act pl y H1 _ ej k hpl (upd_grow hpl) upd_same ry N'
end
end K04

namespace K04
open PySem PySem.Spec PyProof.Rows L2
/-- data with bounds -/
structure Nc (k m : Nat) (d : PyData) : Prop where
  a : asc d = true
  s : d.showable = true
  h : d.depth ≤ k
  w : wt d ≤ m
theorem Nc.tame {k m : Nat} {d : PyData} (n : Nc k m d) (hk : k ≤ 32 := by decide) (hm : m ≤ 1000000 := by decide) : Tame d := ⟨n.a, n.s, Nat.le_trans n.h hk, Nat.le_trans n.w hm⟩
theorem Nc.up {k m k' m' : Nat} {d : PyData} (n : Nc k m d) (hk : k ≤ k' := by decide) (hm : m ≤ m' := by decide) : Nc k' m' d := ⟨n.a, n.s, Nat.le_trans n.h hk, Nat.le_trans n.w hm⟩
theorem nc_all {k m : Nat} : ∀ {ds : List PyData}, (∀ d ∈ ds, Nc k m d) → ascAll ds = true ∧ PyData.showableAll ds = true ∧ PyData.depthAll ds ≤ k ∧ wtAll ds ≤ ds.length * (m + 2)
  | [], _ => ⟨rfl, rfl, Nat.zero_le _, Nat.zero_le _⟩
  | d :: ds, h => by
    obtain ⟨h1, h2, h3, h4⟩ := h d List.mem_cons_self
    obtain ⟨i1, i2, i3, i4⟩ := nc_all fun e he => h e (List.mem_cons_of_mem _ he)
    refine ⟨?_, ?_, ?_, ?_⟩
    · simp only [ascAll]
      rw [h1, i1] <;> rfl
    · simp only [PyData.showableAll]
      rw [h2, i2] <;> rfl
    · simp only [PyData.depthAll]
      omega
    · simp only [wtAll, List.length_cons]
      rw [Nat.add_mul]
      omega
theorem nc_list {k m l : Nat} {ds : List PyData} (h : ∀ d ∈ ds, Nc k m d) (hl : ds.length ≤ l) : Nc (k + 1) (l * (m + 2) + 3) (.list ds) := by
  obtain ⟨i1, i2, i3, i4⟩ := nc_all h
  have y : ds.length * (m + 2) ≤ l * (m + 2) := Nat.mul_le_mul_right _ hl
  exact ⟨by simp only [asc]; exact i1, by simp only [PyData.showable]; exact i2, by simp only [PyData.depth]; omega, by simp only [wt]; omega⟩
theorem nc_tup {k m l : Nat} {ds : List PyData} (h : ∀ d ∈ ds, Nc k m d) (hl : ds.length ≤ l) : Nc (k + 1) (l * (m + 2) + 3) (.tuple ds) := by
  obtain ⟨i1, i2, i3, i4⟩ := nc_all h
  have y : ds.length * (m + 2) ≤ l * (m + 2) := Nat.mul_le_mul_right _ hl
  exact ⟨by simp only [asc]; exact i1, by simp only [PyData.showable]; exact i2, by simp only [PyData.depth]; omega, by simp only [wt]; omega⟩
theorem nat_small : ∀ x : Nat, x < 100 → asc (.int (x : Int)) = true ∧ PyData.showable (.int (x : Int)) = true ∧ wt (.int (x : Int)) ≤ 3 := by decide +kernel
theorem nc_nat {x : Nat} (h : x < 100) : Nc 0 40 (.int (x : Int)) := ⟨(nat_small x h).1, (nat_small x h).2.1, Nat.le_refl _, Nat.le_trans (nat_small x h).2.2 (by decide)⟩
theorem nc_bool (b : Bool) : Nc 0 40 (.bool b) := by
  cases b <;> exact ⟨rfl, rfl, Nat.le_refl _, by decide⟩
theorem nc_rd {r : Tm.Road} (h1 : r.1 < 100) (h2 : r.2 < 100) : Nc 1 100 (rd r) := by
  refine (nc_tup (k := 0) (m := 40) (l := 2) (fun e he => ?_) (Nat.le_refl _)).up
  simp only [List.mem_cons, List.not_mem_nil, or_false] at he
  rcases he with rfl | rfl
  · exact nc_nat h1
  · exact nc_nat h2
theorem nc_non : Nc 0 40 .none := ⟨rfl, rfl, by decide, by decide⟩
end K04

namespace K04
open PySem PySem.Spec PyProof.Rows L2 Tn TL
/-! ### what a net may hold -/
def lineG (l : Line) : Prop := nameS l.1 = true ∧ textS l.2 = true
def deedG (n : Nat) : Deed → Prop
  | .make h t => h < n ∧ textS t = true
  | .hand u v => u < n ∧ v < n
  | .lose u v => u < n ∧ v < n
  | .stop h => h < n
structure Fine (n : Nat) (rs : List Tm.Road) (S : NS) (c : Nat) : Prop where
  few : Few n rs S c
  lg : ∀ h, h < n → ∀ l ∈ S.lg h, lineG l
  wt : ∀ r ∈ both rs, ∀ l ∈ S.wt r, lineG l
  ht : ∀ x ∈ S.ht, x < n
  dd : ∀ d ∈ S.dd, deedG n d
theorem Few.up {n : Nat} {rs : List Tm.Road} {S : NS} {c e : Nat} (F : Few n rs S c) (h : c ≤ e) : Few n rs S e := ⟨Nat.le_trans F.d h, Nat.le_trans F.h h, fun x hx => Nat.le_trans (F.l x hx) h, fun r hr => Nat.le_trans (F.w r hr) h⟩
theorem Fine.up {n : Nat} {rs : List Tm.Road} {S : NS} {c e : Nat} (F : Fine n rs S c) (h : c ≤ e) : Fine n rs S e := ⟨F.few.up h, F.lg, F.wt, F.ht, F.dd⟩
theorem lineG.ok {l : Line} (h : lineG l) : lineOk l := ⟨name_ok h.1, text_ok h.2⟩
theorem Fine.new {n : Nat} {rs : List Tm.Road} : Fine n rs NS.new 0 := ⟨⟨Nat.le_refl _, Nat.le_refl _, fun _ _ => Nat.le_refl _, fun _ _ => Nat.le_refl _⟩, (fun _ _ _ h => nomatch h), (fun _ _ _ h => nomatch h), (fun _ h => nomatch h), (fun _ h => nomatch h)⟩
section
variable {n : Nat} {rs : List Tm.Road} {ns : List Str} {S : NS} {c : Nat}
theorem Fine.arrive (G : Fine n rs S c) {h : Nat} {l : Line} {src : Option Nat} (hl : lineG l) : Fine n rs (S.arrive rs h l src) (c + 1) := by
  refine ⟨⟨Nat.le_trans G.few.d (Nat.le_succ _), Nat.le_trans G.few.h (Nat.le_succ _), fun x hx => ?_, fun r hr => ?_⟩, fun x hx y hy => ?_, fun r hr y hy => ?_, G.ht, G.dd⟩
  · have := G.few.l x hx
    unfold NS.arrive
    by_cases e : x = h
    · simp only [if_pos e, List.length_append, List.length_singleton]
      omega
    · simp only [if_neg e]
      omega
  · have := G.few.w r hr
    unfold NS.arrive
    by_cases e : r.1 = h ∧ r.2 ∈ Tm.near rs h ∧ some r.2 ≠ src
    · simp only [if_pos e, List.length_append, List.length_singleton]
      omega
    · simp only [if_neg e]
      omega
  · unfold NS.arrive at hy
    by_cases e : x = h
    · simp only [if_pos e] at hy
      rcases List.mem_append.mp hy with hy | hy
      · exact G.lg x hx y hy
      · rw [List.mem_singleton.mp hy]
        exact hl
    · simp only [if_neg e] at hy
      exact G.lg x hx y hy
  · unfold NS.arrive at hy
    by_cases e : r.1 = h ∧ r.2 ∈ Tm.near rs h ∧ some r.2 ≠ src
    · simp only [if_pos e] at hy
      rcases List.mem_append.mp hy with hy | hy
      · exact G.wt r hr y hy
      · rw [List.mem_singleton.mp hy]
        exact hl
    · simp only [if_neg e] at hy
      exact G.wt r hr y hy
theorem Fine.deed (G : Fine n rs S c) {d : Deed} (hd : deedG n d) {c' : Nat} (h1 : c ≤ c') (h2 : S.dd.length + 1 ≤ c') : Fine n rs { S with dd := S.dd ++ [d] } c' := by
  have G := G.up h1
  refine ⟨⟨?_, G.few.h, G.few.l, G.few.w⟩, G.lg, G.wt, G.ht, fun x hx => ?_⟩
  · rw [List.length_append]
    exact h2
  · rcases List.mem_append.mp hx with hx | hx
    · exact G.dd x hx
    · rw [List.mem_singleton.mp hx]
      exact hd
theorem Fine.setW (G : Fine n rs S c) {r : Tm.Road} {l : Line} {ls : List Line} (hr : r ∈ both rs) (el : S.wt r = l :: ls) : Fine n rs (S.setW r ls) c := by
  refine ⟨⟨G.few.d, G.few.h, G.few.l, fun q hq => ?_⟩, G.lg, fun q hq y hy => ?_, G.ht, G.dd⟩
  · have := G.few.w q hq
    unfold NS.setW
    by_cases e : q = r
    · subst e
      rw [el, List.length_cons] at this
      simp only [if_true]
      omega
    · simp only [if_neg e]
      exact this
  · unfold NS.setW at hy
    by_cases e : q = r
    · subst e
      simp only [if_true] at hy
      exact G.wt q hq y (by rw [el]; exact List.mem_cons_of_mem _ hy)
    · simp only [if_neg e] at hy
      exact G.wt q hq y hy
theorem Fine.did (G : Fine n rs S c) (nok : NamesOk n ns) {w : Wd} {v1 v2 : V} {act : Act} (A : ActOk n rs ns S w v1 v2 act) : Fine n rs (S.did rs ns act) (c + 1) := by
  have d1 : S.dd.length + 1 ≤ c + 1 := Nat.succ_le_succ G.few.d
  cases A with
  | @make a z h1 h2 h3 h4 =>
    have enm : ns[a]? = some (ns.getD a "") := by rw [List.getD_eq_getElem?_getD, List.getElem?_eq_getElem (by rw [nok.len]; exact h1)]; rfl
    exact (G.arrive (h := a) (src := none) (l := (ns.getD a "", z)) ⟨nok.good _ (List.mem_of_getElem? enm), h2⟩).deed (d := .make a z) ⟨h1, h2⟩ (Nat.le_refl _) d1
  | @hand a b h1 h2 h3 h4 h5 h6 =>
    obtain ⟨l, ls, el⟩ : ∃ l ls, S.wt (a, b) = l :: ls := by
      cases z : S.wt (a, b) with
      | nil => exact absurd z h6
      | cons l ls => exact ⟨l, ls, rfl⟩
    rw [did_hand el]
    have hl := G.wt (a, b) (near_both h3) l (by rw [el]; exact List.mem_cons_self)
    exact ((G.setW (near_both h3) el).arrive hl).deed (d := .hand a b) ⟨h1, h2⟩ (Nat.le_refl _) d1
  | @lose a b h1 h2 h3 h6 =>
    obtain ⟨l, ls, el⟩ : ∃ l ls, S.wt (a, b) = l :: ls := by
      cases z : S.wt (a, b) with
      | nil => exact absurd z h6
      | cons l ls => exact ⟨l, ls, rfl⟩
    rw [did_lose el]
    exact (G.setW (near_both h3) el).deed (d := .lose a b) ⟨h1, h2⟩ (Nat.le_succ _) d1
  | @stop a v h1 h3 =>
    have G1 : Fine n rs { S with ht := S.ht ++ [a] } (c + 1) := by
      have G := G.up (Nat.le_succ c)
      refine ⟨⟨G.few.d, ?_, G.few.l, G.few.w⟩, G.lg, G.wt, fun x hx => ?_, G.dd⟩
      · have := ‹Fine n rs S c›.few.h
        rw [List.length_append]
        exact Nat.succ_le_succ this
      · rcases List.mem_append.mp hx with hx | hx
        · exact G.ht x hx
        · rw [List.mem_singleton.mp hx]
          exact h1
    exact G1.deed (d := .stop a) h1 (Nat.le_refl _) d1
  | under h1 h2 h3 => exact G.up (Nat.le_succ _)
  | log h1 => exact G.up (Nat.le_succ _)
end
/-! ### the weight of what is told -/
theorem nc_str {z : Str} {m : Nat} (h : ∀ c ∈ z.cps.toList, c < 128) (l : 10 * z.length + 2 ≤ m) : Nc 0 m (.str z) :=
  ⟨by simp only [asc]; exact List.all_eq_true.mpr fun c hc => decide_eq_true (h c hc), rfl, Nat.le_refl _, by simp only [wt]; omega⟩
theorem nc_name {z : Str} (h : nameS z = true) : Nc 0 402 (.str z) := by
  unfold nameS at h
  simp only [Bool.and_eq_true, decide_eq_true_eq] at h
  refine nc_str (fun c hc => ?_) (by omega)
  have := signs_of h.2.2 c hc
  omega
theorem nc_text {z : Str} (h : textS z = true) : Nc 0 402 (.str z) := by
  unfold textS at h
  simp only [Bool.and_eq_true, decide_eq_true_eq] at h
  refine nc_str (fun c hc => ?_) (by omega)
  have := signs_of h.2 c hc
  omega
theorem nc_line {l : Line} (h : lineG l) : Nc 1 820 (lineD l) := by
  refine (nc_tup (k := 0) (m := 402) (l := 2) (fun e he => ?_) (Nat.le_refl _)).up
  simp only [List.mem_cons, List.not_mem_nil, or_false] at he
  rcases he with rfl | rfl
  · exact nc_name h.1
  · exact nc_text h.2
theorem nc_lines {L : List Line} (h : ∀ l ∈ L, lineG l) (le : L.length ≤ 32) : Nc 2 40000 (.tuple (L.map lineD)) := by
  refine (nc_tup (k := 1) (m := 820) (l := 32) (fun e he => ?_) (by rw [List.length_map]; exact le)).up
  obtain ⟨l, hl, rfl⟩ := List.mem_map.mp he
  exact nc_line (h l hl)
theorem nc_deed {n : Nat} {d : Deed} (hn : n ≤ 64) (h : deedG n d) : Nc 1 1220 (deedD d) := by
  have nat : ∀ {x : Nat}, x < n → Nc 0 402 (.int (x : Int)) := fun {x} hx => (nc_nat (by omega)).up
  have st : ∀ {z : Str}, z.cps.toList.all (fun c => decide (c < 128)) = true → z.length ≤ 40 → Nc 0 402 (.str z) := fun {z} hz hl => nc_str (fun c hc => of_decide_eq_true (List.all_eq_true.mp hz c hc)) (by omega)
  cases d with
  | make a t =>
    refine (nc_tup (k := 0) (m := 402) (l := 3) (fun e he => ?_) (Nat.le_refl _)).up
    simp only [List.mem_cons, List.not_mem_nil, or_false] at he
    rcases he with rfl | rfl | rfl
    · exact st (by decide +kernel) (by decide +kernel)
    · exact nat h.1
    · exact nc_text h.2
  | hand u v =>
    refine (nc_tup (k := 0) (m := 402) (l := 3) (fun e he => ?_) (Nat.le_refl _)).up
    simp only [List.mem_cons, List.not_mem_nil, or_false] at he
    rcases he with rfl | rfl | rfl
    · exact st (by decide +kernel) (by decide +kernel)
    · exact nat h.1
    · exact nat h.2
  | lose u v =>
    refine (nc_tup (k := 0) (m := 402) (l := 3) (fun e he => ?_) (Nat.le_refl _)).up
    simp only [List.mem_cons, List.not_mem_nil, or_false] at he
    rcases he with rfl | rfl | rfl
    · exact st (by decide +kernel) (by decide +kernel)
    · exact nat h.1
    · exact nat h.2
  | stop a =>
    refine (nc_tup (k := 0) (m := 402) (l := 3) (fun e he => ?_) (by show 2 ≤ 3; decide)).up
    simp only [List.mem_cons, List.not_mem_nil, or_false] at he
    rcases he with rfl | rfl
    · exact st (by decide +kernel) (by decide +kernel)
    · exact nat h
/-- what is told of a whole net -/
def sameD (n : Nat) (ns : List Str) (S : NS) (qs : List Tm.Road) (ks : List Int) : List PyData :=
  ((List.range n).map (fun h => PyData.tuple ((S.lg h).map lineD)) ++ qs.map fun r => PyData.tuple ((S.wt r).map lineD)) ++ [.tuple (ks.map PyData.int), .tuple (S.dd.map deedD), .tuple (ns.map PyData.str)]
theorem sameD_nc {n : Nat} {rs : List Tm.Road} {ns : List Str} {S : NS} {qs : List Tm.Road} {ks : List Int} (n6 : n ≤ 6) (nok : NamesOk n ns) (G : Fine n rs S 32) (hq : ∀ r ∈ qs, r ∈ both rs) (lq : qs.length ≤ 10) (hk : ∀ k ∈ ks, ∃ x : Nat, x < n ∧ k = x) (lk : ks.length ≤ 32) : Tame (.list (sameD n ns S qs ks)) := by
  refine (nc_list (k := 2) (m := 40000) (l := 19) (fun e he => ?_) ?_).tame
  · unfold sameD at he
    simp only [List.mem_append, List.mem_cons, List.not_mem_nil, or_false] at he
    rcases he with (he | he) | rfl | rfl | rfl
    · obtain ⟨h, hh, rfl⟩ := List.mem_map.mp he
      exact nc_lines (G.lg h (List.mem_range.mp hh)) (G.few.l h (List.mem_range.mp hh))
    · obtain ⟨r, hr, rfl⟩ := List.mem_map.mp he
      exact nc_lines (G.wt r (hq r hr)) (G.few.w r (hq r hr))
    · refine (nc_tup (k := 0) (m := 40) (l := 32) (fun e he => ?_) (by rw [List.length_map]; exact lk)).up
      obtain ⟨k, mk, rfl⟩ := List.mem_map.mp he
      obtain ⟨x, hx, rfl⟩ := hk k mk
      exact nc_nat (by omega)
    · refine (nc_tup (k := 1) (m := 1220) (l := 32) (fun e he => ?_) (by rw [List.length_map]; exact G.few.d)).up
      obtain ⟨d, md, rfl⟩ := List.mem_map.mp he
      exact nc_deed (by omega) (G.dd d md)
    · refine (nc_tup (k := 0) (m := 402) (l := 6) (fun e he => ?_) (by rw [List.length_map, nok.len]; exact n6)).up
      obtain ⟨z, mz, rfl⟩ := List.mem_map.mp he
      exact nc_name (nok.good z mz)
  · unfold sameD
    simp only [List.length_append, List.length_map, List.length_range, List.length_cons, List.length_nil]
    omega
/-- two rows of numbers, alike and in order -/
theorem sorted_eq : ∀ {as bs : List Int}, as.Perm bs → as.Pairwise (· ≤ ·) → bs.Pairwise (· ≤ ·) → as = bs
  | [], bs, p, _, _ => (List.Perm.nil_eq p)
  | a :: as, [], p, _, _ => absurd p.length_eq (by simp)
  | a :: as, b :: bs, p, h1, h2 => by
    have e : a = b := by
      have m1 : a ∈ b :: bs := p.mem_iff.mp List.mem_cons_self
      have m2 : b ∈ a :: as := p.mem_iff.mpr List.mem_cons_self
      have g1 := (List.pairwise_cons.mp h1).1
      have g2 := (List.pairwise_cons.mp h2).1
      rcases List.mem_cons.mp m1 with e | m1
      · exact e
      · rcases List.mem_cons.mp m2 with e | m2
        · exact e.symm
        · have := g1 b m2
          have := g2 a m1
          omega
    subst e
    rw [sorted_eq (List.Perm.cons_inv p) (List.pairwise_cons.mp h1).2 (List.pairwise_cons.mp h2).2]
end K04

namespace L2
open PySem PySem.Spec PyProof.Rows
/-- a property by its getter -/
structure PrOk (P : Program) (w : World) (K : PySem.W.Frag) (mg : Str → Option Value) (base : Heap) (k : Nat) (C : Addr) (f : Str) (sp : Sp) : Prop where
  ex : ∃ p g fd, PropOf K C f p g ∧ Binds K fd ["self"] [] ∧ FnOk P w K mg base CX0 k g fd ["self"] sp
theorem pe_pr {X : Cx} {k : Nat} {C : Addr} {f : Str} {sp : Sp} {e : Expr} {ta : TE} {pos : Pos} (O : PrOk X.prog X.w X.K X.mg X.base k C f sp) (he : PE X e ta) (c : Cls X.K C) (hr : Room (k + 1) X.A) (hab : attributeBase e f X.env (eval e X.env) = eval e X.env := by rfl) :
    PE X (.Attribute e f pos) (tProp C sp [] noE ta) := by
  obtain ⟨p, g, fd, hp, b, F⟩ := O.ex
  exact pe_prop he c hp F hr b .nil (fun _ _ _ _ _ _ _ h => h.elim) hab
end L2
namespace K04
open PySem PySem.Spec PyProof.Rows L2 Tn TL
abbrev sSame : Stmt := top 53
theorem scSame : FnScope ["net", "network", "named", "told", "due", "house", "u", "v"] ["net", "network", "named"] (defScope sSame) := ⟨rfl, rfl, rfl, by decide +kernel, rfl, by decide +kernel, by decide +kernel⟩
theorem LNet.some {H : Hp} {p : LParts} {n : Nat} {rs : List Tm.Road} {ns : List Str} {S : NS} (N : LNet H p n rs ns S) : ∀ a ∈ p.all, ∃ o, H a = some o := fun a m => by
  obtain ⟨ys, hr, _⟩ := N.r
  obtain ⟨LG, WT, S1, S2, _, _⟩ := N.ex
  obtain ⟨ds, hd, _⟩ := N.dd
  unfold LParts.all at m
  simp only [List.mem_cons, List.mem_append] at m
  rcases m with rfl | rfl | rfl | rfl | rfl | rfl | rfl | m | m
  · exact ⟨_, N.x⟩
  · exact ⟨_, hr⟩
  · exact ⟨_, N.nm⟩
  · exact ⟨_, S1.top⟩
  · exact ⟨_, S2.top⟩
  · exact ⟨_, N.ht⟩
  · exact ⟨_, hd⟩
  · obtain ⟨j, lj, e⟩ := List.mem_iff_getElem.mp m
    exact ⟨_, S1.row j a (by rw [List.getElem?_eq_getElem lj, e])⟩
  · obtain ⟨e, he, rfl⟩ := List.mem_map.mp m
    exact ⟨_, S2.row e he⟩
theorem NetS.some {K : PySem.W.Frag} {H : Hp} {p : Parts} {n : Nat} {rs : List Tm.Road} {ns : List Str} {S : NS} (N : NetS K H p n rs ns S) : ∀ a ∈ p.all, ∃ o, H a = some o := fun a m => by
  obtain ⟨LG, WT, HT, DD, A, _⟩ := N.ex
  unfold Parts.all at m
  simp only [List.mem_cons, List.mem_append] at m
  rcases m with rfl | rfl | rfl | rfl | m | m
  · exact ⟨_, A.logs.top⟩
  · exact ⟨_, A.wait.top⟩
  · exact ⟨_, A.halt⟩
  · exact ⟨_, A.deed⟩
  · obtain ⟨j, lj, e⟩ := List.mem_iff_getElem.mp m
    exact ⟨_, A.logs.row j a (by rw [List.getElem?_eq_getElem lj, e])⟩
  · obtain ⟨e, he, rfl⟩ := List.mem_map.mp m
    exact ⟨_, A.wait.row e he⟩
theorem fresh_not {H : Hp} {l : List Addr} (h : ∀ a ∈ l, ∃ o, H a = some o) {t : Addr} (ht : H t = none) : t ∉ l := fun m => by
  obtain ⟨o, e⟩ := h t m
  rw [ht] at e
  cases e
theorem flat_app {ds es : List PyData} (h : flatAll ds = true) (k : flatAll es = true) : flatAll (ds ++ es) = true := by
  induction ds with
  | nil => exact k
  | cons d ds ih =>
    simp only [flatAll, Bool.and_eq_true, List.cons_append] at h ⊢
    exact ⟨h.1, ih h.2⟩
/-- told and due, under way -/
structure Tl (H0 H : Hp) (t d : Addr) (D : List PyData) (D' : List PyData) : Prop where
  bm : Bm [t, d] H0 H
  ex : ∃ xs ys, H t = some (.lst xs) ∧ H d = some (.lst ys) ∧ RddAll H xs D ∧ RddAll H ys D'
  f1 : flatAll D = true
  f2 : flatAll D' = true
  ne : t ≠ d
theorem Tl.same {H0 H H' : Hp} {t d : Addr} {D D' : List PyData} (T : Tl H0 H t d D D') (k : Same H H') : Tl H0 H' t d D D' :=
  let ⟨xs, ys, h1, h2, r1, r2⟩ := T.ex
  ⟨T.bm.trans (Bm.of k), ⟨xs, ys, k _ _ h1, k _ _ h2, r1.mono k, r2.mono k⟩, T.f1, T.f2, T.ne⟩
theorem Tl.base {H0 H : Hp} {t d : Addr} {D D' : List PyData} (T : Tl H0 H t d D D') : Tl H H t d D D' := ⟨Bm.of fun _ _ e => e, T.ex, T.f1, T.f2, T.ne⟩
theorem Tl.t {H0 H : Hp} {t d : Addr} {D D' : List PyData} (T : Tl H0 H t d D D') : ∃ xs, H t = some (.lst xs) ∧ xs.length = D.length ∧ RddAll H xs D ∧ ∀ y e, Rdd H y e → flat e = true → Tl H0 (upd H t (.lst (xs ++ [y]))) t d (D ++ [e]) D' := by
  obtain ⟨xs, ys, h1, h2, r1, r2⟩ := T.ex
  refine ⟨xs, h1, rdds_len r1, r1, fun y e r fe => ?_⟩
  have b : Bm [t, d] H (upd H t (.lst (xs ++ [y]))) := Bm.upd h1 List.mem_cons_self
  exact ⟨T.bm.trans b, ⟨_, ys, upd_same, by rw [upd_ne T.ne.symm]; exact h2, rdds_add (rdd_bm b r fe) (rdds_bm b r1 T.f1), rdds_bm b r2 T.f2⟩, flat_app T.f1 (by simp only [flatAll, fe, Bool.and_true]), T.f2, T.ne⟩
theorem Tl.d {H0 H : Hp} {t d : Addr} {D D' : List PyData} (T : Tl H0 H t d D D') : ∃ ys, H d = some (.lst ys) ∧ ys.length = D'.length ∧ RddAll H ys D' ∧ ∀ y e, Rdd H y e → flat e = true → Tl H0 (upd H d (.lst (ys ++ [y]))) t d D (D' ++ [e]) := by
  obtain ⟨xs, ys, h1, h2, r1, r2⟩ := T.ex
  refine ⟨ys, h2, rdds_len r2, r2, fun y e r fe => ?_⟩
  have b : Bm [t, d] H (upd H d (.lst (ys ++ [y]))) := Bm.upd h2 (List.mem_cons_of_mem _ List.mem_cons_self)
  exact ⟨T.bm.trans b, ⟨xs, _, by rw [upd_ne T.ne]; exact h1, upd_same, rdds_bm b r1 T.f1, rdds_add (rdd_bm b r fe) (rdds_bm b r2 T.f2)⟩, T.f1, flat_app T.f2 (by simp only [flatAll, fe, Bool.and_true]), T.ne⟩
theorem roads_of {H : Hp} {R : List Tm.Road} : ∀ {cs : List Addr}, (∀ c ∈ cs, ∃ r ∈ R, H c = some (.tup [.int (r.1 : Nat), .int (r.2 : Nat)])) → ∃ qs : List Tm.Road, qs.length = cs.length ∧ (∀ r ∈ qs, r ∈ R) ∧
    ∀ (i : Nat) (c : Addr), cs[i]? = some c → ∃ r, qs[i]? = some r ∧ H c = some (.tup [.int (r.1 : Nat), .int (r.2 : Nat)])
  | [], _ => ⟨[], rfl, (fun _ h => nomatch h), fun i c h => by simp at h⟩
  | c :: cs, h => by
    obtain ⟨qs, l, m, g⟩ := roads_of fun x hx => h x (List.mem_cons_of_mem _ hx)
    obtain ⟨r, hr, e⟩ := h c List.mem_cons_self
    refine ⟨r :: qs, by simp [l], fun x hx => ?_, fun i x hx => ?_⟩
    · rcases List.mem_cons.mp hx with rfl | hx
      · exact hr
      · exact m x hx
    · cases i with
      | zero =>
        cases hx
        exact ⟨r, rfl, e⟩
      | succ i => exact g i x (by simpa using hx)
theorem bel_of {n a : Nat} (h : a < n) : belowD n (.int (a : Nat)) = true := by
  simp only [belowD, Bool.and_eq_true, decide_eq_true_eq]
  omega
/-- a house that is one -/
theorem One1.int {K : PySem.W.Frag} {H : Hp} {n a : Nat} {E : XK} {W : Nat → Prop} (h : a < n) (k : W a) : One1 K H n (.int (a : Nat)) (.int (a : Nat)) E W :=
  ⟨.int _, (fun no => by rw [bel_of h] at no; cases no), fun b _ e _ => by
    have : a = b := by have := V.int.inj e; omega
    exact this ▸ k⟩
def lgD (S : NS) (n : Nat) : List PyData := (List.range n).map fun h => PyData.tuple ((S.lg h).map lineD)
def wtD (S : NS) (qs : List Tm.Road) : List PyData := qs.map fun r => PyData.tuple ((S.wt r).map lineD)
theorem flat_tl (l : List Line) : flat (.tuple (l.map lineD)) = true := by
  simp only [flat]
  exact flat_line l
def spSame (K : PySem.W.Frag) : Sp := fun vs H Q _ => ∃ (p : LParts) (q : Parts) (n : Nat) (rs : List Tm.Road) (ns : List Str) (S : NS) (bn : Bool), vs = [.ref p.x, .ref q.x, .bl bn] ∧ LNet H p n rs ns S ∧ NetS K H q n rs ns S ∧ NamesOk n ns ∧ Fine n rs S 32 ∧ n ≤ 6 ∧
  ∀ H', Same H H' → Q (.bl true) H'
section
variable {P : Program} {w : World} {K : PySem.W.Frag} {mg : Str → Option Value} {base : Heap} {f : Addr} {fd : FuncData}
theorem ok_same (F : Fd K "_law_same" sSame f fd) (g : mg "_law_same" = some (.ref f)) (B : Bl mg) (hsy : ∃ o, K.lookup sysModules = some o) (CK : NetK K mg) (M : NetM P w K mg base) (PS : PrOk P w K mg base 1 (CN K) "stopped" (spNStp K)) (PD : PrOk P w K mg base 1 (CN K) "script" (spNScr K)) :
    OkG P w K mg base 6 "_law_same" sSame ["net", "network", "named"] (spSame K) := by
  refine ⟨f, fd, g, F, F.bindsN fun _ _ _ _ _ _ us hl => match us, hl with | [_, _, _], _ => rfl, F.okG scSame (fun vs H Q E h => ?_) (fun cdv A outer s H vs Q hgd hr h => ?_)⟩
  · obtain ⟨p, q, n, rs, ns, S, bn, rfl, _⟩ := h
    rfl
  · have hu : (cxOf CX0 P w K mg base ["net", "network", "named", "told", "due", "house", "u", "v"] "_law_same" (defScope sSame) f cdv A outer s H noE).A.units + 64 < cLine := by
      have z := hr.un
      show (A.deeper _).units + 64 < cLine
      omega
    have hu1 : (cxOf CX0 P w K mg base ["net", "network", "named", "told", "due", "house", "u", "v"] "_law_same" (defScope sSame) f cdv A outer s H noE).A.units + 1 < cLine := by omega
    refine ⟨_, (pss_cons (ps_par (i := 3) (j := 4) rfl scSame.nd rfl rfl (by decide) rfl rfl (pa_cons (pe_lst pa_nil) (pa_cons (pe_lst pa_nil) pa_nil)) rfl)
      (pss_cons (ps_for (passes_of rfl) rfl (pi_range1 (by rfl) (B.u "range" (by decide +kernel)) (pa_cons (pe_callB call_len (by rfl) (B.u "len" (by decide +kernel)) boot_len (pa_cons (pe_ix ix_seq (pv 0) pe_int fun _ _ => rfl) pa_nil)) pa_nil)) (pg_name (i := 5) scSame.nd rfl (Or.inl rfl))
        (pss_cons (ps_expr (pe_bm PySem.F.plainAttrs_list PySem.F.slot_list_append PySem.F.type_list_append mt_append (pv 3) (pa_cons (pe_ifExp (pt_val (pv 2)) (pe_mk (E := fun _ => noE) M.logK (pv 1) CK.cl (hr.mono (by decide)) (fun σ => pass_noneN σ) (pk_cons (pv 5) pk_nil)) (pe_me (E := fun _ => noE) M.log (pv 1) CK.cl (hr.mono (by decide)) (fun σ => pass_noneN σ) (pa_cons (pv 5) pa_nil))) pa_nil)))
        (pss_one (ps_expr (pe_bm PySem.F.plainAttrs_list PySem.F.slot_list_append PySem.F.type_list_append mt_append (pv 4) (pa_cons (pe_callTy call_tuple_of (by rfl) (B.u "tuple" (by decide +kernel)) (by decide +kernel) (pa_cons (pe_ix ix_seq (pe_ix ix_seq (pv 0) pe_int fun _ _ => rfl) (pv 5) fun _ _ => rfl) pa_nil)) pa_nil))))))
      (pss_cons (ps_for (passes_of rfl) rfl (pi_list (pe_callB (call_sortedDT (d := 2) (B := 64) (by decide) rfl) (by rfl) (B.u "sorted" (by decide +kernel)) (by decide +kernel) (pa_cons (pe_ix ix_seq (pv 0) pe_int fun _ _ => rfl) pa_nil))) (pg_tup rfl (pgs_cons (pg_name (i := 6) scSame.nd rfl (Or.inl rfl)) (pgs_cons (pg_name (i := 7) scSame.nd rfl (Or.inl rfl)) pgs_nil)))
        (pss_cons (ps_expr (pe_bm PySem.F.plainAttrs_list PySem.F.slot_list_append PySem.F.type_list_append mt_append (pv 3) (pa_cons (pe_ifExp (pt_val (pv 2)) (pe_mk (E := fun _ => noE) M.underK (pv 1) CK.cl (hr.mono (by decide)) (fun σ => pass_noneN σ) (pk_cons (pv 7) (pk_cons (pv 6) pk_nil))) (pe_me (E := fun _ => noE) M.under (pv 1) CK.cl (hr.mono (by decide)) (fun σ => pass_noneN σ) (pa_cons (pv 6) (pa_cons (pv 7) pa_nil)))) pa_nil)))
        (pss_one (ps_expr (pe_bm PySem.F.plainAttrs_list PySem.F.slot_list_append PySem.F.type_list_append mt_append (pv 4) (pa_cons (pe_callTy call_tuple_of (by rfl) (B.u "tuple" (by decide +kernel)) (by decide +kernel) (pa_cons (pe_dget hu1 (pe_ix ix_seq (pv 0) pe_int fun _ _ => rfl) (pe_tup (pa_cons (pv 6) (pa_cons (pv 7) pa_nil))) (fun _ _ => rfl)) pa_nil)) pa_nil))))))
      (pss_cons (ps_set (i := 3) scSame.nd rfl (Or.inl rfl) (pe_op op_cat (pv 3) (pe_lst (pa_cons (pe_pr PS (pv 1) CK.cl (hr.mono (by decide))) (pa_cons (pe_pr PD (pv 1) CK.cl (hr.mono (by decide))) (pa_cons (pe_fld (pv 1) rfl) pa_nil))))))
      (pss_cons (ps_set (i := 4) scSame.nd rfl (Or.inl rfl) (pe_op op_cat (pv 4) (pe_lst (pa_cons (pe_callTy call_tuple_of (by rfl) (B.u "tuple" (by decide +kernel)) (by decide +kernel) (pa_cons (pe_callB (cr_sortedI) (by rfl) (B.u "sorted" (by decide +kernel)) (by decide +kernel) (pa_cons (pe_ix ix_seq (pv 0) pe_int fun _ _ => rfl) pa_nil)) pa_nil)) (pa_cons (pe_callTy call_tuple_of (by rfl) (B.u "tuple" (by decide +kernel)) (by decide +kernel) (pa_cons (pe_ix ix_seq (pv 0) pe_int fun _ _ => rfl) pa_nil)) (pa_cons (pe_callTy call_tuple_of (by rfl) (B.u "tuple" (by decide +kernel)) (by decide +kernel) (pa_cons (pe_ix ix_seq (pv 0) pe_int fun _ _ => rfl) pa_nil)) pa_nil))))))
      (pss_one (ps_ret (pe_cmpR op_eq (pe_callB (call_repr hgd hu hsy) (by rfl) (B.u "repr" (by decide +kernel)) (by decide +kernel) (pa_cons (pv 3) pa_nil)) (pe_callB (call_repr hgd hu hsy) (by rfl) (B.u "repr" (by decide +kernel)) (by decide +kernel) (pa_cons (pv 4) pa_nil)) (nomark _))))))))), ?_⟩
    obtain ⟨p, q, n, rs, ns, S, bn, rfl, N0, M0, nok, G, n6, fin⟩ := h
    refine ⟨two_ln (by show 0 ≤ _; decide), fun t ht => ⟨two_ln (by show 0 ≤ _; decide), fun d hd => ?_⟩⟩
    have k1 := upd_grow (o := .lst []) ht
    have ht1 := upd_same (H := H) (a := t) (o := .lst [])
    generalize upd H t (.lst []) = H1 at k1 ht1 hd ⊢
    have k2 := upd_grow (o := .lst []) hd
    have hd2 := upd_same (H := H1) (a := d) (o := .lst [])
    have ntd : t ≠ d := (ne_of_none ht1 hd)
    have ht2 := k2 _ _ ht1
    generalize upd H1 d (.lst []) = H2 at k2 hd2 ht2 ⊢
    have k02 := k1.trans k2
    have hd0 : H d = none := by
      cases z : H d with
      | none => rfl
      | some o => rw [k1 _ _ z] at hd; cases hd
    have N2 := N0.same k02
    have M2 := M0.same k02
    have fr : ∀ {l : List Addr}, (∀ a ∈ l, ∃ o, H a = some o) → ∀ a ∈ l, a ∉ [t, d] := fun {l} h a m z => by
      rcases List.mem_cons.mp z with rfl | z
      · exact fresh_not h ht m
      · rw [List.mem_singleton.mp z] at m
        exact fresh_not h hd0 m
    have frN := fr N0.some
    have frM := fr M0.some
    have Nb : ∀ {H'}, Bm [t, d] H2 H' → LNet H' p n rs ns S := fun k => N2.bm k frN
    have Mb : ∀ {H'}, Bm [t, d] H2 H' → NetS K H' q n rs ns S := fun k => M2.bm k frM
    have T0 : Tl H2 H2 t d (lgD S 0) (lgD S 0) := ⟨Bm.of fun _ _ e => e, ⟨[], [], ht2, hd2, .nil, .nil⟩, rfl, rfl, ntd⟩
    have end_ : ∀ {H'}, Bm [t, d] H2 H' → Same H H' := fun {H'} b a o e => b a o (fun _ m => by
      rcases List.mem_cons.mp m with rfl | m
      · rw [ht] at e; cases e
      · rw [List.mem_singleton.mp m, hd0] at e; cases e) (k02 _ _ e)
    dsimp only [gName, gNil, tNil, L2.start]
    refine ⟨_, _, rfl, ?_⟩
    refine tSeq_by (fun σ H' => Tl H2 H' t d (lgD S n) (lgD S n) ∧ ∃ z : Option V, σ = [some (.ref p.x), some (.ref q.x), some (.bl bn), some (.ref t), some (.ref d), z, none, none]) ?_ fun rest => ?_
    · rintro σ H3 ⟨T3, z, rfl⟩
      have N3 := Nb T3.bm
      have M3 := Mb T3.bm
      obtain ⟨LG, WT, S1, S2, _, _⟩ := N3.ex
      have ltab : (tabV p.tab).length = (both rs).length := by
        have := N3.keys.length_eq
        rw [List.length_map, List.length_map] at this
        unfold tabV
        rw [List.length_map, this]
      have lrs := N3.ok.len
      have lboth : (both rs).length ≤ 10 := by
        unfold both
        rw [List.length_append, List.length_map]
        omega
      have keyR : ∀ k ∈ (tabV p.tab).map (·.1), ∃ r ∈ both rs, k = rk r := fun k mk => by
        unfold tabV at mk
        rw [List.map_map] at mk
        obtain ⟨r, hr, e⟩ := List.mem_map.mp (N3.keys.mem_iff.mp (show k ∈ p.tab.map (·.1) from mk))
        exact ⟨r, hr, e.symm⟩
      have rbnd : ∀ r ∈ both rs, r.1 < n ∧ r.2 < n := fun r hr => by
        unfold both at hr
        rcases List.mem_append.mp hr with hr | hr
        · have := N3.ok.bnd _ hr
          omega
        · obtain ⟨r', hr', rfl⟩ := List.mem_map.mp hr
          have := N3.ok.bnd _ hr'
          simp only
          omega
      refine tSeq_by (fun σ H' => ∃ qs : List Tm.Road, (∀ r ∈ qs, r ∈ both rs) ∧ qs.length ≤ 10 ∧ Bm [t, d] H2 H' ∧ Tl H' H' t d (lgD S n ++ wtD S qs) (lgD S n ++ wtD S qs) ∧ ∃ z1 z2 z3 : Option V, σ = [some (.ref p.x), some (.ref q.x), some (.bl bn), some (.ref t), some (.ref d), z1, z2, z3]) ?_ fun rest => ?_
      · rintro σ H5 ⟨qs, mq, lq, b5, T5, z1, z2, z3, rfl⟩
        have N5 := Nb b5
        have M5 := Mb b5
        obtain ⟨⟨dx, hx⟩, _⟩ := M5.xt
        obtain ⟨hnm, _⟩ := M5.named
        refine ⟨_, rfl, _, rfl, q.x, dx, _, rfl, hx, q, n, rs, ns, S, rfl, M5, Nat.lt_of_le_of_lt G.few.h (by decide), fun ks tt H6 pm srt k6 htt => ?_⟩
        have M6 := M5.same k6
        have hx6 := k6 _ _ hx
        refine ⟨_, rfl, q.x, dx, _, rfl, hx6, q, n, rs, ns, S, rfl, M6, fun t2 H7 k7 r7 => ?_⟩
        have hx7 := k7 _ _ hx6
        refine ⟨_, rfl, _, _, _, _, _, rfl, hx7, CK.cl, CK.nnames, rfl, two_ln (by show 3 ≤ _; decide), fun pl hpl => ?_⟩
        have k8 := upd_grow (o := .lst [V.ref tt, V.ref t2, V.ref q.nm]) hpl
        have hpl1 := upd_same (H := H7) (a := pl) (o := .lst [V.ref tt, V.ref t2, V.ref q.nm])
        generalize upd H7 pl (.lst [V.ref tt, V.ref t2, V.ref q.nm]) = H8 at k8 hpl1 ⊢
        have k58 := k6.trans (k7.trans k8)
        have T8 := T5.same k58
        obtain ⟨xs, htx, lxs, rxs, _⟩ := T8.t
        have lD : (lgD S n ++ wtD S qs).length ≤ 16 := by
          unfold lgD wtD
          rw [List.length_append, List.length_map, List.length_map, List.length_range]
          omega
        refine ⟨t, pl, xs, _, rfl, rfl, htx, hpl1, two_ln (by simp only [List.length_cons, List.length_nil]; omega), fun pd hpd => ?_⟩
        have k9 := upd_grow (o := .lst (xs ++ [V.ref tt, V.ref t2, V.ref q.nm])) hpd
        have hpd1 := upd_same (H := H8) (a := pd) (o := .lst (xs ++ [V.ref tt, V.ref t2, V.ref q.nm]))
        generalize upd H8 pd (.lst (xs ++ [V.ref tt, V.ref t2, V.ref q.nm])) = H9 at k9 hpd1 ⊢
        have rint : ∀ {H' : Hp} (ks : List Int), RddAll H' (ks.map V.int) (ks.map PyData.int) := fun {H'} ks => by
          induction ks with
          | nil => exact .nil
          | cons x ks ih => exact .cons (.int _) ih
        have rstr : ∀ {H' : Hp} (ks : List Str), RddAll H' (ks.map V.str) (ks.map PyData.str) := fun {H'} ks => by
          induction ks with
          | nil => exact .nil
          | cons x ks ih => exact .cons (.str _) ih
        have rTold : Rdd H9 (.ref pd) (.list (sameD n ns S qs ks)) := by
          refine .lst hpd1 (rdds_app (rxs.mono k9) (.cons ?_ (.cons ?_ (.cons ?_ .nil))))
          · exact .tup ((k7.trans (k8.trans k9)) _ _ htt) (rint ks)
          · exact r7.mono (k8.trans k9)
          · exact .tup ((k58.trans k9) _ _ hnm) (rstr ns)
        have b9 : Bm [t, d] H2 H9 := b5.trans (Bm.of (k58.trans k9))
        have N9 := Nb b9
        have ehl : natV S.ht = (S.ht.map fun x : Nat => (x : Int)).map V.int := by
          unfold natV
          rw [List.map_map]
          rfl
        refine ⟨_, rfl, _, rfl, ixAt N9.x (by rfl) ⟨p.ht, S.ht.map fun x : Nat => (x : Int), rfl, SqL.of (ehl ▸ N9.ht), fun ks2 ps pm2 srt2 hps => ?_⟩⟩
        obtain rfl : ks2 = ks := sorted_eq (pm2.trans pm.symm) srt2 srt
        have ka := upd_grow (o := .lst (ks2.map V.int)) hps
        have hps1 := upd_same (H := H9) (a := ps) (o := .lst (ks2.map V.int))
        generalize upd H9 ps (.lst (ks2.map V.int)) = HA at ka hps1 ⊢
        refine ⟨ps, _, rfl, .inl ⟨SqL.of hps1, fun ta hta => ?_⟩⟩
        have kb := upd_grow (o := .tup (ks2.map V.int)) hta
        have hta1 := upd_same (H := HA) (a := ta) (o := .tup (ks2.map V.int))
        generalize upd HA ta (.tup (ks2.map V.int)) = HB at kb hta1 ⊢
        have NB := N9.same (ka.trans kb)
        obtain ⟨ds, hds, rds, _⟩ := NB.deed
        refine ⟨_, rfl, ixAt NB.x (by rfl) ⟨p.dd, ds, rfl, .inl ⟨SqL.of hds, fun tb htb => ?_⟩⟩⟩
        have kc := upd_grow (o := .tup ds) htb
        have htb1 := upd_same (H := HB) (a := tb) (o := .tup ds)
        generalize upd HB tb (.tup ds) = HC at kc htb1 ⊢
        have NC := NB.same kc
        refine ⟨_, rfl, ixAt NC.x (by rfl) ⟨p.nm, _, rfl, .inl ⟨SqL.of NC.nm, fun tc htc => ?_⟩⟩⟩
        have kd := upd_grow (o := .tup (ns.map V.str)) htc
        have htc1 := upd_same (H := HC) (a := tc) (o := .tup (ns.map V.str))
        generalize upd HC tc (.tup (ns.map V.str)) = HD at kd htc1 ⊢
        refine ⟨two_ln (by show 3 ≤ _; decide), fun pe hpe => ?_⟩
        have ke := upd_grow (o := .lst [V.ref ta, V.ref tb, V.ref tc]) hpe
        have hpe1 := upd_same (H := HD) (a := pe) (o := .lst [V.ref ta, V.ref tb, V.ref tc])
        generalize upd HD pe (.lst [V.ref ta, V.ref tb, V.ref tc]) = HE at ke hpe1 ⊢
        have k9E : Same H9 HE := ka.trans (kb.trans (kc.trans (kd.trans ke)))
        obtain ⟨ys, hdy, lys, rys, _⟩ := (T8.same (k9.trans k9E)).d
        refine ⟨d, pe, ys, _, rfl, rfl, hdy, hpe1, two_ln (by simp only [List.length_cons, List.length_nil]; omega), fun pf hpf => ?_⟩
        have kf := upd_grow (o := .lst (ys ++ [V.ref ta, V.ref tb, V.ref tc])) hpf
        have hpf1 := upd_same (H := HE) (a := pf) (o := .lst (ys ++ [V.ref ta, V.ref tb, V.ref tc]))
        generalize upd HE pf (.lst (ys ++ [V.ref ta, V.ref tb, V.ref tc])) = HF at kf hpf1 ⊢
        have rDue : Rdd HF (.ref pf) (.list (sameD n ns S qs ks2)) := by
          refine .lst hpf1 (rdds_app (rys.mono kf) (.cons ?_ (.cons ?_ (.cons ?_ .nil))))
          · exact .tup ((kc.trans (kd.trans (ke.trans kf))) _ _ hta1) (rint ks2)
          · exact .tup ((kd.trans (ke.trans kf)) _ _ htb1) (rds.mono (kc.trans (kd.trans (ke.trans kf))))
          · exact .tup ((ke.trans kf) _ _ htc1) (rstr ns)
        have tm : Tame (.list (sameD n ns S qs ks2)) := sameD_nc n6 nok G mq lq (fun k mk => by
          obtain ⟨x, hx, e⟩ := List.mem_map.mp (pm.mem_iff.mp mk)
          exact ⟨x, G.ht x hx, e.symm⟩) (by rw [pm.length_eq, List.length_map]; exact G.few.h)
        refine ⟨_, rfl, _, _, rfl, rTold.mono (k9E.trans kf), tm.s, tm.h, tm.len, _, rfl, _, _, rfl, rDue, tm.s, tm.h, tm.len, rfl, ?_⟩
        rw [decide_eq_true rfl]
        exact fin _ (end_ (b9.trans (Bm.of (k9E.trans kf))))
      refine ⟨_, rfl, ixAt N3.x (by rfl) ⟨p.wt, tabV p.tab, rfl, .inl S2.top, by omega, fun k mk => ?_, fun pl bs cs hpl ik pc => ?_⟩⟩
      · obtain ⟨r, hr, rfl⟩ := keyR k mk
        have := rbnd r hr
        refine ⟨[(r.1 : Int), (r.2 : Int)], rfl, rfl, fun m hm => ?_⟩
        simp only [List.mem_cons, List.not_mem_nil, or_false] at hm
        rcases hm with rfl | rfl <;> omega
      · have lcs : cs.length ≤ 10 := by
          have h1 := pc.length_eq
          have h2 : (tabV p.tab).length = bs.length := Paired.length ik
          omega
        obtain ⟨qs, lq, mq, gq⟩ := roads_of (H := H3) (R := both rs) (cs := cs) fun c hc => by
          obtain ⟨k, mk, e⟩ := isKeys_perm_of ik c (pc.mem_iff.mp hc)
          obtain ⟨r, hr, rfl⟩ := keyR k mk
          exact ⟨r, hr, e⟩
        have kl := upd_grow (o := .lst (cs.map V.ref)) hpl
        have hpl1 := upd_same (H := H3) (a := pl) (o := .lst (cs.map V.ref))
        have npl : pl ∉ [t, d] := fun m => by
          obtain ⟨xs, ys, e1, e2, _⟩ := T3.ex
          rcases List.mem_cons.mp m with rfl | m
          · rw [e1] at hpl; cases hpl
          · rw [List.mem_singleton.mp m, e2] at hpl; cases hpl
        generalize upd H3 pl (.lst (cs.map V.ref)) = H4 at kl hpl1 ⊢
        have T4 := (T3.same kl).base
        have b24 := T3.bm.trans (Bm.of kl)
        refine ⟨pl, rfl, ⟨_, SqL.of hpl1⟩, for_it (walk_list (xs := cs.map V.ref)) (fun i σ H' => Tl H4 H' t d (lgD S n ++ wtD S (qs.take i)) (lgD S n ++ wtD S (qs.take i)) ∧ ∃ z1 z2 z3 : Option V, σ = [some (.ref p.x), some (.ref q.x), some (.bl bn), some (.ref t), some (.ref d), z1, z2, z3]) ?_ (fun i σ H' _ z => ?_) ?_ ?_⟩
        · refine ⟨?_, _, _, _, rfl⟩
          rw [show lgD S n ++ wtD S (qs.take 0) = lgD S n by simp [wtD]]
          exact T4
        · exact SqL.of (z.1.bm.lst npl hpl1)
        · rintro i x σ H5 H6 hi ⟨T5, z1, z2, z3, rfl⟩ ⟨rfl, hx2⟩
          have hi2 : i < cs.length := by rw [List.length_map] at hi; exact hi
          rw [List.getElem?_map, List.getElem?_eq_getElem hi2] at hx2
          obtain rfl : V.ref cs[i] = x := Option.some.inj hx2
          obtain ⟨r, hqr, hcr⟩ := gq i cs[i] (List.getElem?_eq_getElem hi2)
          have mr := mq r (List.mem_of_getElem? hqr)
          have hc5 := T5.bm.tup (kl _ _ hcr)
          have eqs : qs.take (i + 1) = qs.take i ++ [r] := by
            obtain ⟨h, e⟩ := List.getElem?_eq_some_iff.mp hqr
            rw [List.take_succ_eq_append_getElem h, e]
          have bnd := rbnd r mr
          have lqi : (qs.take i).length ≤ 10 := by rw [List.length_take]; omega
          generalize cs[i] = c at hc5
          obtain ⟨u, v⟩ := r
          have N6 := Nb (b24.trans T5.bm)
          have M6 := Mb (b24.trans T5.bm)
          have lD : (lgD S n ++ wtD S (qs.take i)).length ≤ 16 := by
            unfold lgD wtD
            rw [List.length_append, List.length_map, List.length_map, List.length_range]
            omega
          refine ⟨c, _, rfl, SqT.of hc5, rfl, _, _, rfl, _, _, rfl, rfl, ?_⟩
          obtain ⟨⟨dx, hx⟩, _⟩ := M6.xt
          obtain ⟨xs, htx, lxs, _, _⟩ := T5.t
          have key : ∀ Qx : VK, (∀ l H4, Same H6 H4 → Rdd H4 (.ref l) (.tuple ((S.wt (u, v)).map lineD)) → Qx (.ref l) H4) → spNUnder K [.ref q.x, .int (u : Nat), .int (v : Nat)] H6 Qx noE := fun Qx h =>
            ⟨q, n, rs, ns, S, _, _, .int (u : Nat), .int (v : Nat), rfl, M6, One1.int bnd.1 (One1.int bnd.2 ⟨fun nb => absurd ((near_of_both N6.ok).mp mr) nb, fun _ l H4 k4 r4 => h l H4 k4 r4⟩)⟩
          refine ⟨_, rfl, .inl ⟨rfl, _, SqL.of htx⟩, _, rfl, bn, rfl, iteB (fun _ => ⟨_, rfl, q.x, dx, _, rfl, hx, rfl, _, rfl, _, rfl, rfl, ?_⟩) fun _ => ⟨_, rfl, q.x, dx, _, rfl, hx, rfl, _, rfl, _, rfl, ?_⟩⟩
          all_goals first | refine key _ ?_ | (dsimp only [tNil]; refine key _ ?_)
          all_goals
            intro l H7 k7 r7
            have T7 := T5.same k7
            obtain ⟨xs7, htx7, lxs7, _, push7⟩ := T7.t
            refine ⟨t, xs7, _, rfl, rfl, htx7, lt_ln (by omega), ?_⟩
            have T8 := push7 (.ref l) _ r7 (flat_tl _)
            generalize upd H7 t (.lst (xs7 ++ [V.ref l])) = H8 at T8 ⊢
            have N8 := Nb (b24.trans T8.bm)
            obtain ⟨ys8, hdy8, lys8, _, _⟩ := T8.d
            refine ⟨_, rfl, .inl ⟨rfl, _, SqL.of hdy8⟩, _, rfl, ixAt N8.x (by rfl) ⟨_, rfl, _, rfl, two_ln (by show 2 ≤ _; decide), fun pt hpt => ?_⟩⟩
            have k9 := upd_grow (o := .tup [V.int (u : Nat), V.int (v : Nat)]) hpt
            have hpt1 := upd_same (H := H8) (a := pt) (o := .tup [V.int (u : Nat), V.int (v : Nat)])
            generalize upd H8 pt (.tup [V.int (u : Nat), V.int (v : Nat)]) = H9 at k9 hpt1 ⊢
            have T9 := T8.same k9
            have N9 := N8.same k9
            obtain ⟨aw, ws, htop, hv, hlw, rw_, _⟩ := N9.way mr
            have d2 : DGet H9 p.wt (.ref pt) (valV (tabV p.tab) (rk (u, v))) := DGet.t htop hpt1
            rw [hv] at d2
            refine ⟨_, _, rfl, d2, aw, ws, rfl, .inl ⟨SqL.of hlw, fun t5 ht5 => ?_⟩⟩
            have ka := upd_grow (o := .tup ws) ht5
            have r5 : Rdd (upd H9 t5 (.tup ws)) (.ref t5) (.tuple ((S.wt (u, v)).map lineD)) := .tup upd_same (rw_.mono ka)
            generalize upd H9 t5 (.tup ws) = HA at ka r5 ⊢
            obtain ⟨ysA, hdyA, lysA, _, pushA⟩ := (T9.same ka).d
            refine ⟨d, ysA, _, rfl, rfl, hdyA, lt_ln (by omega), ?_⟩
            have TB := pushA (.ref t5) _ r5 (flat_tl _)
            refine ⟨?_, _, _, _, rfl⟩
            rw [eqs, show wtD S (qs.take i ++ [(u, v)]) = wtD S (qs.take i) ++ [.tuple ((S.wt (u, v)).map lineD)] by simp [wtD], ← List.append_assoc]
            exact TB
        · rintro σ H5 ⟨T5, z1, z2, z3, rfl⟩
          have e : qs.take (cs.map V.ref).length = qs := by rw [List.length_map, ← lq, List.take_length]
          rw [e] at T5
          exact rest _ _ ⟨qs, mq, by omega, b24.trans T5.bm, T5.base, _, _, _, rfl⟩
    · refine ⟨_, rfl, ixAt N2.x (by rfl) ?_⟩
      have lnm : (ns.map V.str).length = n := by rw [List.length_map, nok.len]
      refine ⟨_, _, rfl, .inl ⟨_, SqL.of N2.nm, rfl⟩, _, rfl, ?_⟩
      rw [lnm]
      refine ⟨by omega, by omega, for_range (n := n) (fun i σ H' => Tl H2 H' t d (lgD S i) (lgD S i) ∧ ∃ z : Option V, σ = [some (.ref p.x), some (.ref q.x), some (.bl bn), some (.ref t), some (.ref d), z, none, none]) ⟨T0, _, rfl⟩ ?_ ?_⟩
      · rintro i σ H3 hi ⟨T3, z, rfl⟩
        have e0 : (0 : Int) + i = (i : Nat) := by omega
        rw [e0]
        have N3 := Nb T3.bm
        have M3 := Mb T3.bm
        obtain ⟨⟨dx, hx⟩, _⟩ := M3.xt
        have lD : (lgD S i).length ≤ 6 := by
          unfold lgD
          rw [List.length_map, List.length_range]
          omega
        obtain ⟨xs, htx, lxs, _, _⟩ := T3.t
        have key : ∀ Qx : VK, (∀ l H4, Same H3 H4 → Rdd H4 (.ref l) (.tuple ((S.lg i).map lineD)) → Qx (.ref l) H4) → spNLog K [.ref q.x, .int (i : Nat)] H3 Qx noE := fun Qx h =>
          ⟨q, n, rs, ns, S, _, .int (i : Nat), rfl, M3, One1.int hi fun l H4 k4 r4 => h l H4 k4 r4⟩
        refine ⟨_, rfl, .inl ⟨rfl, _, SqL.of htx⟩, _, rfl, bn, rfl, iteB (fun _ => ⟨_, rfl, q.x, dx, _, rfl, hx, rfl, _, rfl, rfl, ?_⟩) fun _ => ⟨_, rfl, q.x, dx, _, rfl, hx, rfl, _, rfl, ?_⟩⟩
        all_goals first | refine key _ ?_ | (dsimp only [tNil]; refine key _ ?_)
        all_goals
          intro l H4 k4 r4
          have T4 := T3.same k4
          obtain ⟨xs4, htx4, lxs4, _, push4⟩ := T4.t
          refine ⟨t, xs4, _, rfl, rfl, htx4, lt_ln (by omega), ?_⟩
          have T5 := push4 (.ref l) _ r4 (flat_tl _)
          generalize upd H4 t (.lst (xs4 ++ [V.ref l])) = H5 at T5 ⊢
          have N5 := Nb T5.bm
          obtain ⟨ys5, hdy5, lys5, _, _⟩ := T5.d
          obtain ⟨a, ws, ha, htop, hl, rx, _⟩ := N5.log hi
          refine ⟨_, rfl, .inl ⟨rfl, _, SqL.of hdy5⟩, _, rfl, ixAt N5.x (by rfl) ⟨_, rfl, ixAt htop (atI_nat (by rw [List.getElem?_map, ha]; rfl)) ⟨a, ws, rfl, .inl ⟨SqL.of hl, fun t5 ht5 => ?_⟩⟩⟩⟩
          have ka := upd_grow (o := .tup ws) ht5
          have r5 : Rdd (upd H5 t5 (.tup ws)) (.ref t5) (.tuple ((S.lg i).map lineD)) := .tup upd_same (rx.mono ka)
          generalize upd H5 t5 (.tup ws) = H6 at ka r5 ⊢
          obtain ⟨ys6, hdy6, lys6, _, push6⟩ := (T5.same ka).d
          refine ⟨d, ys6, _, rfl, rfl, hdy6, lt_ln (by omega), ?_⟩
          have T7 := push6 (.ref t5) _ r5 (flat_tl _)
          refine ⟨?_, _, rfl⟩
          rw [show lgD S (i + 1) = lgD S i ++ [.tuple ((S.lg i).map lineD)] by simp [lgD, List.range_succ]]
          exact T7
      · rintro σ H3 ⟨T3, z, rfl⟩
        exact rest _ _ ⟨T3, _, rfl⟩
end
end K04

/-! a comprehension of which some items are taken -/
namespace L2
open PySem PySem.Spec PyProof.Rows
theorem lc_some {J : It} {n : Nat} {G : Hp → Prop} {Y : Nat → Hp → V → Hp → Prop} (w : Walk J n G Y) {g : TG} {tt : TT} {te : TE} {vs : List Nat} {σ : St} {H : Hp} {D : Addr} {Qd : Hp → Prop} (R : V → Hp → Prop)
    (Rm : ∀ y H1 H2, Same H1 H2 → R y H1 → R y H2) (hD : H D = none) (hn : n ≤ 16777215) (hG : ∀ H', Same H (del H' D) → G H')
    (he : ∀ i x H1 H2 (K : V → Hp → Prop) (N : Hp → Prop), i < n → Same H (del H1 D) → (∃ zs, H1 D = some (.lst zs)) → Y i H1 x H2 → (∀ y H4, Same H1 H4 → R y (del H4 D) → K y H4) → (∀ H4, Same H1 H4 → N H4) →
      g x (wipe σ vs) H2 fun σ2 H2' => wipe σ2 vs = wipe σ vs ∧ tt σ2 H2' fun b H3 => if b = true then te σ2 H3 K else N H3)
    (q : ∀ (ys : List V) (H' : Hp), Same H (del H' D) → H' D = some (.lst ys) → ys.length ≤ n → (∀ y ∈ ys, R y (del H' D)) → Qd H') :
    ∃ W : Nat → Nat → Hp → Prop, (∃ m, W 0 m (upd H D (.lst []))) ∧ ∀ i m H, W i m H →
      (J.stop i H ∧ Qd H) ∨ (J.go i H ∧ ∃ Nx : Hp → Prop, (∀ H', Nx H' → ∃ m', m' < m ∧ W (i + 1) m' H') ∧ ∀ x H', J.yld i H x H' → g x (wipe σ vs) H' fun σ2 H2 => wipe σ2 vs = wipe σ vs ∧ tt σ2 H2 fun b H3 =>
        if b = true then te σ2 H3 fun y H4 => ∃ acc, H4 D = some (.lst acc) ∧ acc.length < sizeLine ∧ Nx (upd H4 D (.lst (acc ++ [y]))) else Nx H3) := by
  refine lc_it w (fun i H' => Same H (del H' D) ∧ ∃ ys, H' D = some (.lst ys) ∧ ys.length ≤ i ∧ ∀ y ∈ ys, R y (del H' D)) ?_ (fun i H' _ h => hG H' h.1) ?_ ?_
  · refine ⟨fun b o e => ?_, [], upd_same, Nat.le_refl _, fun y h => nomatch h⟩
    rw [del_ne (ne_of_none e hD), upd_ne (ne_of_none e hD)]
    exact e
  · rintro i x H1 H2 hi ⟨k1, ys, h1, l1, r1⟩ hy
    have sub : ∀ {H4}, Same H1 H4 → Same H (del H4 D) := fun {H4} k4 b o z => by
      have z1 := k1 b o z
      have nb : b ≠ D := ne_of_none z hD
      rw [del_ne nb] at z1 ⊢
      exact k4 _ _ z1
    refine he i x H1 H2 _ _ hi k1 ⟨_, h1⟩ hy (fun y H4 k4 r4 => ?_) (fun H4 k4 => ?_)
    · have dd : del (upd H4 D (.lst (ys ++ [y]))) D = del H4 D := by
        funext b
        by_cases nb : b = D
        · rw [nb, del_same, del_same]
        · rw [del_ne nb, del_ne nb, upd_ne nb]
      refine ⟨ys, k4 _ _ h1, lt_ln (by omega), ?_, _, upd_same, ?_, fun z hz => ?_⟩
      · rw [dd]
        exact sub k4
      · rw [List.length_append]
        exact Nat.succ_le_succ l1
      · rw [dd]
        rcases List.mem_append.mp hz with hz | hz
        · exact Rm _ _ _ (del_mono k4) (r1 z hz)
        · rw [List.mem_singleton.mp hz]
          exact r4
    · exact ⟨sub k4, ys, k4 _ _ h1, Nat.le_succ_of_le l1, fun z hz => Rm _ _ _ (del_mono k4) (r1 z hz)⟩
  · rintro H' ⟨k, ys, h, l, r⟩
    exact q ys H' k h l r
end L2

namespace K04
open PySem PySem.Spec PyProof.Rows L2 Tn TL
abbrev sDeed : Stmt := top 54
theorem scDeed : FnScope ["box", "net", "texts", "turn", "plan", "kind", "house", "text", "full", "road", "halted", "awake", "some"] ["box", "net", "texts", "turn", "plan"] (defScope sDeed) := ⟨rfl, rfl, rfl, by decide +kernel, rfl, by decide +kernel, by decide +kernel⟩
/-- a road, one of both ways -/
def Rl (rs : List Tm.Road) (y : V) (H : Hp) : Prop := ∃ (c : Addr) (r : Tm.Road), y = .ref c ∧ r ∈ both rs ∧ H c = some (.tup [.int (r.1 : Nat), .int (r.2 : Nat)])
theorem Rl.mono {rs : List Tm.Road} {y : V} {H H' : Hp} (k : Same H H') (h : Rl rs y H) : Rl rs y H' :=
  let ⟨c, r, e, m, z⟩ := h
  ⟨c, r, e, m, k _ _ z⟩
theorem Rl.but {rs : List Tm.Road} {y : V} {H H' : Hp} {b : Addr} {l : List V} (hb : H b = some (.lst l)) (k : But b H H') (h : Rl rs y H) : Rl rs y H' :=
  let ⟨c, r, e, m, z⟩ := h
  ⟨c, r, e, m, k _ _ (fun x => by rw [x, hb] at z; cases z) z⟩
theorem Rl.del {rs : List Tm.Road} {y : V} {H : Hp} {D : Addr} (h : Rl rs y (del H D)) : Rl rs y H :=
  let ⟨c, r, e, m, z⟩ := h
  ⟨c, r, e, m, del_le _ _ z⟩
theorem both_bnd {n : Nat} {rs : List Tm.Road} (ok : Tm.RoadsOk n rs) {r : Tm.Road} (hr : r ∈ both rs) : r.1 < n ∧ r.2 < n := by
  unfold both at hr
  rcases List.mem_append.mp hr with hr | hr
  · have := ok.bnd _ hr
    omega
  · obtain ⟨r', hr', rfl⟩ := List.mem_map.mp hr
    have := ok.bnd _ hr'
    simp only
    omega
theorem rl_data {rs : List Tm.Road} {H : Hp} : ∀ {hs : List V}, (∀ y ∈ hs, Rl rs y H) → ∃ qs : List Tm.Road, RddAll H hs (qs.map rd)
  | [], _ => ⟨[], .nil⟩
  | y :: hs, h => by
    obtain ⟨qs, r⟩ := rl_data fun x hx => h x (List.mem_cons_of_mem _ hx)
    obtain ⟨c, q, rfl, _, e⟩ := h y List.mem_cons_self
    exact ⟨q :: qs, .cons (.tup e (.cons (.int _) (.cons (.int _) .nil))) r⟩
theorem rd_shaped (r : Tm.Road) : SeqAt.shaped (rd r) = true := by
  unfold SeqAt.shaped rd
  simp [PyData.canLay0, PyData.canLayAll0, PyData.depth, PyData.depthAll]
theorem rds_shaped2 (qs : List Tm.Road) : SeqAt.shaped (.list (qs.map rd)) = true := by
  unfold SeqAt.shaped
  have a : PyData.canLayAll0 (qs.map rd) = true ∧ PyData.depthAll (qs.map rd) ≤ 1 := by
    induction qs with
    | nil => exact ⟨rfl, Nat.zero_le _⟩
    | cons r rs ih =>
      refine ⟨?_, ?_⟩
      · have := ih.1
        simp only [List.map_cons, PyData.canLayAll0, PyData.canLay0, rd, this, Bool.and_true]
      · have := ih.2
        simp only [List.map_cons, PyData.depthAll, PyData.depth, rd]
        omega
  have c : (PyData.list (qs.map rd)).canLay0 = true := by simpa [PyData.canLay0] using a.1
  rw [c, Bool.true_and]
  apply decide_eq_true
  simp only [PyData.depth]
  have := a.2
  omega
/-- what may be drawn -/
inductive Plain (n : Nat) : Wd → V → V → Prop
  | make {a : Nat} {z : Str} (h1 : a < n) (h2 : textS z = true) : Plain n .make (.int a) (.str z)
  | stop {a : Nat} (h1 : a < n) : Plain n .stop (.int a) .non
  | hand {a b : Nat} (h1 : a < n) (h2 : b < n) : Plain n .hand (.int a) (.int b)
  | lose {a b : Nat} (h1 : a < n) (h2 : b < n) : Plain n .lose (.int a) (.int b)
def spDeed : Sp := fun vs H Q _ => ∃ (b : Addr) (p : LParts) (n : Nat) (rs : List Tm.Road) (ns : List Str) (S : NS) (tx : Addr) (ts : List Str) (turn plan c : Nat), vs = [.ref b, .ref p.x, .ref tx, .int turn, .int plan] ∧ BoxAt H b c ∧ c + 4 < 1000 ∧ LNet H p n rs ns S ∧ b ∉ p.all ∧ 1 ≤ n ∧ n ≤ 6 ∧ S.ht.length ≤ 64 ∧
  H tx = some (.lst (ts.map V.str)) ∧ tx ≠ b ∧ ts.length = 6 ∧ (∀ z ∈ ts, textS z = true) ∧
  ∀ l H' w v1 v2, But b H H' → BoxAt H' b (c + 4) → H l = none → H' l = some (.lst [.str (Wd.s w), v1, v2]) → Plain n w v1 v2 → Q (.ref l) H'
section
variable {P : Program} {w : World} {K : PySem.W.Frag} {mg : Str → Option Value} {base : Heap} {f : Addr} {fd : FuncData}
theorem ok_deed (F : Fd K "_law_deed" sDeed f fd) (g : mg "_law_deed" = some (.ref f)) (B : Bl mg) (o_law_take : Ok P w K mg base CX0 1 "_law_take" sTake ["box", "many"] spDraw1) : Ok P w K mg base CX0 2 "_law_deed" sDeed ["box", "net", "texts", "turn", "plan"] spDeed := by
  refine ⟨f, fd, g, F, F.bindsN fun _ _ _ _ _ _ us hl => match us, hl with | [_, _, _, _, _], _ => rfl, F.ok scDeed (fun vs H Q E h => ?_) (fun cdv A outer s H vs Q E hr h => ?_)⟩
  · obtain ⟨b, p, n, rs, ns, S, tx, ts, turn, plan, c, rfl, _⟩ := h
    rfl
  · have hu5 : (cxOf CX0 P w K mg base ["box", "net", "texts", "turn", "plan", "kind", "house", "text", "full", "road", "halted", "awake", "some"] "_law_deed" (defScope sDeed) f cdv A outer s H E).A.units + 65 < cLine := by
      have z := hr.un
      show (A.deeper _).units + 65 < cLine
      omega
    have hu1 : (cxOf CX0 P w K mg base ["box", "net", "texts", "turn", "plan", "kind", "house", "text", "full", "road", "halted", "awake", "some"] "_law_deed" (defScope sDeed) f cdv A outer s H E).A.units + 1 < cLine := by omega
    have hu : (cxOf CX0 P w K mg base ["box", "net", "texts", "turn", "plan", "kind", "house", "text", "full", "road", "halted", "awake", "some"] "_law_deed" (defScope sDeed) f cdv A outer s H E).A.units + 64 < cLine := by omega
    refine ⟨_, (pss_cons (ps_par3 (i := 5) (j := 6) (l := 7) rfl scDeed.nd rfl rfl rfl (by decide) (by decide) (by decide) rfl rfl rfl (pa_cons (pe_o o_law_take (hr.mono (by decide)) (by rfl) (pa_cons (pv 0) (pa_cons pe_int pa_nil))) (pa_cons (pe_o o_law_take (hr.mono (by decide)) (by rfl) (pa_cons (pv 0) (pa_cons (pe_callB call_len (by rfl) (B.u "len" (by decide +kernel)) boot_len (pa_cons (pe_ix ix_seq (pv 1) pe_int fun _ _ => rfl) pa_nil)) pa_nil))) (pa_cons (pe_ix ix_seq (pv 2) (pe_o o_law_take (hr.mono (by decide)) (by rfl) (pa_cons (pv 0) (pa_cons (pe_callB call_len (by rfl) (B.u "len" (by decide +kernel)) boot_len (pa_cons (pv 2) pa_nil)) pa_nil))) fun _ _ => rfl) pa_nil))) rfl)
      (pss_cons (ps_setLc (i := 8) (own := [("road", 9)]) (g := gName 9) rfl scDeed.nd rfl rfl (sw_true rfl rfl rfl (by decide +kernel)) (pi_list (pe_callB (call_sortedDT (d := 2) (B := 64) (by decide) rfl) (by rfl) (B.u "sorted" (by decide +kernel)) (by decide +kernel) (pa_cons (pe_ix ix_seq (pv 1) pe_int fun _ _ => rfl) pa_nil))) (blkOk_by (N := ["box", "net", "texts", "turn", "plan", "kind", "house", "text", "full", "road", "halted", "awake", "some"]) (sc := defScope sDeed) (by decide +kernel)) (fun _ _ _ _ _ => (pg_name (i := 9) scDeed.nd rfl (Or.inl rfl))) (fun _ _ _ _ _ => (pts_one (pt_cmpR (r := rNeNil K) (by exact (op_neNil hu)) (pe_dget (by exact hu1) (pe_ix (r := rIx K) ix_seq (pv 1) pe_int fun _ _ => rfl) (pv 9) (fun _ _ => rfl)) (pe_lst pa_nil) (nomark _)))) (fun _ _ _ _ _ => (pv 9)))
      (pss_cons (ps_if (pw_or (pw_and (pt_cmpR op_lt (pv 5) pe_int (nomark _)) (pw_and1 (pt_cmpR op_notIn_seq (pv 3) (pe_lst (pa_cons pe_int (pa_cons pe_int pa_nil))) (by rfl)))).pt (pw_or1 (pt_cmpR (op_eqNil hu) (pv 8) (pe_lst pa_nil) (nomark _)))).pt
        (pss_one (ps_ret (pe_lst (pa_cons pe_str (pa_cons (pv 6) (pa_cons (pv 7) pa_nil))))))
        pss_nil)
      (pss_cons (ps_if (pw_and (pt_cmpR op_gt (pv 4) pe_int (nomark _)) (pw_and1 (pt_cmpR op_eq (pv 3) pe_int (nomark _)))).pt
        (pss_one (ps_ret (pe_lst (pa_cons pe_str (pa_cons (pe_ix ix_seq (pe_ix ix_seq (pv 8) (pe_op op_mod (pv 6) (pe_callB call_len (by rfl) (B.u "len" (by decide +kernel)) boot_len (pa_cons (pv 8) pa_nil))) fun _ _ => rfl) (pe_op op_mod (pv 4) pe_int) fun _ _ => rfl) (pa_cons pe_non pa_nil))))))
        pss_nil)
      (pss_cons (ps_if (pw_and (pt_cmpR op_eq (pv 5) pe_int (nomark _)) (pw_and (pt_cmpR op_lt (pe_callB call_len (by rfl) (B.u "len" (by decide +kernel)) boot_len (pa_cons (pe_ix ix_seq (pv 1) pe_int fun _ _ => rfl) pa_nil)) pe_int (nomark _)) (pw_and1 (pt_cmpR op_gt (pv 3) pe_int (nomark _))))).pt
        (pss_one (ps_ret (pe_lst (pa_cons pe_str (pa_cons (pv 6) (pa_cons pe_non pa_nil))))))
        pss_nil)
      (pss_cons (ps_set (i := 10) scDeed.nd rfl (Or.inr rfl) (pe_lc (own := [("road", 9)]) (g := gName 9) rfl scDeed.nd (pi_list (pv 8)) (blkOk_by (N := ["box", "net", "texts", "turn", "plan", "kind", "house", "text", "full", "road", "halted", "awake", "some"]) (sc := defScope sDeed) (by decide +kernel)) (fun _ _ _ _ _ => (pg_name (i := 9) scDeed.nd rfl (Or.inl rfl))) (fun _ _ _ _ _ => (pts_one (pw_or (pt_cmpR (r := rIn K false) (by exact op_in_seq) (pe_ix (r := rIx K) ix_seq (pv 9) pe_int fun _ _ => rfl) (pe_ix (r := rIx K) ix_seq (pv 1) pe_int fun _ _ => rfl) (by rfl)) (pw_or1 (pt_cmpR (r := rIn K false) (by exact op_in_seq) (pe_ix (r := rIx K) ix_seq (pv 9) pe_int fun _ _ => rfl) (pe_ix (r := rIx K) ix_seq (pv 1) pe_int fun _ _ => rfl) (by rfl)))).pt)) (fun _ _ _ _ _ => (pv 9))))
      (pss_cons (ps_setLc (i := 11) (own := [("road", 9)]) (g := gName 9) rfl scDeed.nd rfl rfl (sw_true rfl rfl rfl (by decide +kernel)) (pi_list (pv 8)) (blkOk_by (N := ["box", "net", "texts", "turn", "plan", "kind", "house", "text", "full", "road", "halted", "awake", "some"]) (sc := defScope sDeed) (by decide +kernel)) (fun _ _ _ _ _ => (pg_name (i := 9) scDeed.nd rfl (Or.inl rfl))) (fun _ _ _ _ _ => (pts_one (pt_cmpR (r := rNotInD K) (by exact (op_notInD hu5)) (pv 9) (pv 10) (by rfl)))) (fun _ _ _ _ _ => (pv 9)))
      (pss_cons (ps_set (i := 12) scDeed.nd rfl (Or.inl rfl) (pe_ifExp (pw_and (pw_or (pt_cmpR op_eq (pv 5) pe_int (nomark _)) (pw_or1 (pt_cmpR op_eq (pv 3) pe_int (nomark _)))).pt (pw_and1 (pt_cmpR (op_neNil hu) (pv 10) (pe_lst pa_nil) (nomark _)))).pt (pv 10) (pv 8)))
      (pss_cons (ps_set (i := 12) scDeed.nd rfl (Or.inl rfl) (pe_ifExp (pw_and (pt_cmpR op_gt (pv 5) pe_int (nomark _)) (pw_and (pt_cmpR op_ne (pv 3) pe_int (nomark _)) (pw_and1 (pt_cmpR (op_neNil hu) (pv 11) (pe_lst pa_nil) (nomark _))))).pt (pv 11) (pv 12)))
      (pss_cons (ps_set (i := 9) scDeed.nd rfl (Or.inl rfl) (pe_ix ix_seq (pv 12) (pe_o o_law_take (hr.mono (by decide)) (by rfl) (pa_cons (pv 0) (pa_cons (pe_callB call_len (by rfl) (B.u "len" (by decide +kernel)) boot_len (pa_cons (pv 12) pa_nil)) pa_nil))) fun _ _ => rfl))
      (pss_one (ps_ret (pe_lst (pa_cons (pe_ifExp (pw_or (pt_cmpR op_lt (pv 5) pe_int (nomark _)) (pw_or1 (pt_cmpR op_eq (pv 3) pe_int (nomark _)))).pt pe_str pe_str) (pa_cons (pe_ix ix_seq (pv 9) pe_int fun _ _ => rfl) (pa_cons (pe_ix ix_seq (pv 9) pe_int fun _ _ => rfl) pa_nil)))))))))))))))), ?_⟩
    obtain ⟨b, p, n, rs, ns, S, tx, ts, turn, plan, c, rfl, hb, hc, N, nb, n1, n6, lht, htx, nxb, lts, gts, fin⟩ := h
    obtain ⟨bl, hbl, _⟩ := id hb
    have NB : ∀ {H'}, But b H H' → LNet H' p n rs ns S := fun k => N.bm (Bm.but hbl k) fun a m z => nb (List.mem_singleton.mp z ▸ m)
    have lns : (ns.map V.str).length = n := by rw [List.length_map, N.len]
    refine ⟨_, rfl, b, 12, c, rfl, hb, by omega, by decide, by decide, fun di H1 d0 d1 kb1 hb1 e1 => ?_⟩
    obtain ⟨kd, rfl⟩ : ∃ k : Nat, di = k := ⟨di.toNat, by omega⟩
    have N1 := NB kb1
    refine ⟨_, rfl, _, rfl, ixAt N1.x (by rfl) ?_⟩
    refine ⟨_, _, rfl, .inl ⟨_, SqL.of N1.nm, rfl⟩, b, _, _, rfl, hb1, by omega, by omega, by omega, fun ai H2 a0 a1 kb2 hb2 e2 => ?_⟩
    obtain ⟨ho, rfl⟩ : ∃ k : Nat, ai = k := ⟨ai.toNat, by omega⟩
    have hho : ho < n := by omega
    have k2 := kb1.trans kb2
    refine ⟨_, rfl, _, rfl, _, rfl, _, _, rfl, .inl ⟨_, SqL.of (k2 _ _ nxb htx), rfl⟩, b, _, _, rfl, hb2, by omega, by rw [List.length_map]; omega, by rw [List.length_map]; omega, fun ti H3 t0 t1 kb3 hb3 e3 => ?_⟩
    obtain ⟨tn, rfl⟩ : ∃ k : Nat, ti = k := ⟨ti.toNat, by omega⟩
    have k3 := k2.trans kb3
    have ltn : tn < ts.length := by rw [List.length_map] at t1; omega
    have etn : ts[tn]? = some ts[tn] := List.getElem?_eq_getElem ltn
    have gtn := gts _ (List.getElem_mem ltn)
    generalize ts[tn] = tz at etn gtn
    refine ixAt (k3 _ _ nxb htx) (atI_nat (by rw [List.getElem?_map, etn]; rfl)) ?_
    dsimp only [gName, gNil, tNil, L2.start]
    refine ⟨_, _, _, rfl, ?_⟩
    have N3 := NB k3
    have hb3 : BoxAt H3 b (c + 3) := hb3
    obtain ⟨bl3, hbl3, _⟩ := id hb3
    -- all the roads that are not empty
    refine tSeq_by (fun σ H' => ∃ (fl : Addr) (fs : List V), Same H3 H' ∧ fl ≠ b ∧ H3 fl = none ∧ H' fl = some (.lst fs) ∧ fs.length ≤ 10 ∧ (∀ y ∈ fs, Rl rs y H') ∧ σ = [some (.ref b), some (.ref p.x), some (.ref tx), some (.int turn), some (.int plan), some (.int (kd : Nat)), some (.int (ho : Nat)), some (.str tz), some (.ref fl), none, none, none, none]) ?_ fun rest => ?_
    · rintro σ H4 ⟨fl, fs, k4, nfb, nf3, hfl, lfs, rfs, rfl⟩
      have N4 := N3.same k4
      have hb4 := hb3.same k4
      have k04 : But b H H4 := k3.trans (But.of k4)
      have old : ∀ {H' : Hp} {l : Addr}, But b H H' → BoxAt H' b (c + 4) → H' l = none → H l = none := fun {H' l} k hb' e => by
        cases z : H l with
        | none => rfl
        | some o =>
          by_cases x : l = b
          · obtain ⟨xs, z2, _⟩ := hb'
            rw [x, z2] at e
            cases e
          · rw [k _ _ x z] at e
            cases e
      have finL : ∀ {H' : Hp} {w : Wd} {v1 v2 : V}, But b H H' → BoxAt H' b (c + 4) → Plain n w v1 v2 → ∀ l, H' l = none → Q (.ref l) (upd H' l (.lst [.str (Wd.s w), v1, v2])) := fun {H' w v1 v2} k hb' pl l hl =>
        fin l _ w v1 v2 (k.trans (But.of (upd_grow hl))) (hb'.same (upd_grow hl)) (old k hb' hl) upd_same pl
      have mk : ∀ {H' : Hp}, Same H4 H' → ∀ l, H' l = none → Q (.ref l) (upd H' l (.lst [.str "make", .int (ho : Nat), .str tz])) := fun {H'} k l hl =>
        finL (w := .make) (k04.trans (But.of k)) ((hb4.same k).up (by omega)) (.make hho gtn) l hl
      -- nothing under way, or a line made
      refine tSeq_by (fun σ H' => Same H4 H' ∧ fs ≠ [] ∧ σ = [some (.ref b), some (.ref p.x), some (.ref tx), some (.int turn), some (.int plan), some (.int (kd : Nat)), some (.int (ho : Nat)), some (.str tz), some (.ref fl), none, none, none, none]) ?_ fun rest2 => ?_
      · rintro σ H5 ⟨k5, fne, rfl⟩
        have hfl5 := k5 _ _ hfl
        have N5 := N4.same k5
        have lf : 0 < fs.length := List.length_pos_iff.mpr fne
        have rf5 : ∀ y ∈ fs, Rl rs y H5 := fun y hy => (rfs y hy).mono k5
        refine tSeq_by (fun σ H' => H' = H5 ∧ σ = [some (.ref b), some (.ref p.x), some (.ref tx), some (.int turn), some (.int plan), some (.int (kd : Nat)), some (.int (ho : Nat)), some (.str tz), some (.ref fl), none, none, none, none]) ?_ fun rest3 => ?_
        · rintro σ H6 ⟨rfl, rfl⟩
          refine tSeq_by (fun σ H' => H' = H6 ∧ σ = [some (.ref b), some (.ref p.x), some (.ref tx), some (.int turn), some (.int plan), some (.int (kd : Nat)), some (.int (ho : Nat)), some (.str tz), some (.ref fl), none, none, none, none]) ?_ fun rest4 => ?_
          · rintro σ H7 ⟨rfl, rfl⟩
            -- those of halted houses
            refine tSeq_by (fun σ H' => ∃ (hl : Addr) (hs : List V), Same H7 H' ∧ hl ≠ b ∧ H' hl = some (.lst hs) ∧ hs.length ≤ 10 ∧ (∀ y ∈ hs, Rl rs y H') ∧ σ = [some (.ref b), some (.ref p.x), some (.ref tx), some (.int turn), some (.int plan), some (.int (kd : Nat)), some (.int (ho : Nat)), some (.str tz), some (.ref fl), none, some (.ref hl), none, none]) ?_ fun rest5 => ?_
            · rintro σ H8 ⟨hl, hs, k8, nhb, hhl, lhs, rhs, rfl⟩
              have hfl8 := k8 _ _ hfl5
              refine tSeq_by (fun σ H' => ∃ (al : Addr) (as : List V), Same H8 H' ∧ al ≠ b ∧ H' al = some (.lst as) ∧ as.length ≤ 10 ∧ (∀ y ∈ as, Rl rs y H') ∧ σ = [some (.ref b), some (.ref p.x), some (.ref tx), some (.int turn), some (.int plan), some (.int (kd : Nat)), some (.int (ho : Nat)), some (.str tz), some (.ref fl), none, some (.ref hl), some (.ref al), none]) ?_ fun rest6 => ?_
              · rintro σ H9 ⟨al, as, k9, nab, hal, las, ras, rfl⟩
                refine tSeq_by (fun σ H' => ∃ (sl : Addr) (ss : List V), Same H9 H' ∧ sl ≠ b ∧ H' sl = some (.lst ss) ∧ ss ≠ [] ∧ ss.length ≤ 10 ∧ (∀ y ∈ ss, Rl rs y H') ∧ σ = [some (.ref b), some (.ref p.x), some (.ref tx), some (.int turn), some (.int plan), some (.int (kd : Nat)), some (.int (ho : Nat)), some (.str tz), some (.ref fl), none, some (.ref hl), some (.ref al), some (.ref sl)]) ?_ fun rest7 => ?_
                · rintro σ HA ⟨sl, ss, kA, nsb, hsl, sne, lss, rss, rfl⟩
                  refine tSeq_by (fun σ H' => ∃ (sl : Addr) (ss : List V), Same H9 H' ∧ sl ≠ b ∧ H' sl = some (.lst ss) ∧ ss ≠ [] ∧ ss.length ≤ 10 ∧ (∀ y ∈ ss, Rl rs y H') ∧ σ = [some (.ref b), some (.ref p.x), some (.ref tx), some (.int turn), some (.int plan), some (.int (kd : Nat)), some (.int (ho : Nat)), some (.str tz), some (.ref fl), none, some (.ref hl), some (.ref al), some (.ref sl)]) ?_ fun rest8 => ?_
                  · rintro σ HB ⟨sl, ss, kB, nsb, hsl, sne, lss, rss, rfl⟩
                    have k4B : Same H4 HB := k5.trans (k8.trans (k9.trans kB))
                    have hbB := hb4.same k4B
                    obtain ⟨blB, hblB, _⟩ := id hbB
                    have lsp : 0 < ss.length := List.length_pos_iff.mpr sne
                    refine ⟨_, rfl, _, rfl, _, rfl, _, _, rfl, .inl ⟨_, SqL.of hsl, rfl⟩, b, _, _, rfl, hbB, by omega, by omega, by omega, fun ri HC r0 r1 kC hbC eC => ?_⟩
                    obtain ⟨rn, rfl⟩ : ∃ k : Nat, ri = k := ⟨ri.toNat, by omega⟩
                    have lrn : rn < ss.length := by omega
                    obtain ⟨c0, r, ec, hr, hcr⟩ := rss ss[rn] (List.getElem_mem lrn)
                    have hc2 : HC c0 = some (.tup [.int (r.1 : Nat), .int (r.2 : Nat)]) := kC _ _ (fun e => by rw [e, hblB] at hcr; cases hcr) hcr
                    have bnd := both_bnd N3.ok hr
                    refine ixAt (kC _ _ nsb hsl) (atI_nat (by rw [List.getElem?_eq_getElem lrn, ec])) ?_
                    have kHC : But b H HC := k04.trans ((But.of k4B).trans kC)
                    have ret : ∀ w : Wd, Plain n w (.int (r.1 : Nat)) (.int (r.2 : Nat)) → ∀ l, HC l = none → Q (.ref l) (upd HC l (.lst [.str (Wd.s w), .int (r.1 : Nat), .int (r.2 : Nat)])) := fun w pl l hl => finL (w := w) kHC hbC pl l hl
                    refine ⟨_, rfl, _, _, rfl, rfl, _, rfl, iteB (fun _ => ⟨_, rfl, ixTup (SqT.of hc2) (by rfl) ⟨_, rfl, ixTup (SqT.of hc2) (by rfl) ⟨two_ln (by show 3 ≤ _; decide), fun l hl => ret .lose (.lose bnd.1 bnd.2) l hl⟩⟩⟩) fun _ => ⟨_, rfl, rfl, _, rfl, iteB (fun _ => ⟨_, rfl, ixTup (SqT.of hc2) (by rfl) ⟨_, rfl, ixTup (SqT.of hc2) (by rfl) ⟨two_ln (by show 3 ≤ _; decide), fun l hl => ret .lose (.lose bnd.1 bnd.2) l hl⟩⟩⟩) fun _ => ⟨_, rfl, ixTup (SqT.of hc2) (by rfl) ⟨_, rfl, ixTup (SqT.of hc2) (by rfl) ⟨two_ln (by show 3 ≤ _; decide), fun l hl => ret .hand (.hand bnd.1 bnd.2) l hl⟩⟩⟩⟩⟩
                  · have keep : rest8 = rest8 := rfl
                    have old8 := rest8 _ _ ⟨sl, ss, kA, nsb, hsl, sne, lss, rss, rfl⟩
                    refine ⟨_, rfl, _, _, rfl, rfl, _, rfl, iteB (fun _ => ⟨_, rfl, rfl, _, rfl, iteB (fun _ => ⟨_, rfl, two_ln (by show 0 ≤ _; decide), fun pe hpe => ?_⟩) fun _ => ⟨_, rfl, old8⟩⟩) fun _ => ⟨_, rfl, old8⟩⟩
                    have ke := upd_grow (o := .lst []) hpe
                    refine ⟨al, pe, as, rfl, rfl, SqL.of (ke _ _ (kA _ _ hal)), SqL.of upd_same, _, rfl, iteB (fun e => ⟨_, rfl, rest8 _ _ ⟨al, as, kA.trans ke, nab, ke _ _ (kA _ _ hal), (fun z => by rw [z] at e; cases e), las, fun y hy => (ras y hy).mono (kA.trans ke), rfl⟩⟩) fun _ => ⟨_, rfl, rest8 _ _ ⟨sl, ss, kA.trans ke, nsb, ke _ _ hsl, sne, lss, fun y hy => (rss y hy).mono ke, rfl⟩⟩⟩
                · have hfl9 := k9 _ _ hfl8
                  have hhl9 := k9 _ _ hhl
                  have rf9 : ∀ y ∈ fs, Rl rs y H9 := fun y hy => (rf5 y hy).mono (k8.trans k9)
                  have rh9 : ∀ y ∈ hs, Rl rs y H9 := fun y hy => (rhs y hy).mono k9
                  have oldf := rest7 _ _ ⟨fl, fs, Same.refl H9, nfb, hfl9, fne, lfs, rf9, rfl⟩
                  have tst : ∀ pe, H9 pe = none → _ := fun pe hpe => (upd_grow (o := .lst []) hpe : Same H9 (upd H9 pe (.lst [])))
                  refine ⟨_, rfl, rfl, _, rfl, iteB (fun _ => ⟨_, rfl, two_ln (by show 0 ≤ _; decide), fun pe hpe => ?_⟩) fun _ => ⟨_, rfl, rfl, _, rfl, iteB (fun _ => ⟨_, rfl, two_ln (by show 0 ≤ _; decide), fun pe hpe => ?_⟩) fun _ => ⟨_, rfl, oldf⟩⟩⟩
                  all_goals
                    have ke := upd_grow (o := .lst []) hpe
                    exact ⟨hl, pe, hs, rfl, rfl, SqL.of (ke _ _ hhl9), SqL.of upd_same, _, rfl, iteB (fun e => ⟨_, rfl, rest7 _ _ ⟨hl, hs, ke, nhb, ke _ _ hhl9, (fun z => by rw [z] at e; cases e), lhs, fun y hy => (rh9 y hy).mono ke, rfl⟩⟩) fun _ => ⟨_, rfl, rest7 _ _ ⟨fl, fs, ke, nfb, ke _ _ hfl9, fne, lfs, fun y hy => (rf9 y hy).mono ke, rfl⟩⟩⟩
              · refine ⟨_, rfl, fl, rfl, ⟨_, SqL.of hfl8⟩, fun D hD => ?_⟩
                refine lc_some (walk_list (xs := fs)) (Rl rs) (fun _ _ _ k h => h.mono k) hD (by omega) (fun H' k => SqL.of (del_sub k _ _ hfl8)) ?_ ?_
                · rintro i x H9 HA K1 N1' hi k9 ⟨zs, hzs⟩ ⟨e9, hx⟩ hK hN
                  subst e9
                  have k9' := del_sub k9
                  obtain ⟨c0, r, rfl, hr, hcr⟩ := rf5 x (List.mem_of_getElem? hx)
                  have hc9 := k9' _ _ (k8 _ _ hcr)
                  obtain ⟨qs, rq⟩ := rl_data (fun y hy => (rhs y hy).mono k9')
                  have rx : Rdd HA (.ref c0) (rd r) := .tup hc9 (.cons (.int _) (.cons (.int _) .nil))
                  have sq := rds_shaped2 qs
                  refine ⟨rfl, _, rfl, _, rfl, rd r, qs.map rd, rx.dp (shaped_lay (rd_shaped r)), (Rdd.lst (k9' _ _ hhl) rq).dp (shaped_lay sq), rd_shaped r, sq, _, rfl, iteB (fun _ => ⟨_, rfl, hK _ _ (Same.refl _) ⟨c0, r, rfl, hr, ?_⟩⟩) fun _ => hN _ (Same.refl _)⟩
                  rw [del_ne (fun e => by rw [← e, hc9] at hzs; cases hzs)]
                  exact hc9
                · intro ys H9 k9 h9 l9 r9
                  have nDb : D ≠ b := fun e => by
                    obtain ⟨xs, z, _⟩ := (hb4.same k5).same k8
                    rw [e, z] at hD
                    cases hD
                  exact rest6 _ _ ⟨D, ys, del_sub k9, nDb, h9, by omega, fun y hy => (r9 y hy).del, rfl⟩
            · refine ⟨_, rfl, fl, rfl, ⟨_, SqL.of hfl5⟩, fun D hD => ?_⟩
              refine lc_some (walk_list (xs := fs)) (Rl rs) (fun _ _ _ k h => h.mono k) hD (by omega) (fun H' k => SqL.of (del_sub k _ _ hfl5)) ?_ ?_
              · rintro i x H9 HA K1 N1' hi k9 ⟨zs, hzs⟩ ⟨e9, hx⟩ hK hN
                subst e9
                have k9' := del_sub k9
                obtain ⟨c0, r, rfl, hr, hcr⟩ := rf5 x (List.mem_of_getElem? hx)
                have hc9 := k9' _ _ hcr
                have N9 := N5.same k9'
                have kp : Rl rs (.ref c0) (del HA D) := ⟨c0, r, rfl, hr, by
                  rw [del_ne (fun e => by rw [← e, hc9] at hzs; cases hzs)]
                  exact hc9⟩
                refine ⟨rfl, _, rfl, ixTup (SqT.of hc9) (by rfl) ⟨_, rfl, ixAt N9.x (by rfl) ⟨p.ht, _, rfl, .inl (SqL.of N9.ht), rfl, natV_flat _, _, rfl, iteB (fun _ => ⟨_, rfl, hK _ _ (Same.refl _) kp⟩) fun _ => ?_⟩⟩⟩
                exact ⟨_, rfl, ixTup (SqT.of hc9) (by rfl) ⟨_, rfl, ixAt N9.x (by rfl) ⟨p.ht, _, rfl, .inl (SqL.of N9.ht), rfl, natV_flat _, _, rfl, iteB (fun _ => ⟨_, rfl, hK _ _ (Same.refl _) kp⟩) fun _ => hN _ (Same.refl _)⟩⟩⟩
              · intro ys H9 k9 h9 l9 r9
                have nDb : D ≠ b := fun e => by
                  obtain ⟨xs, z, _⟩ := hb4.same k5
                  rw [e, z] at hD
                  cases hD
                exact rest5 _ _ ⟨D, ys, del_sub k9, nDb, h9, by omega, fun y hy => (r9 y hy).del, rfl⟩
          · have go := rest4 _ _ ⟨rfl, rfl⟩
            refine ⟨_, rfl, rfl, _, rfl, iteB (fun _ => ⟨_, rfl, ixAt N5.x (by rfl) ?_⟩) fun _ => go⟩
            refine ⟨_, _, rfl, .inl ⟨_, SqL.of N5.ht, rfl⟩, _, _, rfl, rfl, _, rfl, iteB (fun _ => ⟨_, rfl, _, _, rfl, rfl, _, rfl, iteB (fun _ => ⟨_, rfl, two_ln (by show 3 ≤ _; decide), fun l hl => finL (w := .stop) (k04.trans (But.of k5)) ((hb4.same k5).up (by omega)) (.stop hho) l hl⟩) fun _ => go⟩) fun _ => go⟩
        · have go := rest3 _ _ ⟨rfl, rfl⟩
          refine ⟨_, rfl, _, _, rfl, rfl, _, rfl, iteB (fun _ => ⟨_, rfl, rfl, _, rfl, iteB (fun _ => ?_) fun _ => go⟩) fun _ => go⟩
          have lm : ho % fs.length < fs.length := Nat.mod_lt _ lf
          obtain ⟨c0, r, ec, hr, hcr⟩ := rf5 _ (List.getElem_mem lm)
          have bnd := both_bnd N3.ok hr
          refine ⟨_, rfl, _, rfl, _, rfl, _, _, rfl, .inl ⟨_, SqL.of hfl5, rfl⟩, _, _, rfl, rfl, by omega, ?_⟩
          refine ixAt hfl5 (atI_nat (j := ho % fs.length) (by rw [List.getElem?_eq_getElem lm, ec])) ⟨_, rfl, _, _, rfl, rfl, (by show (0 : Int) < 2; decide), ?_⟩
          have p2 : plan % 2 = 0 ∨ plan % 2 = 1 := by omega
          rcases p2 with p2 | p2
          · refine ixTup (SqT.of hcr) (v := .int (r.1 : Nat)) ?_ ⟨two_ln (by show 3 ≤ _; decide), fun l hl => finL (w := .stop) (k04.trans (But.of k5)) ((hb4.same k5).up (by omega)) (.stop bnd.1) l hl⟩
            rw [show ((plan : Int) % 2) = ((plan % 2 : Nat) : Int) by omega, p2]
            rfl
          · refine ixTup (SqT.of hcr) (v := .int (r.2 : Nat)) ?_ ⟨two_ln (by show 3 ≤ _; decide), fun l hl => finL (w := .stop) (k04.trans (But.of k5)) ((hb4.same k5).up (by omega)) (.stop bnd.2) l hl⟩
            rw [show ((plan : Int) % 2) = ((plan % 2 : Nat) : Int) by omega, p2]
            rfl
      · have full : ∀ {H5 : Hp}, Same H4 H5 → ∀ pe, H5 pe = none → Same H4 (upd H5 pe (.lst [])) := fun k pe hpe => k.trans (upd_grow hpe)
        refine ⟨_, rfl, _, _, rfl, rfl, _, rfl, iteB (fun _ => ⟨_, rfl, two_ln (by show 2 ≤ _; decide), fun pw hpw => ?_⟩) fun _ => ⟨_, rfl, two_ln (by show 0 ≤ _; decide), fun pe hpe => ?_⟩⟩
        · have kw := upd_grow (o := .lst [V.int 8, V.int 9]) hpw
          have hw1 := upd_same (H := H4) (a := pw) (o := .lst [V.int 8, V.int 9])
          generalize upd H4 pw (.lst [V.int 8, V.int 9]) = H5 at kw hw1 ⊢
          refine ⟨pw, _, rfl, .inl (SqL.of hw1), rfl, rfl, _, rfl, iteB (fun _ => ⟨_, rfl, _, rfl, two_ln (by show 3 ≤ _; decide), fun l hl => mk kw l hl⟩) fun _ => ⟨_, rfl, two_ln (by show 0 ≤ _; decide), fun pe hpe => ?_⟩⟩
          have ke := full kw pe hpe
          exact ⟨fl, pe, fs, rfl, rfl, SqL.of (ke _ _ hfl), SqL.of upd_same, _, rfl, iteB (fun _ => ⟨_, rfl, _, rfl, two_ln (by show 3 ≤ _; decide), fun l hl => mk ke l hl⟩) fun e => rest2 _ _ ⟨ke, (fun z => by rw [z] at e; cases e), rfl⟩⟩
        · have ke := full (Same.refl H4) pe hpe
          exact ⟨fl, pe, fs, rfl, rfl, SqL.of (ke _ _ hfl), SqL.of upd_same, _, rfl, iteB (fun _ => ⟨_, rfl, _, rfl, two_ln (by show 3 ≤ _; decide), fun l hl => mk ke l hl⟩) fun e => rest2 _ _ ⟨ke, (fun z => by rw [z] at e; cases e), rfl⟩⟩
    · obtain ⟨LG, WT, S1, S2, _, _⟩ := N3.ex
      have ltab : (tabV p.tab).length = (both rs).length := by
        have := N3.keys.length_eq
        rw [List.length_map, List.length_map] at this
        unfold tabV
        rw [List.length_map, this]
      have lrs := N3.ok.len
      have lboth : (both rs).length ≤ 10 := by
        unfold both
        rw [List.length_append, List.length_map]
        omega
      have keyR : ∀ k ∈ (tabV p.tab).map (·.1), ∃ r ∈ both rs, k = rk r := fun k mk => by
        unfold tabV at mk
        rw [List.map_map] at mk
        obtain ⟨r, hr, e⟩ := List.mem_map.mp (N3.keys.mem_iff.mp (show k ∈ p.tab.map (·.1) from mk))
        exact ⟨r, hr, e.symm⟩
      refine ⟨_, rfl, ixAt N3.x (by rfl) ⟨p.wt, tabV p.tab, rfl, .inl S2.top, by omega, fun k mk => ?_, fun pl bs cs hpl ik pc => ?_⟩⟩
      · obtain ⟨r, hr, rfl⟩ := keyR k mk
        have := both_bnd N3.ok hr
        refine ⟨[(r.1 : Int), (r.2 : Int)], rfl, rfl, fun m hm => ?_⟩
        simp only [List.mem_cons, List.not_mem_nil, or_false] at hm
        rcases hm with rfl | rfl <;> omega
      · have lcs : cs.length ≤ 10 := by
          have h1 := pc.length_eq
          have h2 : (tabV p.tab).length = bs.length := Paired.length ik
          omega
        have cR : ∀ c ∈ cs, ∃ r ∈ both rs, H3 c = some (.tup [.int (r.1 : Nat), .int (r.2 : Nat)]) := fun c hc => by
          obtain ⟨k, mk, e⟩ := isKeys_perm_of ik c (pc.mem_iff.mp hc)
          obtain ⟨r, hr, rfl⟩ := keyR k mk
          exact ⟨r, hr, e⟩
        have kl := upd_grow (o := .lst (cs.map V.ref)) hpl
        have hpl1 := upd_same (H := H3) (a := pl) (o := .lst (cs.map V.ref))
        generalize upd H3 pl (.lst (cs.map V.ref)) = H4 at kl hpl1 ⊢
        have N4 := N3.same kl
        refine ⟨pl, rfl, ⟨_, SqL.of hpl1⟩, fun D hD => ?_⟩
        refine lc_some (walk_list (xs := cs.map V.ref)) (Rl rs) (fun _ _ _ k h => h.mono k) hD (by rw [List.length_map]; omega) (fun H' k => SqL.of (del_sub k _ _ hpl1)) ?_ ?_
        · rintro i x H5 H6 K1 N1' hi k5 ⟨zs, hzs⟩ ⟨rfl, hx⟩ hK hN
          have hi2 : i < cs.length := by rw [List.length_map] at hi; exact hi
          rw [List.getElem?_map, List.getElem?_eq_getElem hi2] at hx
          obtain rfl : V.ref cs[i] = x := Option.some.inj hx
          obtain ⟨r, hr, hcr⟩ := cR _ (List.getElem_mem hi2)
          generalize cs[i] = c0 at hcr
          have k35 := kl.trans (del_sub k5)
          have N5 := N3.same k35
          obtain ⟨aw, ws, htop, hv, hlw, rw_, _⟩ := N5.way hr
          have d1 : DGet H6 p.wt (.ref c0) (valV (tabV p.tab) (rk r)) := DGet.t htop (k35 _ _ hcr)
          rw [hv] at d1
          refine ⟨rfl, _, rfl, ixAt N5.x (by rfl) ⟨_, rfl, _, _, rfl, d1, two_ln (by show 0 ≤ _; decide), fun pe hpe => ?_⟩⟩
          have k6 := upd_grow (o := .lst []) hpe
          refine ⟨aw, pe, ws, rfl, rfl, SqL.of (k6 _ _ hlw), SqL.of upd_same, _, rfl, iteB (fun _ => ⟨_, rfl, hK _ _ k6 ⟨c0, r, rfl, hr, ?_⟩⟩) fun _ => hN _ k6⟩
          have z := k6 _ _ (k35 _ _ hcr)
          have nD : c0 ≠ D := fun e => by
            have z2 := k6 _ _ hzs
            rw [← e, z] at z2
            cases z2
          rw [del_ne nD]
          exact z
        · intro ys H5 k5 h5 l5 r5
          have nDb : D ≠ b := fun e => by rw [e, kl _ _ hbl3] at hD; cases hD
          have nD3 : H3 D = none := by
            cases z : H3 D with
            | none => rfl
            | some o => rw [kl _ _ z] at hD; cases hD
          refine rest _ _ ⟨D, ys, kl.trans (del_sub k5), nDb, nD3, h5, by rw [List.length_map] at l5; omega, fun y hy => (r5 y hy).del, rfl⟩
end
end K04

namespace L2
open PySem PySem.Spec PyProof.Rows
/-- {x: v} of a text and a value -/
def tDct1 (x : Str) (v : V) : TE := fun _ H Q => ∀ p, H p = none → Q (.ref p) (upd H p (.dK [(.inr x, v)]))
theorem pe_dct1 {X : Cx} {pos : Pos} {e1 e2 : Expr} {x : Str} {v : V} (h : PPs X pos [some e1] [e2] [(tC (.str x), tC v)]) : PE X (.Dict [some e1] [e2] pos) (tDct1 x v) :=
  (pe_disp h rfl rfl (by simp) (by show 1 ≤ 15; decide)).mono fun σ H Q q p hp =>
    ⟨upd_same, [(.inr x, v)], rfl, (by show 1 ≤ 15; decide), by
      rw [show mergeK [] [((.inr x : Key), v)] = [(.inr x, v)] from rfl, upd_upd]
      exact q p hp⟩
end L2
namespace K04
open PySem PySem.Spec PyProof.Rows L2 Tn TL
abbrev sNoH : Stmt := top 55
theorem scNoH : FnScope ["box", "houses"] ["box", "houses"] (defScope sNoH) := ⟨rfl, rfl, rfl, by decide +kernel, rfl, by decide +kernel, by decide +kernel⟩
abbrev sNoT : Stmt := top 56
theorem scNoT : FnScope ["box"] ["box"] (defScope sNoT) := ⟨rfl, rfl, rfl, by decide +kernel, rfl, by decide +kernel, by decide +kernel⟩
/-- a value that is handed where another is asked: a list of it has at most c items -/
inductive Odd (H : Hp) (c : Nat) : V → PyData → Prop
  | fix {v : V} {d : PyData} (r : Rdd H v d) (f : flat d = true) (n : Nc 1 600 d) : Odd H c v d
  | d0 {a : Addr} (h : H a = some (.dK [])) : Odd H c (.ref a) (.dict [])
  | d1 {a : Addr} (h : H a = some (.dK [(.inr "a", .int 0)])) : Odd H c (.ref a) (.dict [(.str "a", .int 0)])
  | lst {a : Addr} {xs : List V} {ds : List PyData} (h : H a = some (.lst xs)) (r : ∀ H', RddAll H' xs ds) (n : ∀ d ∈ ds, Nc 0 100 d) (l : xs.length ≤ c) (s : ∃ x r, xs = x :: r ∧ (x = .int 0 ∨ x = .str "a")) : Odd H c (.ref a) (.list ds)
section
variable {H H' : Hp} {c : Nat} {v : V} {d : PyData}
theorem Odd.rdd (o : Odd H c v d) : Rdd H v d := by
  cases o with
  | fix r f n => exact r
  | d0 h => exact .dK h .nil .nil
  | d1 h => exact .dK h (.cons (.str _) .nil) (.cons (.int _) .nil)
  | lst h r n l s => exact .lst h (r _)
theorem Odd.nc (o : Odd H c v d) (hc : c ≤ 1000) : Nc 2 110000 d := by
  cases o with
  | fix r f n => exact n.up
  | d0 h => exact ⟨by decide +kernel, by decide +kernel, by decide +kernel, by decide +kernel⟩
  | d1 h => exact ⟨by decide +kernel, by decide +kernel, by decide +kernel, by decide +kernel⟩
  | lst h r n l s =>
    have := rdds_len (r H)
    exact (nc_list (k := 0) (m := 100) (l := 1000) n (by omega)).up
theorem Odd.up {e : Nat} (o : Odd H c v d) (h : c ≤ e) : Odd H e v d := by
  cases o with
  | fix r f n => exact .fix r f n
  | d0 h => exact .d0 h
  | d1 h => exact .d1 h
  | lst h' r n l s => exact .lst h' r n (Nat.le_trans l h) s
theorem Odd.bm {M : List Addr} (o : Odd H c v d) (k : Bm M H H') (n : ∀ a, v = .ref a → a ∉ M) : Odd H' c v d := by
  cases o with
  | fix r f n => exact .fix (rdd_bm k r f) f n
  | d0 h => exact .d0 (k _ _ (fun ⟨_, z⟩ => nomatch z) h)
  | d1 h => exact .d1 (k _ _ (fun ⟨_, z⟩ => nomatch z) h)
  | lst h r n' l s => exact .lst (k.lst (n _ rfl) h) r n' l s
theorem Odd.same (o : Odd H c v d) (k : Same H H') : Odd H' c v d := o.bm (M := []) (Bm.of k) fun _ _ z => nomatch z
theorem Odd.str (o : Odd H c v d) (hc : c ≤ 1000) {z : Str} (e : d = .str z) : z.length ≤ 100000 := by
  have := (o.nc hc).w
  rw [e] at this
  simp only [wt] at this
  omega
end
def spOdd (args : V → List V) : Sp := fun vs H Q _ => ∃ (b : Addr) (c : Nat), vs = args (.ref b) ∧ BoxAt H b c ∧ c < 1000 ∧ ∀ v d H', But b H H' → BoxAt H' b (c + 1) → Odd H' 1 v d → (∀ a, v = .ref a → H a = none ∧ a ≠ b) → Q v H'
def spNoH : Sp := fun vs H Q E => ∃ n : Nat, n ≤ 64 ∧ spOdd (fun b => [b, .int n]) vs H Q E
def spNoT : Sp := spOdd fun b => [b]
theorem nc_sh {z : Str} (h : z.cps.toList.all (fun c => decide (c < 128)) = true) (l : z.length ≤ 59) : Nc 1 600 (.str z) := (nc_str (m := 600) (fun c hc => of_decide_eq_true (List.all_eq_true.mp h c hc)) (by omega)).up
section
variable {P : Program} {w : World} {K : PySem.W.Frag} {mg : Str → Option Value} {base : Heap} {f : Addr} {fd : FuncData}
theorem ok_noh (F : Fd K "_law_no_house" sNoH f fd) (g : mg "_law_no_house" = some (.ref f)) (B : Bl mg) (o_law_take : Ok P w K mg base CX0 1 "_law_take" sTake ["box", "many"] spDraw1) : Ok P w K mg base CX0 2 "_law_no_house" sNoH ["box", "houses"] spNoH := by
  refine ⟨f, fd, g, F, F.bindsN fun _ _ _ _ _ _ us hl => match us, hl with | [_, _], _ => rfl, F.ok scNoH (fun vs H Q E h => ?_) (fun cdv A outer s H vs Q E hr h => ?_)⟩
  · obtain ⟨n, _, b, c, rfl, _⟩ := h
    rfl
  · refine ⟨_, (pss_one (ps_ret (pe_ix ix_seq (pe_lst (pa_cons pe_non (pa_cons (pe_un un_neg pe_int) (pa_cons (pv 1) (pa_cons pe_bl (pa_cons pe_bl (pa_cons pe_str (pa_cons (pe_tup (pa_cons pe_int pa_nil)) (pa_cons (pe_lst (pa_cons pe_int pa_nil)) (pa_cons pe_dnewK (pa_cons (pe_op op_pow pe_int pe_int) pa_nil))))))))))) (pe_o o_law_take (hr.mono (by decide)) (by rfl) (pa_cons (pv 0) (pa_cons pe_int pa_nil))) fun _ _ => rfl))), ?_⟩
    obtain ⟨n, n64, b, c, rfl, hb, hc, q⟩ := h
    obtain ⟨ob, hob⟩ := hb.some
    refine ⟨_, rfl, _, rfl, two_ln (by show 1 ≤ _; decide), fun t ht => ⟨two_ln (by show 1 ≤ _; decide), fun l hl dd hdd => ⟨_, _, rfl, rfl, ⟨by decide, by decide, by decide⟩, two_ln (by show 10 ≤ _; decide), fun L hL => ?_⟩⟩⟩
    dsimp only
    have k_t := upd_grow (o := .tup [V.int 0]) ht
    have h_t := upd_same (H := H) (a := t) (o := .tup [V.int 0])
    generalize upd H t (.tup [V.int 0]) = H1 at k_t h_t hl hdd hL ⊢
    have k_l := upd_grow (o := .lst [V.int 0]) hl
    have h_l := upd_same (H := H1) (a := l) (o := .lst [V.int 0])
    generalize upd H1 l (.lst [V.int 0]) = H2 at k_l h_l hdd hL ⊢
    have k_dd := upd_grow (o := .dK []) hdd
    have h_dd := upd_same (H := H2) (a := dd) (o := .dK [])
    generalize upd H2 dd (.dK []) = H3 at k_dd h_dd hL ⊢
    have kL := upd_grow (o := .lst [.non, .int (-1), .int (n : Nat), .bl true, .bl false, .str "0", .ref t, .ref l, .ref dd, .int (10 ^ (19 : Int).toNat)]) hL
    have hL1 := upd_same (H := H3) (a := L) (o := .lst [.non, .int (-1), .int (n : Nat), .bl true, .bl false, .str "0", .ref t, .ref l, .ref dd, .int (10 ^ (19 : Int).toNat)])
    generalize upd H3 L (.lst [.non, .int (-1), .int (n : Nat), .bl true, .bl false, .str "0", .ref t, .ref l, .ref dd, .int (10 ^ (19 : Int).toNat)]) = H4 at kL hL1 ⊢
    have k04 : Same H H4 := k_t.trans (k_l.trans (k_dd.trans kL))
    have hob4 := k04 _ _ hob
    refine ⟨_, rfl, b, 10, c, rfl, hb.same k04, hc, by decide, by decide, fun di H5 x0 x1 kb hb5 e5 => ?_⟩
    have kb5 : But b H H5 := (But.of k04).trans kb
    have nb : ∀ {a : Addr} {o : HO} {X : Hp}, Same H X → X a = none → a ≠ b := fun {a o X} k e z => by
      rw [z, k _ _ hob] at e
      cases e
    have at4 : ∀ {a : Addr} {o : HO} {X : Hp}, Same H X → X a = none → H4 a = some o → H5 a = some o := fun {a o X} k e z => kb _ _ (nb (o := o) k e) z
    have fr : ∀ {a : Addr} {X : Hp}, Same H X → X a = none → ∀ a', V.ref a = .ref a' → H a' = none ∧ a' ≠ b := fun {a X} k e a' z => by
      cases z
      exact ⟨fresh_of k e, nb (o := .lst []) k e⟩
    have sc : ∀ {v : V} {d : PyData}, (∀ X, Rdd X v d) → flat d = true → Nc 1 600 d → (∀ a, v ≠ .ref a) → Q v H5 := fun {v d} r f n z => q v d H5 kb5 hb5 (.fix (r _) f n) fun a e => absurd e (z a)
    have hL5 := at4 (o := .lst [.non, .int (-1), .int (n : Nat), .bl true, .bl false, .str "0", .ref t, .ref l, .ref dd, .int (10 ^ (19 : Int).toNat)]) (k_t.trans (k_l.trans k_dd)) hL hL1
    obtain ⟨k, rfl⟩ : ∃ k : Nat, di = k := ⟨di.toNat, by omega⟩
    have hk : k < 10 := by omega
    match k, hk with
    | 0, _ => exact ixAt hL5 (atI_nat (by rfl)) (sc (d := .none) (fun _ => .non) rfl ⟨by decide +kernel, by decide +kernel, by decide +kernel, by decide +kernel⟩ (fun _ z => nomatch z))
    | 1, _ => exact ixAt hL5 (atI_nat (by rfl)) (sc (d := .int (-1)) (fun _ => .int _) rfl ⟨by decide +kernel, by decide +kernel, by decide +kernel, by decide +kernel⟩ (fun _ z => nomatch z))
    | 2, _ => exact ixAt hL5 (atI_nat (by rfl)) (sc (d := .int (n : Nat)) (fun _ => .int _) rfl (nc_nat (by omega)).up (fun _ z => nomatch z))
    | 3, _ => exact ixAt hL5 (atI_nat (by rfl)) (sc (d := .bool true) (fun _ => .bl _) rfl ⟨by decide +kernel, by decide +kernel, by decide +kernel, by decide +kernel⟩ (fun _ z => nomatch z))
    | 4, _ => exact ixAt hL5 (atI_nat (by rfl)) (sc (d := .bool false) (fun _ => .bl _) rfl ⟨by decide +kernel, by decide +kernel, by decide +kernel, by decide +kernel⟩ (fun _ z => nomatch z))
    | 5, _ => exact ixAt hL5 (atI_nat (by rfl)) (sc (d := .str "0") (fun _ => .str _) rfl ⟨by decide +kernel, by decide +kernel, by decide +kernel, by decide +kernel⟩ (fun _ z => nomatch z))
    | 6, _ => exact ixAt hL5 (atI_nat (by rfl)) (q _ (.tuple [.int 0]) H5 kb5 hb5 (.fix (.tup (at4 (Same.refl H) ht (kL _ _ (k_dd _ _ (k_l _ _ h_t)))) (.cons (.int _) .nil)) rfl ⟨by decide +kernel, by decide +kernel, by decide +kernel, by decide +kernel⟩) (fr (Same.refl H) ht))
    | 7, _ => exact ixAt hL5 (atI_nat (by rfl)) (q _ (.list [.int 0]) H5 kb5 hb5 (.lst (at4 k_t hl (kL _ _ (k_dd _ _ h_l))) (fun _ => .cons (.int _) .nil) (fun d m => by rw [List.mem_singleton.mp m]; exact ⟨by decide +kernel, by decide +kernel, by decide +kernel, by decide +kernel⟩) (Nat.le_refl _) ⟨_, _, rfl, .inl rfl⟩) (fr k_t hl))
    | 8, _ => exact ixAt hL5 (atI_nat (by rfl)) (q _ (.dict []) H5 kb5 hb5 (.d0 (at4 (k_t.trans k_l) hdd (kL _ _ h_dd))) (fr (k_t.trans k_l) hdd))
    | 9, _ => exact ixAt hL5 (atI_nat (by rfl)) (sc (d := .int (10 ^ (19 : Int).toNat)) (fun _ => .int _) rfl ⟨by decide +kernel, by decide +kernel, by decide +kernel, by decide +kernel⟩ (fun _ z => nomatch z))
theorem ok_not (F : Fd K "_law_no_text" sNoT f fd) (g : mg "_law_no_text" = some (.ref f)) (B : Bl mg) (o_law_take : Ok P w K mg base CX0 1 "_law_take" sTake ["box", "many"] spDraw1) : Ok P w K mg base CX0 2 "_law_no_text" sNoT ["box"] spNoT := by
  refine ⟨f, fd, g, F, F.bindsN fun _ _ _ _ _ _ us hl => match us, hl with | [_], _ => rfl, F.ok scNoT (fun vs H Q E h => ?_) (fun cdv A outer s H vs Q E hr h => ?_)⟩
  · obtain ⟨b, c, rfl, _⟩ := h
    rfl
  · refine ⟨_, (pss_one (ps_ret (pe_ix ix_seq (pe_lst (pa_cons pe_non (pa_cons pe_int (pa_cons pe_bl (pa_cons pe_str (pa_cons pe_str (pa_cons pe_str (pa_cons (pe_lst (pa_cons pe_str pa_nil)) (pa_cons (pe_tup (pa_cons pe_str pa_nil)) (pa_cons (pe_dct1 (pps_cons pe_str pe_int pps_nil)) pa_nil)))))))))) (pe_o o_law_take (hr.mono (by decide)) (by rfl) (pa_cons (pv 0) (pa_cons pe_int pa_nil))) fun _ _ => rfl))), ?_⟩
    obtain ⟨b, c, rfl, hb, hc, q⟩ := h
    obtain ⟨ob, hob⟩ := hb.some
    refine ⟨two_ln (by show 1 ≤ _; decide), fun l hl => ⟨two_ln (by show 1 ≤ _; decide), fun t ht dd hdd => ⟨two_ln (by show 9 ≤ _; decide), fun L hL => ?_⟩⟩⟩
    have k_l := upd_grow (o := .lst [V.str "a"]) hl
    have h_l := upd_same (H := H) (a := l) (o := .lst [V.str "a"])
    generalize upd H l (.lst [V.str "a"]) = H1 at k_l h_l ht hdd hL ⊢
    have k_t := upd_grow (o := .tup [V.str "a"]) ht
    have h_t := upd_same (H := H1) (a := t) (o := .tup [V.str "a"])
    generalize upd H1 t (.tup [V.str "a"]) = H2 at k_t h_t hdd hL ⊢
    have k_dd := upd_grow (o := .dK [(.inr "a", V.int 0)]) hdd
    have h_dd := upd_same (H := H2) (a := dd) (o := .dK [(.inr "a", V.int 0)])
    generalize upd H2 dd (.dK [(.inr "a", V.int 0)]) = H3 at k_dd h_dd hL ⊢
    have kL := upd_grow (o := .lst [.non, .int 7, .bl true, .str "abcdefghijklmnopqrstuvwxyzabcdefghijklmno", .str "a\nb", .str "\t", .ref l, .ref t, .ref dd]) hL
    have hL1 := upd_same (H := H3) (a := L) (o := .lst [.non, .int 7, .bl true, .str "abcdefghijklmnopqrstuvwxyzabcdefghijklmno", .str "a\nb", .str "\t", .ref l, .ref t, .ref dd])
    generalize upd H3 L (.lst [.non, .int 7, .bl true, .str "abcdefghijklmnopqrstuvwxyzabcdefghijklmno", .str "a\nb", .str "\t", .ref l, .ref t, .ref dd]) = H4 at kL hL1 ⊢
    have k04 : Same H H4 := k_l.trans (k_t.trans (k_dd.trans kL))
    have hob4 := k04 _ _ hob
    refine ⟨_, rfl, b, 9, c, rfl, hb.same k04, hc, by decide, by decide, fun di H5 x0 x1 kb hb5 e5 => ?_⟩
    have kb5 : But b H H5 := (But.of k04).trans kb
    have nb : ∀ {a : Addr} {o : HO} {X : Hp}, Same H X → X a = none → a ≠ b := fun {a o X} k e z => by
      rw [z, k _ _ hob] at e
      cases e
    have at4 : ∀ {a : Addr} {o : HO} {X : Hp}, Same H X → X a = none → H4 a = some o → H5 a = some o := fun {a o X} k e z => kb _ _ (nb (o := o) k e) z
    have fr : ∀ {a : Addr} {X : Hp}, Same H X → X a = none → ∀ a', V.ref a = .ref a' → H a' = none ∧ a' ≠ b := fun {a X} k e a' z => by
      cases z
      exact ⟨fresh_of k e, nb (o := .lst []) k e⟩
    have sc : ∀ {v : V} {d : PyData}, (∀ X, Rdd X v d) → flat d = true → Nc 1 600 d → (∀ a, v ≠ .ref a) → Q v H5 := fun {v d} r f n z => q v d H5 kb5 hb5 (.fix (r _) f n) fun a e => absurd e (z a)
    have hL5 := at4 (o := .lst [.non, .int 7, .bl true, .str "abcdefghijklmnopqrstuvwxyzabcdefghijklmno", .str "a\nb", .str "\t", .ref l, .ref t, .ref dd]) (k_l.trans (k_t.trans k_dd)) hL hL1
    obtain ⟨k, rfl⟩ : ∃ k : Nat, di = k := ⟨di.toNat, by omega⟩
    have hk : k < 9 := by omega
    match k, hk with
    | 0, _ => exact ixAt hL5 (atI_nat (by rfl)) (sc (d := .none) (fun _ => .non) rfl ⟨by decide +kernel, by decide +kernel, by decide +kernel, by decide +kernel⟩ (fun _ z => nomatch z))
    | 1, _ => exact ixAt hL5 (atI_nat (by rfl)) (sc (d := .int 7) (fun _ => .int _) rfl ⟨by decide +kernel, by decide +kernel, by decide +kernel, by decide +kernel⟩ (fun _ z => nomatch z))
    | 2, _ => exact ixAt hL5 (atI_nat (by rfl)) (sc (d := .bool true) (fun _ => .bl _) rfl ⟨by decide +kernel, by decide +kernel, by decide +kernel, by decide +kernel⟩ (fun _ z => nomatch z))
    | 3, _ => exact ixAt hL5 (atI_nat (by rfl)) (sc (d := .str _) (fun _ => .str _) rfl (nc_sh (by decide +kernel) (by decide +kernel)) (fun _ z => nomatch z))
    | 4, _ => exact ixAt hL5 (atI_nat (by rfl)) (sc (d := .str _) (fun _ => .str _) rfl (nc_sh (by decide +kernel) (by decide +kernel)) (fun _ z => nomatch z))
    | 5, _ => exact ixAt hL5 (atI_nat (by rfl)) (sc (d := .str _) (fun _ => .str _) rfl (nc_sh (by decide +kernel) (by decide +kernel)) (fun _ z => nomatch z))
    | 6, _ => exact ixAt hL5 (atI_nat (by rfl)) (q _ (.list [.str "a"]) H5 kb5 hb5 (.lst (at4 (Same.refl H) hl (kL _ _ (k_dd _ _ (k_t _ _ h_l)))) (fun _ => .cons (.str _) .nil) (fun d m => by rw [List.mem_singleton.mp m]; exact ⟨by decide +kernel, by decide +kernel, by decide +kernel, by decide +kernel⟩) (Nat.le_refl _) ⟨_, _, rfl, .inr rfl⟩) (fr (Same.refl H) hl))
    | 7, _ => exact ixAt hL5 (atI_nat (by rfl)) (q _ (.tuple [.str "a"]) H5 kb5 hb5 (.fix (.tup (at4 k_l ht (kL _ _ (k_dd _ _ h_t))) (.cons (.str _) .nil)) rfl ⟨by decide +kernel, by decide +kernel, by decide +kernel, by decide +kernel⟩) (fr k_l ht))
    | 8, _ => exact ixAt hL5 (atI_nat (by rfl)) (q _ (.dict [(.str "a", .int 0)]) H5 kb5 hb5 (.d1 (at4 (k_l.trans k_t) hdd (kL _ _ h_dd))) (fr (k_l.trans k_t) hdd))
end
end K04

namespace K04
open PySem PySem.Spec PyProof.Rows L2 Tn TL
abbrev sRefd : Stmt := top 57
theorem scRefd : FnScope ["net", "network", "word", "first", "second", "named", "due", "told", "turn", "given"] ["net", "network", "word", "first", "second", "named"] (defScope sRefd) := ⟨rfl, rfl, rfl, by decide +kernel, rfl, by decide +kernel, by decide +kernel⟩
def VOk (F : Addr → Prop) (H : Hp) (c : Nat) (v : V) : Prop := ∃ d, Odd H c v d ∧ ∀ a, v = .ref a → ¬ F a
theorem VOk.same {F : Addr → Prop} {H H' : Hp} {c : Nat} {v : V} (o : VOk F H c v) (k : Same H H') : VOk F H' c v :=
  let ⟨d, h, n⟩ := o
  ⟨d, h.same k, n⟩
theorem VOk.bm {F : Addr → Prop} {M : List Addr} {H H' : Hp} {c : Nat} {v : V} (o : VOk F H c v) (k : Bm M H H') (m : ∀ a ∈ M, F a) : VOk F H' c v :=
  let ⟨d, h, n⟩ := o
  ⟨d, h.bm k fun a e z => n a e (m a z), n⟩
theorem VOk.up {F : Addr → Prop} {H : Hp} {c e : Nat} {v : V} (o : VOk F H c v) (h : c ≤ e) : VOk F H e v :=
  let ⟨d, g, n⟩ := o
  ⟨d, g.up h, n⟩
/-- a list of them grows -/
theorem VOk.push {F : Addr → Prop} {H : Hp} {c : Nat} {v : V} {a : Addr} {xs : List V} {ds : List PyData} (h : H a = some (.lst xs)) (r : ∀ H', RddAll H' xs ds) (n : ∀ d ∈ ds, Nc 0 100 d) (o : VOk F H c v) : VOk F (upd H a (.lst (xs ++ [.int 0]))) (c + 1) v := by
  obtain ⟨d, o, nf⟩ := o
  have b : Bm [a] H (upd H a (.lst (xs ++ [.int 0]))) := Bm.upd h List.mem_cons_self
  by_cases e : v = .ref a
  · subst e
    obtain ⟨l1, s1⟩ : xs.length ≤ c ∧ ∃ x r, xs = x :: r ∧ (x = .int 0 ∨ x = .str "a") := by
      cases o with
      | fix r' f _ =>
        cases r' with
        | lst h2 _ => simp [flat] at f
        | tup h2 _ => rw [h] at h2; cases h2
        | dK h2 _ _ => rw [h] at h2; cases h2
      | d0 h2 => rw [h] at h2; cases h2
      | d1 h2 => rw [h] at h2; cases h2
      | lst h2 _ _ l s =>
        rw [h] at h2
        cases h2
        exact ⟨l, s⟩
    refine ⟨.list (ds ++ [.int 0]), .lst upd_same (fun H' => rdds_add (.int 0) (r H')) (fun d hd => ?_) ?_ ?_, nf⟩
    · rcases List.mem_append.mp hd with hd | hd
      · exact n d hd
      · rw [List.mem_singleton.mp hd]
        exact ⟨by decide +kernel, by decide +kernel, by decide +kernel, by decide +kernel⟩
    · rw [List.length_append]
      exact Nat.succ_le_succ l1
    · obtain ⟨x, r, rfl, z⟩ := s1
      exact ⟨x, _, rfl, z⟩
  · exact ⟨d, (o.bm b fun a' e' m => e (by rw [e', List.mem_singleton.mp m])).up (Nat.le_succ _), nf⟩
/-- what is refused speaks of what was handed -/
def From (v1 v2 : V) : Bad → Prop
  | .house v => v = v1 ∨ v = v2
  | .text v => v = v2
  | .road u v => u = v1 ∧ v = v2
  | .stopped v => v = v1 ∨ v = v2
  | .twice u v => u = v1 ∧ v = v2
  | .nothing u v => u = v1 ∧ v = v2
theorem judgeR_from {rs : List Tm.Road} {S : NS} {w : Wd} {v1 v2 : V} {a b : Nat} {e : Bad} (h : judgeR rs S w v1 v2 a b = .inl e) : From v1 v2 e := by
  unfold judgeR at h
  (repeat' split at h) <;> first | (cases h; done) | (cases h; simp [From])
theorem judgeM_from {ns : List Str} {S : NS} {v1 v2 : V} {a : Nat} {d : PyData} {e : Bad} (h : judgeM ns S v1 v2 a d = .inl e) : From v1 v2 e := by
  unfold judgeM at h
  (repeat' split at h) <;> first | (cases h; done) | (cases h; simp [From])
theorem judge_from {n : Nat} {rs : List Tm.Road} {ns : List Str} {S : NS} {w : Wd} {v1 v2 : V} {d1 d2 : PyData} {e : Bad} (h : judge n rs ns S w v1 v2 d1 d2 = .inl e) : From v1 v2 e := by
  unfold judge at h
  (repeat' split at h) <;> first | (cases h; done) | exact judgeR_from h | exact judgeM_from h | (cases h; simp [From])
theorem From.data {H : Hp} {c : Nat} {v1 v2 : V} {d1 d2 : PyData} {e : Bad} (f : From v1 v2 e) (o1 : Odd H c v1 d1) (o2 : Odd H c v2 d2) (hc : c ≤ 1000) : ∃ x xs ds, e.vs = x :: xs ∧ RddAll H e.vs ds ∧ Tame (.list ds) := by
  have g : ∀ {z : Str}, z.cps.toList.all (fun c => decide (c < 128)) = true → z.length ≤ 59 → Nc 2 110000 (.str z) := fun h1 h2 => (nc_sh h1 h2).up
  have one : ∀ {z : Str} {v : V} {d : PyData}, z.cps.toList.all (fun c => decide (c < 128)) = true → z.length ≤ 59 → Odd H c v d → RddAll H [.str z, v] [.str z, d] ∧ Tame (.list [.str z, d]) := fun {z v d} h1 h2 o =>
    ⟨.cons (.str _) (.cons o.rdd .nil), (nc_list (k := 2) (m := 110000) (l := 3) (fun x hx => by
      simp only [List.mem_cons, List.not_mem_nil, or_false] at hx
      rcases hx with rfl | rfl
      · exact g h1 h2
      · exact o.nc hc) (by show 2 ≤ 3; decide)).tame⟩
  have two : ∀ {z : Str}, z.cps.toList.all (fun c => decide (c < 128)) = true → z.length ≤ 59 → RddAll H [.str z, v1, v2] [.str z, d1, d2] ∧ Tame (.list [.str z, d1, d2]) := fun {z} h1 h2 =>
    ⟨.cons (.str _) (.cons o1.rdd (.cons o2.rdd .nil)), (nc_list (k := 2) (m := 110000) (l := 3) (fun x hx => by
      simp only [List.mem_cons, List.not_mem_nil, or_false] at hx
      rcases hx with rfl | rfl | rfl
      · exact g h1 h2
      · exact o1.nc hc
      · exact o2.nc hc) (by show 3 ≤ 3; decide)).tame⟩
  cases e with
  | house v =>
    rcases f with rfl | rfl
    · exact ⟨_, _, _, rfl, one (by decide +kernel) (by decide +kernel) o1⟩
    · exact ⟨_, _, _, rfl, one (by decide +kernel) (by decide +kernel) o2⟩
  | text v =>
    obtain rfl : v = v2 := f
    exact ⟨_, _, _, rfl, one (by decide +kernel) (by decide +kernel) o2⟩
  | stopped v =>
    rcases f with rfl | rfl
    · exact ⟨_, _, _, rfl, one (by decide +kernel) (by decide +kernel) o1⟩
    · exact ⟨_, _, _, rfl, one (by decide +kernel) (by decide +kernel) o2⟩
  | road u v =>
    obtain ⟨rfl, rfl⟩ := f
    exact ⟨_, _, _, rfl, two (by decide +kernel) (by decide +kernel)⟩
  | twice u v =>
    obtain ⟨rfl, rfl⟩ := f
    exact ⟨_, _, _, rfl, two (by decide +kernel) (by decide +kernel)⟩
  | nothing u v =>
    obtain ⟨rfl, rfl⟩ := f
    exact ⟨_, _, _, rfl, two (by decide +kernel) (by decide +kernel)⟩
def refsOf : V → List Addr
  | .ref a => [a]
  | _ => []
theorem refs_of {v : V} {a : Addr} (h : a ∈ refsOf v) : v = .ref a := by
  cases v with
  | ref b => rw [List.mem_singleton.mp h]
  | _ => cases h
/-- a law's net and a network that hold the same -/
structure Pair (K : PySem.W.Frag) (H : Hp) (p : LParts) (q : Parts) (n : Nat) (rs : List Tm.Road) (ns : List Str) (S : NS) : Prop where
  N : LNet H p n rs ns S
  M : NetS K H q n rs ns S
  nok : NamesOk n ns
  n6 : n ≤ 6
theorem Pair.bm {K : PySem.W.Frag} {H H' : Hp} {p : LParts} {q : Parts} {n : Nat} {rs : List Tm.Road} {ns : List Str} {S : NS} {L : List Addr} (P : Pair K H p q n rs ns S) (k : Bm L H H') (d : ∀ a ∈ p.all ++ q.all, a ∉ L) : Pair K H' p q n rs ns S :=
  ⟨P.N.bm k fun a m => d a (List.mem_append_left _ m), P.M.bm k fun a m => d a (List.mem_append_right _ m), P.nok, P.n6⟩
theorem Pair.same {K : PySem.W.Frag} {H H' : Hp} {p : LParts} {q : Parts} {n : Nat} {rs : List Tm.Road} {ns : List Str} {S : NS} (P : Pair K H p q n rs ns S) (k : Same H H') : Pair K H' p q n rs ns S := ⟨P.N.same k, P.M.same k, P.nok, P.n6⟩
def spRefd (K : PySem.W.Frag) : Sp := fun vs H Q _ => ∃ (p : LParts) (q : Parts) (n : Nat) (rs : List Tm.Road) (ns : List Str) (S : NS) (w : Wd) (v1 v2 : V) (d1 d2 : PyData) (bn : Bool) (e : Bad) (F : Addr → Prop) (c : Nat), vs = [.ref p.x, .ref q.x, .str w.s, v1, v2, .bl bn] ∧ Pair K H p q n rs ns S ∧ Fine n rs S 32 ∧
  Odd H c v1 d1 ∧ Odd H c v2 d2 ∧ c ≤ 990 ∧ (∀ a, v1 = .ref a → ¬ F a) ∧ (∀ a, v2 = .ref a → ¬ F a) ∧ judge n rs ns S w v1 v2 d1 d2 = .inl e ∧
  ∀ H', Bm (refsOf v1 ++ refsOf v2) H H' → (∀ v c', VOk F H c' v → VOk F H' (c' + 2) v) → Q (.bl true) H'
section
variable {P : Program} {w : World} {K : PySem.W.Frag} {mg : Str → Option Value} {base : Heap} {f : Addr} {fd : FuncData}
theorem ok_refd (F : Fd K "_law_refused" sRefd f fd) (g : mg "_law_refused" = some (.ref f)) (B : Bl mg) (T : KitK K) (hsy : ∃ o, K.lookup sysModules = some o) (o_law_wrong : Ok P w K mg base CX0 2 "_law_wrong" sWrong ["net", "word", "first", "second"] spWrong)
    (o_law_asked : Ok P w K mg base CX0 7 "_law_asked" sAsked ["network", "word", "first", "second", "named"] (spAsked K)) : OkG P w K mg base 8 "_law_refused" sRefd ["net", "network", "word", "first", "second", "named"] (spRefd K) := by
  refine ⟨f, fd, g, F, F.bindsN fun _ _ _ _ _ _ us hl => match us, hl with | [_, _, _, _, _, _], _ => rfl, F.okG scRefd (fun vs H Q E h => ?_) (fun cdv A outer s H vs Q hgd hr h => ?_)⟩
  · obtain ⟨p, q, n, rs, ns, S, w, v1, v2, d1, d2, bn, e, F, c, rfl, _⟩ := h
    rfl
  · have hu : (cxOf CX0 P w K mg base ["net", "network", "word", "first", "second", "named", "due", "told", "turn", "given"] "_law_refused" (defScope sRefd) f cdv A outer s H noE).A.units + 64 < cLine := by
      have z := hr.un
      show (A.deeper _).units + 64 < cLine
      omega
    refine ⟨_, (pss_cons (ps_par (i := 6) (j := 7) rfl scRefd.nd rfl rfl (by decide) rfl rfl (pa_cons (pe_o o_law_wrong (hr.mono (by decide)) (by rfl) (pa_cons (pv 0) (pa_cons (pv 2) (pa_cons (pv 3) (pa_cons (pv 4) pa_nil))))) (pa_cons (pe_lst pa_nil) pa_nil)) rfl)
      (pss_cons (ps_for (passes_of rfl) rfl (pi_list (pe_lst (pa_cons (pv 5) (pa_cons (pe_not (pv 5)) pa_nil)))) (pg_name (i := 8) scRefd.nd rfl (Or.inl rfl))
        (pss_cons (ps_set (i := 7) scRefd.nd rfl (Or.inl rfl) (pe_o o_law_asked (hr.mono (by decide)) (by rfl) (pa_cons (pv 1) (pa_cons (pv 2) (pa_cons (pv 3) (pa_cons (pv 4) (pa_cons (pv 8) pa_nil)))))))
        (pss_one (ps_if (pw_or (pt_cmpR (op_eqNil hu) (pv 6) (pe_lst pa_nil) (nomark _)) (pw_or1 (pt_cmpR op_ne (pe_callB (call_repr hgd hu hsy) (by rfl) (B.u "repr" (by decide +kernel)) (by decide +kernel) (pa_cons (pv 7) pa_nil)) (pe_callB (call_repr hgd hu hsy) (by rfl) (B.u "repr" (by decide +kernel)) (by decide +kernel) (pa_cons (pv 6) pa_nil)) (nomark _)))).pt
          (pss_one (ps_ret pe_bl))
          pss_nil))))
      (pss_cons (ps_for (passes_of rfl) rfl (pi_list (pe_lst (pa_cons (pv 3) (pa_cons (pv 4) pa_nil)))) (pg_name (i := 9) scRefd.nd rfl (Or.inl rfl))
        (pss_one (ps_if (pt_val (pe_callB call_isi (by rfl) (B.u "isinstance" (by decide +kernel)) boot_isinstance (pa_cons (pv 9) (pa_cons (pe_bltn (by rfl) (B.u "list" (by decide +kernel)) (by decide +kernel) (v := .ty "list") rfl) pa_nil))))
          (pss_one (ps_expr (pe_bm PySem.F.plainAttrs_list PySem.F.slot_list_append PySem.F.type_list_append mt_append (pv 9) (pa_cons pe_int pa_nil))))
          pss_nil)))
      (pss_one (ps_ret (pe_cmpR op_eq (pe_callB (call_repr hgd hu hsy) (by rfl) (B.u "repr" (by decide +kernel)) (by decide +kernel) (pa_cons (pv 7) pa_nil)) (pe_callB (call_repr hgd hu hsy) (by rfl) (B.u "repr" (by decide +kernel)) (by decide +kernel) (pa_cons (pv 6) pa_nil)) (nomark _))))))), ?_⟩
    obtain ⟨p, q, n, rs, ns, S, wd, v1, v2, d1, d2, bn, e, F, c, rfl, R, G, o1, o2, hc, f1, f2, ej, fin⟩ := h
    have fr := judge_from ej
    have lok : ∀ h, h < n → ∀ l ∈ S.lg h, lineOk l := fun h hh l hl => (G.lg h hh l hl).ok
    refine ⟨_, rfl, _, rfl, _, rfl, _, rfl, p, n, rs, ns, S, wd, v1, v2, d1, d2, rfl, R.N, R.nok, lok, o1.rdd, o2.rdd, (fun z ez => o2.str (by omega) ez), fun dl H1 k1 hdl0 hdl => ?_⟩
    rw [ej] at hdl
    have hdl : H1 dl = some (.lst e.vs) := hdl
    refine ⟨two_ln (by show 0 ≤ _; decide), fun t0 ht0 => ?_⟩
    have k2 := upd_grow (o := .lst []) ht0
    generalize upd H1 t0 (.lst []) = H2 at k2 ⊢
    have k02 := k1.trans k2
    dsimp only [gName, gNil, tNil, L2.start]
    refine ⟨_, _, rfl, ?_⟩
    refine tSeq_by (fun σ H' => ∃ (tl : Addr) (z : Option V), Same H2 H' ∧ H' tl = some (.lst e.vs) ∧ H tl = none ∧ σ = [some (.ref p.x), some (.ref q.x), some (.str wd.s), some v1, some v2, some (.bl bn), some (.ref dl), some (.ref tl), z, none]) ?_ fun rest => ?_
    · rintro σ H3 ⟨tl, z, k3, htl, htl0, rfl⟩
      have k03 := k02.trans k3
      have hdl3 := (k2.trans k3) _ _ hdl
      have n1 : ∀ {a : Addr}, H a = none → a ∉ refsOf v1 ++ refsOf v2 := fun {a} h m => by
        have no : ∀ {v : V} {d : PyData}, Rdd H v d → a ∈ refsOf v → False := fun {v d} r m => by
          rw [refs_of m] at r
          cases r with
          | lst h' _ => rw [h] at h'; cases h'
          | tup h' _ => rw [h] at h'; cases h'
          | dK h' _ _ => rw [h] at h'; cases h'
        rcases List.mem_append.mp m with m | m
        · exact no o1.rdd m
        · exact no o2.rdd m
      have V1 : VOk F H c v1 := ⟨d1, o1, f1⟩
      have V2 : VOk F H c v2 := ⟨d2, o2, f2⟩
      refine tSeq_by (fun σ H' => ∃ z1 z2 : Option V, Bm (refsOf v1 ++ refsOf v2) H3 H' ∧ (∀ v c', VOk F H3 c' v → VOk F H' (c' + 2) v) ∧ σ = [some (.ref p.x), some (.ref q.x), some (.str wd.s), some v1, some v2, some (.bl bn), some (.ref dl), some (.ref tl), z1, z2]) ?_ fun rest2 => ?_
      · rintro σ H4 ⟨z1, z2, b4, g4, rfl⟩
        obtain ⟨d1', o1', _⟩ := g4 _ _ (V1.same k03)
        obtain ⟨d2', o2', _⟩ := g4 _ _ (V2.same k03)
        obtain ⟨x, xs, ds, ev, rds, tm⟩ := fr.data o1' o2' (by omega)
        have htl4 := b4.lst (n1 htl0) htl
        have hdl4 := b4.lst (n1 hdl0) hdl3
        refine ⟨_, rfl, _, _, rfl, .lst htl4 rds, tm.s, tm.h, tm.len, _, rfl, _, _, rfl, .lst hdl4 rds, tm.s, tm.h, tm.len, rfl, ?_⟩
        rw [decide_eq_true rfl]
        exact fin _ ((Bm.of k03).trans b4) fun v c' o => g4 v c' (o.same k03)
      · refine ⟨_, rfl, _, rfl, two_ln (by show 2 ≤ _; decide), fun pl hpl => ?_⟩
        have kl := upd_grow (o := .lst [v1, v2]) hpl
        have hpl1 := upd_same (H := H3) (a := pl) (o := .lst [v1, v2])
        have hpl0 : H pl = none := fresh_of k03 hpl
        generalize upd H3 pl (.lst [v1, v2]) = H4 at kl hpl1 ⊢
        refine ⟨pl, rfl, ⟨_, SqL.of hpl1⟩, for_it (walk_list (xs := [v1, v2])) (fun i σ H' => ∃ z1 z2 : Option V, Bm (refsOf v1 ++ refsOf v2) H4 H' ∧ (∀ v c', VOk F H4 c' v → VOk F H' (c' + i) v) ∧ σ = [some (.ref p.x), some (.ref q.x), some (.str wd.s), some v1, some v2, some (.bl bn), some (.ref dl), some (.ref tl), z1, z2]) ?_ (fun i σ H' _ z => ?_) ?_ ?_⟩
        · exact ⟨_, _, Bm.of fun _ _ e => e, fun v c' o => o, rfl⟩
        · obtain ⟨_, _, b, _⟩ := z
          exact SqL.of (b.lst (n1 hpl0) hpl1)
        · rintro i x σ H5 H6 hi ⟨z1, z2, b5, g5, rfl⟩ ⟨e6, hx⟩
          subst e6
          have hi2 : i < 2 := hi
          have hx2 : (x = v1 ∨ x = v2) := by
            match i, hi, hx with
            | 0, _, hx => exact .inl (Option.some.inj hx).symm
            | 1, _, hx => exact .inr (Option.some.inj hx).symm
          have hL : ∀ {a}, x = .ref a → a ∈ refsOf v1 ++ refsOf v2 := fun {a} ea => by
            rcases hx2 with h | h
            · rw [← h, ea]
              exact List.mem_append_left _ List.mem_cons_self
            · rw [← h, ea]
              exact List.mem_append_right _ List.mem_cons_self
          have VX : VOk F H6 (c + i) x := by
            rcases hx2 with h | h
            · rw [h]; exact g5 _ _ (V1.same (k03.trans kl))
            · rw [h]; exact g5 _ _ (V2.same (k03.trans kl))
          obtain ⟨dx, ox, _⟩ := VX
          refine ⟨_, rfl, x, _, _, _, _, rfl, .ty _, ox.rdd.tx, T.tt _ (tyd_mem dx) "list" (by decide), _, rfl, iteB (fun ee => ?_) fun ee => ?_⟩
          · cases ox with
            | fix r fl nn => cases dx <;> simp [tyd, flat] at ee fl
            | d0 h => simp [tyd] at ee
            | d1 h => simp [tyd] at ee
            | @lst a xs ds h r nn l s =>
              refine ⟨_, rfl, .inl ⟨rfl, _, SqL.of h⟩, a, xs, _, rfl, rfl, h, lt_ln (by omega), ?_⟩
              exact ⟨_, _, b5.trans (Bm.upd h (hL rfl)), fun v c' o => (g5 v c' o).push h r nn, rfl⟩
          · exact ⟨_, _, b5, fun v c' o => (g5 v c' o).up (by omega), rfl⟩
        · rintro σ H5 ⟨z1, z2, b5, g5, rfl⟩
          exact rest2 _ _ ⟨_, _, (Bm.of kl).trans b5, fun v c' o => g5 v c' (o.same kl), rfl⟩
    · refine ⟨_, rfl, _, rfl, bn, rfl, two_ln (by show 2 ≤ _; decide), fun pl hpl => ?_⟩
      have kl := upd_grow (o := .lst [.bl bn, .bl (!bn)]) hpl
      have hpl1 := upd_same (H := H2) (a := pl) (o := .lst [.bl bn, .bl (!bn)])
      generalize upd H2 pl (.lst [.bl bn, .bl (!bn)]) = H3 at kl hpl1 ⊢
      have k03 := k02.trans kl
      obtain ⟨x, xs, ds, ev, rds, tm⟩ := fr.data o1 o2 (by omega)
      refine ⟨pl, rfl, ⟨_, SqL.of hpl1⟩, for_it (walk_list (xs := [.bl bn, .bl (!bn)])) (fun i σ H' => ∃ (tl : Addr) (z : Option V), Same H3 H' ∧ (0 < i → H' tl = some (.lst e.vs) ∧ H tl = none) ∧ σ = [some (.ref p.x), some (.ref q.x), some (.str wd.s), some v1, some v2, some (.bl bn), some (.ref dl), some (.ref tl), z, none]) ?_ (fun i σ H' _ z => ?_) ?_ ?_⟩
      · exact ⟨_, _, Same.refl _, (fun h => absurd h (Nat.lt_irrefl _)), rfl⟩
      · obtain ⟨_, _, k, _⟩ := z
        exact SqL.of (k _ _ hpl1)
      · rintro i x0 σ H4 H5 hi ⟨tl, z, k4, _, rfl⟩ ⟨e5, hx⟩
        subst e5
        obtain ⟨bt, rfl⟩ : ∃ bt : Bool, x0 = .bl bt := by
          match i, hi, hx with
          | 0, _, hx => exact ⟨_, (Option.some.inj hx).symm⟩
          | 1, _, hx => exact ⟨_, (Option.some.inj hx).symm⟩
        have k05 := k03.trans k4
        have R5 := R.same k05
        refine ⟨_, rfl, _, rfl, _, rfl, _, rfl, _, rfl, q, n, rs, ns, S, wd, v1, v2, d1, d2, bt, rfl, ⟨R5.M, G.few.up (by decide), lok, o1.rdd.mono k05, o2.rdd.mono k05, fun z ez => o2.str (by omega) ez⟩, (fun b l H6 ejb k6 hl0 hl => ?_), fun act l y H6 H7 ejb => by rw [ej] at ejb; cases ejb⟩
        rw [ej] at ejb
        obtain rfl : e = b := Sum.inl.inj ejb
        refine ⟨_, rfl, two_ln (by show 0 ≤ _; decide), fun pe hpe => ?_⟩
        have ke := upd_grow (o := .lst []) hpe
        have hpe1 := upd_same (H := H6) (a := pe) (o := .lst [])
        generalize upd H6 pe (.lst []) = H7 at ke hpe1 ⊢
        have k67 := k6.trans ke
        have k07 := k05.trans k67
        have hdl7 := (k2.trans (kl.trans (k4.trans k67))) _ _ hdl
        refine ⟨dl, pe, e.vs, rfl, rfl, SqL.of hdl7, SqL.of hpe1, _, rfl, iteB (fun z => by rw [ev] at z; cases z) fun _ => ?_⟩
        refine ⟨_, rfl, _, _, rfl, .lst (ke _ _ hl) (rds.mono k07), tm.s, tm.h, tm.len, _, rfl, _, _, rfl, .lst hdl7 (rds.mono k07), tm.s, tm.h, tm.len, rfl, _, rfl, ?_⟩
        rw [decide_eq_true rfl]
        refine iteF ⟨l, _, k4.trans k67, fun _ => ⟨ke _ _ hl, fresh_of k05 hl0⟩, rfl⟩
      · rintro σ H4 ⟨tl, z, k4, g, rfl⟩
        obtain ⟨g1, g2⟩ := g (by show 0 < 2; decide)
        exact rest _ _ ⟨tl, z, kl.trans k4, g1, g2, rfl⟩
end
end K04

namespace K04
open PySem PySem.Spec PyProof.Rows L2 Tn TL
abbrev sDoors : Stmt := top 58
theorem scDoors : FnScope ["box", "net", "network", "named", "houses", "asked", "u", "word", "v", "name", "text", "house", "first", "second"] ["box", "net", "network", "named"] (defScope sDoors) := ⟨rfl, rfl, rfl, by decide +kernel, rfl, by decide +kernel, by decide +kernel⟩
theorem VOk.ne {F : Addr → Prop} {H : Hp} {c : Nat} {v : V} {al : Addr} {xs : List V} (o : VOk F H c v) (h : H al = some (.lst xs)) (r : ∀ x r', xs = x :: r' → x ≠ .int 0 ∧ x ≠ .str "a") : v ≠ .ref al := by
  rintro rfl
  obtain ⟨d, o, _⟩ := o
  cases o with
  | fix r' f _ =>
    cases r' with
    | lst h2 _ => simp [flat] at f
    | tup h2 _ => rw [h] at h2; cases h2
    | dK h2 _ _ => rw [h] at h2; cases h2
  | d0 h2 => rw [h] at h2; cases h2
  | d1 h2 => rw [h] at h2; cases h2
  | lst h2 _ _ l s =>
    rw [h] at h2
    cases h2
    obtain ⟨x, r', e, z⟩ := s
    have := r x r' e
    rcases z with z | z
    · exact this.1 z
    · exact this.2 z
/-- what is asked: a word and two values -/
def It (F : Addr → Prop) (H : Hp) (c : Nat) (x : V) : Prop := ∃ (t : Addr) (w : Wd) (v1 v2 : V), x = .ref t ∧ H t = some (.lst [.str (Wd.s w), v1, v2]) ∧ ¬ F t ∧ VOk F H c v1 ∧ VOk F H c v2
section
variable {F : Addr → Prop} {H H' : Hp} {c : Nat} {x : V}
theorem It.same (i : It F H c x) (k : Same H H') : It F H' c x :=
  let ⟨t, w, v1, v2, e, h, n, o1, o2⟩ := i
  ⟨t, w, v1, v2, e, k _ _ h, n, o1.same k, o2.same k⟩
theorem It.up {e : Nat} (i : It F H c x) (l : c ≤ e) : It F H e x :=
  let ⟨t, w, v1, v2, e, h, n, o1, o2⟩ := i
  ⟨t, w, v1, v2, e, h, n, o1.up l, o2.up l⟩
theorem It.bm {M : List Addr} (i : It F H c x) (k : Bm M H H') (m : ∀ a ∈ M, F a) : It F H' c x :=
  let ⟨t, w, v1, v2, e, h, n, o1, o2⟩ := i
  ⟨t, w, v1, v2, e, k.lst (fun z => n (m t z)) h, n, o1.bm k m, o2.bm k m⟩
theorem wd_head (w : Wd) {v1 v2 x : V} {r' : List V} (e : [.str (Wd.s w), v1, v2] = x :: r') : x ≠ .int 0 ∧ x ≠ .str "a" := by
  cases e
  refine ⟨(fun z => nomatch z), fun z => ?_⟩
  have := V.str.inj z
  cases w <;> exact absurd this (by decide +kernel)
/-- a list of references is changed -/
theorem It.asked {al : Addr} {xs : List V} (i : It F H c x) (k : Bm [al] H H') (h : H al = some (.lst xs)) (r : ∀ y ∈ xs, ∃ t, y = .ref t) : It F H' c x := by
  obtain ⟨t, w, v1, v2, e, ht, n, o1, o2⟩ := i
  have hr : ∀ x r', xs = x :: r' → x ≠ .int 0 ∧ x ≠ .str "a" := fun x r' e => by
    obtain ⟨t, rfl⟩ := r x (by rw [e]; exact List.mem_cons_self)
    exact ⟨(fun z => nomatch z), fun z => nomatch z⟩
  have one : ∀ {v}, VOk F H c v → VOk F H' c v := fun {v} o => by
    have ne := o.ne h hr
    obtain ⟨d, o, nf⟩ := o
    exact ⟨d, o.bm k fun a e m => ne (by rw [e, List.mem_singleton.mp m]), nf⟩
  refine ⟨t, w, v1, v2, e, k.lst (fun m => ?_) ht, n, one o1, one o2⟩
  rw [List.mem_singleton.mp m, h] at ht
  cases ht
  obtain ⟨t', e'⟩ := r (.str (Wd.s w)) List.mem_cons_self
  cases e'
/-- values are changed -/
theorem It.refd {u1 u2 : V} (i : It F H c x) (o1' : VOk F H c u1) (o2' : VOk F H c u2) (k : Bm (refsOf u1 ++ refsOf u2) H H') (g : ∀ v c', VOk F H c' v → VOk F H' (c' + 2) v) : It F H' (c + 2) x := by
  obtain ⟨t, w, v1, v2, e, ht, n, o1, o2⟩ := i
  refine ⟨t, w, v1, v2, e, k.lst (fun m => ?_) ht, n, g _ _ o1, g _ _ o2⟩
  rcases List.mem_append.mp m with m | m
  · exact o1'.ne ht (fun x r' e => wd_head w e) (refs_of m)
  · exact o2'.ne ht (fun x r' e => wd_head w e) (refs_of m)
/-- a scalar -/
theorem VOk.sc {v : V} {d : PyData} (r : Rdd H v d) (f : flat d = true) (n : Nc 1 600 d) (z : ∀ a, v ≠ .ref a) : VOk F H c v := ⟨d, .fix r f n, fun a e => absurd e (z a)⟩
end
/-- a scalar, wherever it stands -/
def Sc (v : V) : Prop := ∃ d, (∀ X, Rdd X v d) ∧ flat d = true ∧ Nc 1 600 d ∧ ∀ a, v ≠ .ref a
theorem Sc.vok {F : Addr → Prop} {H : Hp} {c : Nat} {v : V} (s : Sc v) : VOk F H c v :=
  let ⟨_, r, f, n, z⟩ := s
  VOk.sc (r H) f n z
theorem Sc.nat {x : Nat} (h : x < 100) : Sc (.int (x : Nat)) := ⟨_, fun _ => .int _, rfl, (nc_nat h).up, fun _ z => nomatch z⟩
theorem Sc.non : Sc .non := ⟨_, fun _ => .non, rfl, nc_non.up, fun _ z => nomatch z⟩
theorem Sc.text {z : Str} (h : textS z = true) : Sc (.str z) := ⟨_, fun _ => .str _, rfl, (nc_text h).up, fun _ z => nomatch z⟩
theorem It.ref {F : Addr → Prop} {H : Hp} {c : Nat} {xs : List V} (h : ∀ x ∈ xs, It F H c x) : ∀ x ∈ xs, ∃ t, x = .ref t := fun x hx =>
  let ⟨t, _, _, _, e, _⟩ := h x hx
  ⟨t, e⟩
theorem It.all {F : Addr → Prop} {H : Hp} {c : Nat} {xs ys : List V} (h : ∀ x ∈ xs, It F H c x) (k : ∀ x ∈ ys, It F H c x) : ∀ x ∈ xs ++ ys, It F H c x := fun x hx => (List.mem_append.mp hx).elim (h x) (k x)
def spDoors (K : PySem.W.Frag) : Sp := fun vs H Q _ => ∃ (b : Addr) (p : LParts) (q : Parts) (n : Nat) (rs : List Tm.Road) (ns : List Str) (S : NS) (bn : Bool) (c : Nat), vs = [.ref b, .ref p.x, .ref q.x, .bl bn] ∧ BoxAt H b c ∧ c + 60 < 1000 ∧ Pair K H p q n rs ns S ∧ Fine n rs S 32 ∧ 1 ≤ n ∧ b ∉ p.all ++ q.all ∧
  ∀ H', But b H H' → BoxAt H' b (c + 50) → Q (.bl true) H'
section
variable {P : Program} {w : World} {K : PySem.W.Frag} {mg : Str → Option Value} {base : Heap} {f : Addr} {fd : FuncData}
theorem ok_doors (F : Fd K "_law_doors" sDoors f fd) (g : mg "_law_doors" = some (.ref f)) (B : Bl mg) (o_law_take : Ok P w K mg base CX0 1 "_law_take" sTake ["box", "many"] spDraw1) (o_law_no_house : Ok P w K mg base CX0 2 "_law_no_house" sNoH ["box", "houses"] spNoH) (o_law_no_text : Ok P w K mg base CX0 2 "_law_no_text" sNoT ["box"] spNoT)
    (o_law_wrong : Ok P w K mg base CX0 2 "_law_wrong" sWrong ["net", "word", "first", "second"] spWrong) (o_law_refused : OkG P w K mg base 8 "_law_refused" sRefd ["net", "network", "word", "first", "second", "named"] (spRefd K)) (o_law_same : OkG P w K mg base 6 "_law_same" sSame ["net", "network", "named"] (spSame K)) :
    OkG P w K mg base 9 "_law_doors" sDoors ["box", "net", "network", "named"] (spDoors K) := by
  refine ⟨f, fd, g, F, F.bindsN fun _ _ _ _ _ _ us hl => match us, hl with | [_, _, _, _], _ => rfl, F.okG scDoors (fun vs H Q E h => ?_) (fun cdv A outer s H vs Q hgd hr h => ?_)⟩
  · obtain ⟨b, p, q, n, rs, ns, S, bn, c, rfl, _⟩ := h
    rfl
  · have hu : (cxOf CX0 P w K mg base ["box", "net", "network", "named", "houses", "asked", "u", "word", "v", "name", "text", "house", "first", "second"] "_law_doors" (defScope sDoors) f cdv A outer s H noE).A.units + 64 < cLine := by
      have z := hr.un
      show (A.deeper _).units + 64 < cLine
      omega
    refine ⟨_, (pss_cons (ps_par (i := 4) (j := 5) rfl scDoors.nd rfl rfl (by decide) rfl rfl (pa_cons (pe_callB call_len (by rfl) (B.u "len" (by decide +kernel)) boot_len (pa_cons (pe_ix ix_seq (pv 1) pe_int fun _ _ => rfl) pa_nil)) (pa_cons (pe_lst pa_nil) pa_nil)) rfl)
      (pss_cons (ps_for (passes_of rfl) rfl (pi_range1 (by rfl) (B.u "range" (by decide +kernel)) (pa_cons (pv 4) pa_nil)) (pg_name (i := 6) scDoors.nd rfl (Or.inr rfl))
        (pss_cons (ps_for (passes_of rfl) rfl (pi_list (pe_lst (pa_cons pe_str (pa_cons pe_str (pa_cons pe_str pa_nil))))) (pg_name (i := 7) scDoors.nd rfl (Or.inr rfl))
          (pss_one (ps_set (i := 5) scDoors.nd rfl (Or.inl rfl) (pe_op op_cat (pv 5) (pe_lc (own := [("v", 8)]) (g := gName 8) rfl scDoors.nd (pi_range1 (by rfl) (B.u "range" (by decide +kernel)) (pa_cons (pv 4) pa_nil)) (blkOk_by (N := ["box", "net", "network", "named", "houses", "asked", "u", "word", "v", "name", "text", "house", "first", "second"]) (sc := defScope sDoors) (by decide +kernel)) (fun _ _ _ _ _ => (pg_name (i := 8) scDoors.nd rfl (Or.inl rfl))) (fun _ _ _ _ _ => pts_nil) (fun _ _ _ _ _ => (pe_lst (pa_cons (pv 7) (pa_cons (pv 6) (pa_cons (pv 8) pa_nil))))))))))
        (pss_cons (ps_set (i := 5) scDoors.nd rfl (Or.inl rfl) (pe_op op_cat (pv 5) (pe_lc (own := [("name", 9), ("text", 10)]) (g := gTup K 2 (gCons (gName 9) (gCons (gName 10) gNil))) rfl scDoors.nd (pi_list (pe_ix ix_seq (pe_ix ix_seq (pv 1) pe_int fun _ _ => rfl) (pv 6) fun _ _ => rfl)) (blkOk_by (N := ["box", "net", "network", "named", "houses", "asked", "u", "word", "v", "name", "text", "house", "first", "second"]) (sc := defScope sDoors) (by decide +kernel)) (fun _ _ _ _ _ => (pg_tup rfl (pgs_cons (pg_name (i := 9) scDoors.nd rfl (Or.inl rfl)) (pgs_cons (pg_name (i := 10) scDoors.nd rfl (Or.inl rfl)) pgs_nil)))) (fun _ _ _ _ _ => (pts_one (pt_cmpR op_eq (pv 9) (pe_ix (r := rIx K) ix_seq (pe_ix (r := rIx K) ix_seq (pv 1) pe_int fun _ _ => rfl) (pv 6) fun _ _ => rfl) (nomark _)))) (fun _ _ _ _ _ => (pe_lst (pa_cons pe_str (pa_cons (pv 6) (pa_cons (pv 10) pa_nil))))))))
        (pss_one (ps_set (i := 5) scDoors.nd rfl (Or.inl rfl) (pe_op op_cat (pv 5) (pe_lst (pa_cons (pe_lst (pa_cons pe_str (pa_cons (pv 6) (pa_cons pe_non pa_nil)))) (pa_cons (pe_lst (pa_cons pe_str (pa_cons (pv 6) (pa_cons (pe_o o_law_no_text (hr.mono (by decide)) (by rfl) (pa_cons (pv 0) pa_nil)) pa_nil)))) pa_nil)))))))))
      (pss_cons (ps_for (passes_of rfl) rfl (pi_list (pe_lst (pa_cons pe_str (pa_cons pe_str (pa_cons pe_str (pa_cons pe_str (pa_cons pe_str (pa_cons pe_str pa_nil)))))))) (pg_name (i := 7) scDoors.nd rfl (Or.inr rfl))
        (pss_cons (ps_set (i := 11) scDoors.nd rfl (Or.inl rfl) (pe_o o_law_take (hr.mono (by decide)) (by rfl) (pa_cons (pv 0) (pa_cons (pv 4) pa_nil))))
        (pss_cons (ps_expr (pe_bm PySem.F.plainAttrs_list PySem.F.slot_list_append PySem.F.type_list_append mt_append (pv 5) (pa_cons (pe_lst (pa_cons (pv 7) (pa_cons (pe_o o_law_no_house (hr.mono (by decide)) (by rfl) (pa_cons (pv 0) (pa_cons (pv 4) pa_nil))) (pa_cons (pe_ifExp (pt_cmpR op_eq (pv 7) pe_str (nomark _)) (pe_o o_law_no_text (hr.mono (by decide)) (by rfl) (pa_cons (pv 0) pa_nil)) (pe_o o_law_no_house (hr.mono (by decide)) (by rfl) (pa_cons (pv 0) (pa_cons (pv 4) pa_nil)))) pa_nil)))) pa_nil)))
        (pss_cons (ps_expr (pe_bm PySem.F.plainAttrs_list PySem.F.slot_list_append PySem.F.type_list_append mt_append (pv 5) (pa_cons (pe_lst (pa_cons (pv 7) (pa_cons (pe_o o_law_no_house (hr.mono (by decide)) (by rfl) (pa_cons (pv 0) (pa_cons (pv 4) pa_nil))) (pa_cons (pe_ifExp (pt_cmpR op_eq (pv 7) pe_str (nomark _)) pe_str (pv 11)) pa_nil)))) pa_nil)))
        (pss_one (ps_expr (pe_bm PySem.F.plainAttrs_list PySem.F.slot_list_append PySem.F.type_list_append mt_append (pv 5) (pa_cons (pe_lst (pa_cons (pv 7) (pa_cons (pv 11) (pa_cons (pe_ifExp (pt_cmpR op_eq (pv 7) pe_str (nomark _)) (pe_o o_law_no_text (hr.mono (by decide)) (by rfl) (pa_cons (pv 0) pa_nil)) (pe_o o_law_no_house (hr.mono (by decide)) (by rfl) (pa_cons (pv 0) (pa_cons (pv 4) pa_nil)))) pa_nil)))) pa_nil))))))))
      (pss_cons (ps_for (passes_of rfl) rfl (pi_list (pv 5)) (pg_unl rfl (pgs_cons (pg_name (i := 7) scDoors.nd rfl (Or.inr rfl)) (pgs_cons (pg_name (i := 12) scDoors.nd rfl (Or.inl rfl)) (pgs_cons (pg_name (i := 13) scDoors.nd rfl (Or.inl rfl)) pgs_nil))))
        (pss_one (ps_if (pt_cmpR (op_neNil hu) (pe_o o_law_wrong (hr.mono (by decide)) (by rfl) (pa_cons (pv 1) (pa_cons (pv 7) (pa_cons (pv 12) (pa_cons (pv 13) pa_nil))))) (pe_lst pa_nil) (nomark _))
          (pss_one (ps_if (pt_not (pt_val (pe_oG o_law_refused hgd (hr.mono (by decide)) (by rfl) (pa_cons (pv 1) (pa_cons (pv 2) (pa_cons (pv 7) (pa_cons (pv 12) (pa_cons (pv 13) (pa_cons (pv 3) pa_nil)))))))))
            (pss_one (ps_ret pe_bl))
            pss_nil))
          pss_nil)))
      (pss_one (ps_ret (pe_oG o_law_same hgd (hr.mono (by decide)) (by rfl) (pa_cons (pv 1) (pa_cons (pv 2) (pa_cons (pv 3) pa_nil)))))))))), ?_⟩
    obtain ⟨b, p, q, n, rs, ns, S, bn, c, rfl, hb, hc, R, G, n1, nb, fin⟩ := h
    obtain ⟨bl, hbl, _⟩ := id hb
    have n6 := R.n6
    have lok : ∀ h, h < n → ∀ l ∈ S.lg h, lineOk l := fun h hh l hl => (G.lg h hh l hl).ok
    have RB : ∀ {H'}, But b H H' → Pair K H' p q n rs ns S := fun k => R.bm (Bm.but hbl k) fun a m z => nb (List.mem_singleton.mp z ▸ m)
    have nf : ∀ {X : Hp} {t : Addr}, But b H X → (∃ o, X b = some o) → X t = none → ¬ (∃ o, H t = some o) := fun {X t} k ⟨o, ho⟩ e ⟨o2, h2⟩ => by
      by_cases z : t = b
      · rw [z, ho] at e; cases e
      · rw [k _ _ z h2] at e; cases e
    have Fb : ∃ o, H b = some o := ⟨_, hbl⟩
    have lnm : (ns.map V.str).length = n := by rw [List.length_map, R.nok.len]
    refine ⟨_, rfl, ixAt R.N.x (by rfl) ?_⟩
    refine ⟨_, _, rfl, .inl ⟨_, SqL.of R.N.nm, rfl⟩, two_ln (by show 0 ≤ _; decide), fun a0 ha0 => ?_⟩
    rw [lnm]
    have k1 := upd_grow (o := .lst []) ha0
    have ha01 := upd_same (H := H) (a := a0) (o := .lst [])
    have na0 : a0 ≠ b := fun z => by rw [z, hbl] at ha0; cases ha0
    generalize upd H a0 (.lst []) = H1 at k1 ha01 ⊢
    dsimp only [gName, gNil, tNil, L2.start]
    refine ⟨_, _, rfl, ?_⟩
    -- what is asked of each house
    refine tSeq_by (fun σ H' => ∃ (al : Addr) (xs : List V) (z1 z2 : Option V), But b H H' ∧ BoxAt H' b (c + 6) ∧ H' al = some (.lst xs) ∧ al ≠ b ∧ xs.length ≤ 360 ∧ (∀ x ∈ xs, It (fun a => ∃ o, H a = some o) H' 1 x) ∧ ¬ (∃ o, H al = some o) ∧ σ = [some (.ref b), some (.ref p.x), some (.ref q.x), some (.bl bn), some (.int (n : Nat)), some (.ref al), z1, z2, none, none, none, none, none, none]) ?_ fun rest => ?_
    · rintro σ H2 ⟨al, xs, z1, z2, k2, hb2, hal, nal, lxs, its, nfal, rfl⟩
      have pushB : ∀ {X : Hp} {l : List V}, But b H X → But b H (upd X al (.lst l)) := fun {X l} k a o na e => by
        rw [upd_ne (fun z => nfal ⟨o, by rw [← z]; exact e⟩)]
        exact k a o na e
      have mb : ∀ a ∈ [b], ∃ o, H a = some o := fun a m => by rw [List.mem_singleton.mp m]; exact Fb
      refine tSeq_by (fun σ H' => ∃ (xs : List V) (z2 z3 : Option V), But b H H' ∧ BoxAt H' b (c + 36) ∧ H' al = some (.lst xs) ∧ xs.length ≤ 380 ∧ (∀ x ∈ xs, It (fun a => ∃ o, H a = some o) H' 1 x) ∧ σ = [some (.ref b), some (.ref p.x), some (.ref q.x), some (.bl bn), some (.int (n : Nat)), some (.ref al), z1, z2, none, none, none, z3, none, none]) ?_ fun rest2 => ?_
      · rintro σ H3 ⟨xs, z2, z3, k3, hb3, hal3, lxs3, its3, rfl⟩
        have R3 := RB k3
        generalize z3 = zh
        refine tSeq_by (fun σ H' => ∃ z2 z3 z4 : Option V, But b H H' ∧ BoxAt H' b (c + 36) ∧ σ = [some (.ref b), some (.ref p.x), some (.ref q.x), some (.bl bn), some (.int (n : Nat)), some (.ref al), z1, z2, none, none, none, zh, z3, z4]) ?_ fun rest3 => ?_
        · rintro σ H4 ⟨z2, z4, z5, k4, hb4, rfl⟩
          have R4 := RB k4
          exact ⟨_, rfl, _, rfl, _, rfl, p, q, n, rs, ns, S, bn, rfl, R4.N, R4.M, R4.nok, G, n6, fun H5 k5 => fin H5 (k4.trans (But.of k5)) ((hb4.same k5).up (by omega))⟩
        · have hr3 := It.ref its3
          refine ⟨_, rfl, al, rfl, ⟨_, SqL.of hal3⟩, for_it (walk_list (xs := xs)) (fun i σ H' => ∃ z2 z3 z4 : Option V, But b H H' ∧ BoxAt H' b (c + 36) ∧ H' al = some (.lst xs) ∧ (∀ x ∈ xs, It (fun a => ∃ o, H a = some o) H' (1 + 2 * i) x) ∧ σ = [some (.ref b), some (.ref p.x), some (.ref q.x), some (.bl bn), some (.int (n : Nat)), some (.ref al), z1, z2, none, none, none, zh, z3, z4]) ?_ (fun i σ H' _ z => ?_) ?_ ?_⟩
          · exact ⟨_, _, _, k3, hb3, hal3, its3, rfl⟩
          · obtain ⟨_, _, _, _, _, h, _⟩ := z
            exact SqL.of h
          · rintro j x σ H4 H5 hj ⟨z2, z4, z5, k5, hb5, hal5, its5, rfl⟩ ⟨e5, hx⟩
            subst e5
            obtain ⟨t, w, v1, v2, rfl, ht, nt, o1, o2⟩ := its5 x (List.mem_of_getElem? hx)
            have R5 := RB k5
            obtain ⟨d1, q1, f1⟩ := id o1
            obtain ⟨d2, q2, f2⟩ := id o2
            refine ⟨t, _, rfl, SqL.of ht, rfl, _, _, rfl, _, _, rfl, _, _, rfl, rfl, ?_⟩
            refine ⟨_, rfl, _, rfl, _, rfl, _, rfl, p, n, rs, ns, S, w, v1, v2, d1, d2, rfl, R5.N, R5.nok, lok, q1.rdd, q2.rdd, (fun z ez => q2.str (by omega) ez), fun dl H6 k6 hd0 hdl => ⟨two_ln (by show 0 ≤ _; decide), fun pe hpe => ?_⟩⟩
            have ke := upd_grow (o := .lst []) hpe
            have hpe1 := upd_same (H := H6) (a := pe) (o := .lst [])
            generalize upd H6 pe (.lst []) = H7 at ke hpe1 ⊢
            have k57 := k6.trans ke
            refine ⟨dl, pe, _, rfl, rfl, SqL.of (ke _ _ hdl), SqL.of hpe1, _, rfl, iteB (fun ee => ?_) fun ee => ?_⟩
            · obtain ⟨e, ej⟩ : ∃ e, judge n rs ns S w v1 v2 d1 d2 = .inl e := by
                cases z : judge n rs ns S w v1 v2 d1 d2 with
                | inl e => exact ⟨e, rfl⟩
                | inr a => rw [z] at ee; cases ee
              refine ⟨_, rfl, _, rfl, _, rfl, _, rfl, _, rfl, _, rfl, p, q, n, rs, ns, S, w, v1, v2, d1, d2, bn, e, (fun a => ∃ o, H a = some o), 1 + 2 * j, rfl, R5.same k57, G, q1.same k57, q2.same k57, by omega, f1, f2, ej, fun H8 b8 g8 => ⟨_, rfl, iteB (fun z => by cases z) fun _ => ?_⟩⟩
              have no : ∀ {a : Addr}, (∃ o, H a = some o) → a ∉ refsOf v1 ++ refsOf v2 := fun {a} h m => by
                rcases List.mem_append.mp m with m | m
                · exact f1 a (refs_of m) h
                · exact f2 a (refs_of m) h
              obtain ⟨bx, hbx, hbox⟩ := hb5.same k57
              refine ⟨_, _, _, fun a o na e => b8 _ _ (fun _ => no ⟨o, e⟩) ((k5.trans (But.of k57)) _ _ na e), ⟨bx, b8.lst (no Fb) hbx, hbox⟩, b8.lst (fun m => ?_) (k57 _ _ hal5), fun y hy => ?_, rfl⟩
              · have hh : ∀ x r', xs = x :: r' → x ≠ .int 0 ∧ x ≠ .str "a" := fun x r' e => by
                  obtain ⟨t', rfl⟩ := hr3 x (by rw [e]; exact List.mem_cons_self)
                  exact ⟨(fun z => nomatch z), fun z => nomatch z⟩
                rcases List.mem_append.mp m with m | m
                · exact o1.ne hal5 hh (refs_of m)
                · exact o2.ne hal5 hh (refs_of m)
              · have := ((its5 y hy).same k57).refd (o1.same k57) (o2.same k57) b8 g8
                exact this.up (by omega)
            · exact ⟨_, _, _, k5.trans (But.of k57), hb5.same k57, k57 _ _ hal5, fun y hy => ((its5 y hy).same k57).up (by omega), rfl⟩
          · rintro σ H4 ⟨z2, z4, z5, k4, hb4, _, _, rfl⟩
            exact rest3 _ _ ⟨_, _, _, k4, hb4, rfl⟩
      · refine ⟨two_ln (by show 6 ≤ _; decide), fun pw hpw => ?_⟩
        generalize hW : ([.str "make", .str "hand", .str "lose", .str "under", .str "stop", .str "log"] : List V) = W
        have kw := upd_grow (o := .lst W) hpw
        have hpw1 := upd_same (H := H2) (a := pw) (o := .lst W)
        have npa : pw ≠ al := fun z => by rw [z, hal] at hpw; cases hpw
        obtain ⟨ob2, hob2⟩ := hb2.some
        have npb : pw ≠ b := fun z => by rw [z, hob2] at hpw; cases hpw
        generalize upd H2 pw (.lst W) = H3 at kw hpw1 ⊢
        have app : ∀ {X : Hp} {xs : List V} {t : Addr} {w : Wd} {v1 v2 : V} {cc : Nat}, But b H X → BoxAt X b cc → X al = some (.lst xs) → X pw = some (.lst W) → (∀ x ∈ xs, It (fun a => ∃ o, H a = some o) X 1 x) → X t = none → VOk (fun a => ∃ o, H a = some o) X 1 v1 → VOk (fun a => ∃ o, H a = some o) X 1 v2 →
            upd X t (.lst [.str (Wd.s w), v1, v2]) al = some (.lst xs) ∧ But b H (upd (upd X t (.lst [.str (Wd.s w), v1, v2])) al (.lst (xs ++ [.ref t]))) ∧ BoxAt (upd (upd X t (.lst [.str (Wd.s w), v1, v2])) al (.lst (xs ++ [.ref t]))) b cc ∧
            upd (upd X t (.lst [.str (Wd.s w), v1, v2])) al (.lst (xs ++ [.ref t])) pw = some (.lst W) ∧ ∀ x ∈ xs ++ [.ref t], It (fun a => ∃ o, H a = some o) (upd (upd X t (.lst [.str (Wd.s w), v1, v2])) al (.lst (xs ++ [.ref t]))) 1 x := fun {X xs t w v1 v2 cc} k hb' ha hp' its' ht o1 o2 => by
          have kt := upd_grow (o := .lst [.str (Wd.s w), v1, v2]) ht
          have it : It (fun a => ∃ o, H a = some o) (upd X t (.lst [.str (Wd.s w), v1, v2])) 1 (.ref t) := ⟨t, w, v1, v2, rfl, upd_same, nf k hb'.some ht, o1.same kt, o2.same kt⟩
          generalize upd X t (.lst [.str (Wd.s w), v1, v2]) = Y at kt it ⊢
          have ha' := kt _ _ ha
          have its2 : ∀ x ∈ xs, It (fun a => ∃ o, H a = some o) Y 1 x := fun x hx => (its' x hx).same kt
          refine ⟨ha', pushB (k.trans (But.of kt)), (hb'.same kt).eq (upd_ne nal.symm), by rw [upd_ne npa]; exact kt _ _ hp', fun x hx => ?_⟩
          have bm : Bm [al] Y (upd Y al (.lst (xs ++ [.ref t]))) := Bm.upd ha' List.mem_cons_self
          rcases List.mem_append.mp hx with hx | hx
          · exact (its2 x hx).asked bm ha' (It.ref its2)
          · rw [List.mem_singleton.mp hx]
            exact it.asked bm ha' (It.ref its2)
        refine ⟨pw, rfl, ⟨_, SqL.of hpw1⟩, for_it (walk_list (xs := W)) (fun j σ H' => ∃ (xs : List V) (z2 z3 : Option V), But b H H' ∧ BoxAt H' b (c + 6 + 5 * j) ∧ H' al = some (.lst xs) ∧ H' pw = some (.lst W) ∧ xs.length ≤ 360 + 3 * j ∧ (∀ x ∈ xs, It (fun a => ∃ o, H a = some o) H' 1 x) ∧ σ = [some (.ref b), some (.ref p.x), some (.ref q.x), some (.bl bn), some (.int (n : Nat)), some (.ref al), z1, z2, none, none, none, z3, none, none]) ?_ (fun i σ H' _ z => ?_) ?_ ?_⟩
        · exact ⟨xs, _, _, k2.trans (But.of kw), hb2.same kw, kw _ _ hal, hpw1, lxs, (fun x hx => (its x hx).same kw), rfl⟩
        · obtain ⟨_, _, _, _, _, _, h, _⟩ := z
          exact SqL.of h
        · rintro j x σ H4 H5 hj ⟨xs, z2', z3', k5, hb5, hal5, hpw5, lxs5, its5, rfl⟩ ⟨e5, hx⟩
          subst e5
          have hj6 : j < 6 := by rw [← hW] at hj; exact hj
          obtain ⟨w, rfl⟩ : ∃ w : Wd, x = .str (Wd.s w) := by
            rw [← hW] at hx
            match j, hj6, hx with
            | 0, _, hx => exact ⟨.make, (Option.some.inj hx).symm⟩
            | 1, _, hx => exact ⟨.hand, (Option.some.inj hx).symm⟩
            | 2, _, hx => exact ⟨.lose, (Option.some.inj hx).symm⟩
            | 3, _, hx => exact ⟨.under, (Option.some.inj hx).symm⟩
            | 4, _, hx => exact ⟨.stop, (Option.some.inj hx).symm⟩
            | 5, _, hx => exact ⟨.log, (Option.some.inj hx).symm⟩
          have byb : ∀ {X Y : Hp} {cc : Nat}, BoxAt X b cc → But b X Y → Bm [b] X Y := fun {X Y cc} ⟨l, h, _⟩ k => Bm.but h k
          refine ⟨_, rfl, _, rfl, b, n, _, rfl, hb5, by omega, by omega, by omega, fun hi H6 h0 h1 k6 hb6 e6 => ?_⟩
          obtain ⟨ho, rfl⟩ : ∃ k : Nat, hi = k := ⟨hi.toNat, by omega⟩
          have hho : ho < n := by omega
          have its6 : ∀ x ∈ xs, It (fun a => ∃ o, H a = some o) H6 1 x := fun x hx => (its5 x hx).bm (byb hb5 k6) mb
          have hal6 := k6 _ _ nal hal5
          have hpw6 := k6 _ _ npb hpw5
          have k06 := k5.trans k6
          refine tSeq_by (fun σ H' => H' = H6 ∧ σ = [some (.ref b), some (.ref p.x), some (.ref q.x), some (.bl bn), some (.int (n : Nat)), some (.ref al), z1, some (.str (Wd.s w)), none, none, none, some (.int (ho : Nat)), none, none]) ?_ fun rest1 => rest1 _ _ ⟨rfl, rfl⟩
          rintro σ H7x ⟨e7x, rfl⟩
          subst e7x
          refine tSeq_by (fun σ H' => ∃ xs : List V, But b H H' ∧ BoxAt H' b (c + 6 + 5 * j + 1 + 2) ∧ H' al = some (.lst xs) ∧ H' pw = some (.lst W) ∧ xs.length ≤ 360 + 3 * j + 1 ∧ (∀ x ∈ xs, It (fun a => ∃ o, H a = some o) H' 1 x) ∧ σ = [some (.ref b), some (.ref p.x), some (.ref q.x), some (.bl bn), some (.int (n : Nat)), some (.ref al), z1, some (.str (Wd.s w)), none, none, none, some (.int (ho : Nat)), none, none]) ?_ fun rest4 => ?_
          · rintro σ H7 ⟨xs, k7, hb7, hal7, hpw7, lxs7, its7, rfl⟩
            refine tSeq_by (fun σ H' => ∃ xs : List V, But b H H' ∧ BoxAt H' b (c + 6 + 5 * j + 1 + 2 + 1) ∧ H' al = some (.lst xs) ∧ H' pw = some (.lst W) ∧ xs.length ≤ 360 + 3 * j + 2 ∧ (∀ x ∈ xs, It (fun a => ∃ o, H a = some o) H' 1 x) ∧ σ = [some (.ref b), some (.ref p.x), some (.ref q.x), some (.bl bn), some (.int (n : Nat)), some (.ref al), z1, some (.str (Wd.s w)), none, none, none, some (.int (ho : Nat)), none, none]) ?_ fun rest5 => ?_
            · rintro σ H8 ⟨xs, k8, hb8, hal8, hpw8, lxs8, its8, rfl⟩
              refine ⟨_, rfl, .inl ⟨rfl, _, SqL.of hal8⟩, _, rfl, _, rfl, _, rfl, rfl, _, rfl, iteB (fun _ => ⟨_, rfl, b, _, rfl, hb8, by omega, fun v2 d2 H9 k9 hb9 o2 f2 => ?_⟩) fun _ => ⟨_, rfl, _, rfl, n, by omega, b, _, rfl, hb8, by omega, fun v2 d2 H9 k9 hb9 o2 f2 => ?_⟩⟩
              all_goals
                have k09 := k8.trans k9
                have its9 : ∀ x ∈ xs, It (fun a => ∃ o, H a = some o) H9 1 x := fun x hx => (its8 x hx).bm (byb hb8 k9) mb
                have vo2 : VOk (fun a => ∃ o, H a = some o) H9 1 v2 := ⟨d2, o2, fun a e => nf k8 hb8.some (f2 a e).1⟩
                refine ⟨two_ln (by show 3 ≤ _; decide), fun t ht => ?_⟩
                obtain ⟨a1, a2, a3, a4, a5⟩ := app (w := w) k09 hb9 (k9 _ _ nal hal8) (k9 _ _ npb hpw8) its9 ht (Sc.nat (x := ho) (by omega)).vok vo2
                refine ⟨al, xs, _, rfl, rfl, a1, lt_ln (by omega), xs ++ [.ref t], _, _, a2, a3.up (by omega), upd_same, a4, ?_, a5, rfl⟩
                rw [List.length_append, List.length_singleton]
                omega
            · refine ⟨_, rfl, .inl ⟨rfl, _, SqL.of hal7⟩, _, rfl, _, rfl, _, rfl, n, by omega, b, _, rfl, hb7, by omega, fun v1 d1 H8 k8 hb8 o1 f1 => ⟨_, rfl, rfl, _, rfl, iteB (fun _ => ?_) fun _ => ⟨_, rfl, ?_⟩⟩⟩
              all_goals
                have k08 := k7.trans k8
                have its8 : ∀ x ∈ xs, It (fun a => ∃ o, H a = some o) H8 1 x := fun x hx => (its7 x hx).bm (byb hb7 k8) mb
                have vo1 : VOk (fun a => ∃ o, H a = some o) H8 1 v1 := ⟨d1, o1, fun a e => nf k7 hb7.some (f1 a e).1⟩
                refine ⟨two_ln (by show 3 ≤ _; decide), fun t ht => ?_⟩
              · obtain ⟨a1, a2, a3, a4, a5⟩ := app (w := w) k08 hb8 (k8 _ _ nal hal7) (k8 _ _ npb hpw7) its8 ht vo1 (Sc.text (z := "a") (by decide +kernel)).vok
                refine ⟨al, xs, _, rfl, rfl, a1, lt_ln (by omega), rest5 _ _ ⟨xs ++ [.ref t], a2, a3, upd_same, a4, ?_, a5, rfl⟩⟩
                rw [List.length_append, List.length_singleton]
                omega
              · obtain ⟨a1, a2, a3, a4, a5⟩ := app (w := w) k08 hb8 (k8 _ _ nal hal7) (k8 _ _ npb hpw7) its8 ht vo1 (Sc.nat (x := ho) (by omega)).vok
                refine ⟨al, xs, _, rfl, rfl, a1, lt_ln (by omega), rest5 _ _ ⟨xs ++ [.ref t], a2, a3, upd_same, a4, ?_, a5, rfl⟩⟩
                rw [List.length_append, List.length_singleton]
                omega
          · refine ⟨_, rfl, .inl ⟨rfl, _, SqL.of hal6⟩, _, rfl, _, rfl, _, rfl, n, by omega, b, _, rfl, hb6, by omega, fun v1 d1 H7 k7 hb7 o1 f1 => ⟨_, rfl, rfl, _, rfl, iteB (fun _ => ⟨_, rfl, b, _, rfl, hb7, by omega, fun v2 d2 H8 k8 hb8 o2 f2 => ?_⟩) fun _ => ⟨_, rfl, _, rfl, n, by omega, b, _, rfl, hb7, by omega, fun v2 d2 H8 k8 hb8 o2 f2 => ?_⟩⟩⟩
            all_goals
              have k07 := k06.trans k7
              have k08 := k07.trans k8
              have its8 : ∀ x ∈ xs, It (fun a => ∃ o, H a = some o) H8 1 x := fun x hx => ((its6 x hx).bm (byb hb6 k7) mb).bm (byb hb7 k8) mb
              have vo1 : VOk (fun a => ∃ o, H a = some o) H8 1 v1 := VOk.bm ⟨d1, o1, fun a e => nf k06 hb6.some (f1 a e).1⟩ (byb hb7 k8) mb
              have vo2 : VOk (fun a => ∃ o, H a = some o) H8 1 v2 := ⟨d2, o2, fun a e => nf k07 hb7.some (f2 a e).1⟩
              refine ⟨two_ln (by show 3 ≤ _; decide), fun t ht => ?_⟩
              obtain ⟨a1, a2, a3, a4, a5⟩ := app (w := w) k08 hb8 (k8 _ _ nal (k7 _ _ nal hal6)) (k8 _ _ npb (k7 _ _ npb hpw6)) its8 ht vo1 vo2
              refine ⟨al, xs, _, rfl, rfl, a1, lt_ln (by omega), rest4 _ _ ⟨xs ++ [.ref t], a2, a3, upd_same, a4, ?_, a5, rfl⟩⟩
              rw [List.length_append, List.length_singleton]
              omega
        · rintro σ H4 ⟨xs, z2', z3', k4, hb4, hal4, hpw4, lxs4, its4, rfl⟩
          have lW : W.length = 6 := by rw [← hW]; rfl
          exact rest2 _ _ ⟨xs, _, _, k4, hb4.up (by omega), hal4, by omega, its4, rfl⟩
    · have mkD : ∀ {X : Hp} {t D : Addr} {w : Wd} {v1 v2 : V}, But b H X → (∃ o, X b = some o) → (∃ zs, X D = some (.lst zs)) → X t = none → Sc v1 → Sc v2 → It (fun a => ∃ o, H a = some o) (del (upd X t (.lst [.str (Wd.s w), v1, v2])) D) 1 (.ref t) := fun {X t D w v1 v2} k o hD e s1 s2 =>
        ⟨t, w, v1, v2, rfl, by
          obtain ⟨zs, hD⟩ := hD
          rw [del_ne (fun z => by rw [z, hD] at e; cases e), upd_same], nf k o e, s1.vok, s2.vok⟩
      refine ⟨_, rfl, _, rfl, by omega, by omega, for_range (n := n) (fun i σ H' => ∃ (al : Addr) (xs : List V) (z1 z2 : Option V), But b H H' ∧ BoxAt H' b (c + i) ∧ H' al = some (.lst xs) ∧ al ≠ b ∧ xs.length ≤ 60 * i ∧ (∀ x ∈ xs, It (fun a => ∃ o, H a = some o) H' 1 x) ∧ ¬ (∃ o, H al = some o) ∧ σ = [some (.ref b), some (.ref p.x), some (.ref q.x), some (.bl bn), some (.int (n : Nat)), some (.ref al), z1, z2, none, none, none, none, none, none]) ?_ ?_ ?_⟩
      · exact ⟨a0, [], _, _, But.of k1, hb.same k1, ha01, na0, Nat.le_refl _, (fun _ h => nomatch h), nf (But.of (Same.refl H)) Fb ha0, rfl⟩
      · rintro i σ H2 hi ⟨al, xs, z1, z2, k2, hb2, hal, nal, lxs, its, nfal, rfl⟩
        have e0 : (0 : Int) + i = (i : Nat) := by omega
        rw [e0]
        obtain ⟨ob2, hob2⟩ := hb2.some
        refine tSeq_by (fun σ H' => ∃ (al : Addr) (xs : List V) (z2 : Option V), Same H2 H' ∧ H' al = some (.lst xs) ∧ al ≠ b ∧ xs.length ≤ 60 * i + 18 ∧ (∀ x ∈ xs, It (fun a => ∃ o, H a = some o) H' 1 x) ∧ ¬ (∃ o, H al = some o) ∧ σ = [some (.ref b), some (.ref p.x), some (.ref q.x), some (.bl bn), some (.int (n : Nat)), some (.ref al), some (.int (i : Nat)), z2, none, none, none, none, none, none]) ?_ fun rest2 => ?_
        · rintro σ H3 ⟨al, xs, z2, k3, hal, nal, lxs, its, nfal, rfl⟩
          have k03 : But b H H3 := k2.trans (But.of k3)
          have R3 := RB k03
          have hob3 := k3 _ _ hob2
          refine tSeq_by (fun σ H' => ∃ (al : Addr) (xs : List V), Same H3 H' ∧ H' al = some (.lst xs) ∧ al ≠ b ∧ xs.length ≤ 60 * i + 50 ∧ (∀ x ∈ xs, It (fun a => ∃ o, H a = some o) H' 1 x) ∧ ¬ (∃ o, H al = some o) ∧ σ = [some (.ref b), some (.ref p.x), some (.ref q.x), some (.bl bn), some (.int (n : Nat)), some (.ref al), some (.int (i : Nat)), z2, none, none, none, none, none, none]) ?_ fun rest3 => ?_
          · rintro σ H4 ⟨al, xs, k4, hal, nal, lxs, its, nfal, rfl⟩
            have k24 := k3.trans k4
            have k04 : But b H H4 := k2.trans (But.of k24)
            refine ⟨_, rfl, _, rfl, two_ln (by show 3 ≤ _; decide), fun t1 ht1 => ?_⟩
            have i1 : It (fun a => ∃ o, H a = some o) (upd H4 t1 (.lst [.str (Wd.s .stop), .int (i : Nat), .non])) 1 (.ref t1) := ⟨t1, .stop, _, _, rfl, upd_same, nf k04 ⟨_, k24 _ _ hob2⟩ ht1, (Sc.nat (by omega)).vok, Sc.non.vok⟩
            have i1 : It (fun a => ∃ o, H a = some o) (upd H4 t1 (.lst [.str "stop", .int (i : Nat), .non])) 1 (.ref t1) := i1
            have k5 := upd_grow (o := .lst [.str "stop", .int (i : Nat), .non]) ht1
            generalize upd H4 t1 (.lst [.str "stop", .int (i : Nat), .non]) = H5 at i1 k5 ⊢
            have k25 := k24.trans k5
            have k05 : But b H H5 := k2.trans (But.of k25)
            refine ⟨_, rfl, _, rfl, b, c + i, rfl, hb2.same k25, by omega, fun v d H6 k6 hb6 od fd => ?_⟩
            obtain ⟨ob6, hob6⟩ := hb6.some
            have k06 : But b H H6 := k05.trans k6
            obtain ⟨bl5, hbl5, _⟩ := hb2.same k25
            have b6 : Bm [b] H5 H6 := Bm.but hbl5 k6
            have mb : ∀ a ∈ [b], ∃ o, H a = some o := fun a m => by rw [List.mem_singleton.mp m]; exact Fb
            have its6 : ∀ x ∈ xs, It (fun a => ∃ o, H a = some o) H6 1 x := fun x hx => ((its x hx).same k5).bm b6 mb
            have hal6 : H6 al = some (.lst xs) := k6 _ _ nal (k5 _ _ hal)
            have i16 := i1.bm b6 mb
            have vo : VOk (fun a => ∃ o, H a = some o) H6 1 v := ⟨d, od, fun a e => nf k05 ⟨_, hbl5⟩ (fd a e).1⟩
            refine ⟨two_ln (by show 3 ≤ _; decide), fun t2 ht2 => ?_⟩
            have i2 : It (fun a => ∃ o, H a = some o) (upd H6 t2 (.lst [.str (Wd.s .make), .int (i : Nat), v])) 1 (.ref t2) := ⟨t2, .make, _, _, rfl, upd_same, nf k06 ⟨_, hob6⟩ ht2, (Sc.nat (by omega)).vok, vo.same (upd_grow ht2)⟩
            have i2 : It (fun a => ∃ o, H a = some o) (upd H6 t2 (.lst [.str "make", .int (i : Nat), v])) 1 (.ref t2) := i2
            have k7 := upd_grow (o := .lst [.str "make", .int (i : Nat), v]) ht2
            generalize upd H6 t2 (.lst [.str "make", .int (i : Nat), v]) = H7 at i2 k7 ⊢
            refine ⟨two_ln (by show 2 ≤ _; decide), fun pl hpl => ?_⟩
            have k8 := upd_grow (o := .lst [.ref t1, .ref t2]) hpl
            have hpl1 := upd_same (H := H7) (a := pl) (o := .lst [.ref t1, .ref t2])
            generalize upd H7 pl (.lst [.ref t1, .ref t2]) = H8 at k8 hpl1 ⊢
            refine ⟨al, pl, xs, _, rfl, rfl, (k7.trans k8) _ _ hal6, hpl1, two_ln (by simp only [List.length_cons, List.length_nil]; omega), fun pd hpd => ?_⟩
            have k9 := upd_grow (o := .lst (xs ++ [.ref t1, .ref t2])) hpd
            have k69 := k7.trans (k8.trans k9)
            have k08 : But b H H8 := k06.trans (But.of (k7.trans k8))
            have hob8 := (k7.trans k8) _ _ hob6
            have npd : pd ≠ b := fun z => by rw [z, hob8] at hpd; cases hpd
            refine ⟨pd, _, _, _, k08.trans (But.of k9), (hb6.same k69), upd_same, npd, ?_, ?_, nf k08 ⟨_, hob8⟩ hpd, rfl⟩
            · simp only [List.length_append, List.length_cons, List.length_nil]
              omega
            · refine It.all (fun x hx => (its6 x hx).same k69) fun x hx => ?_
              simp only [List.mem_cons, List.not_mem_nil, or_false] at hx
              rcases hx with rfl | rfl
              · exact i16.same k69
              · exact i2.same (k8.trans k9)
          · obtain ⟨a, ws, ha, htop, hl, rx, _⟩ := R3.N.log hi
            have lws : ws.length ≤ 32 := by
              have := rdds_len rx
              rw [List.length_map] at this
              have := G.few.l i hi
              omega
            refine ⟨_, rfl, _, rfl, ixAt R3.N.x (by rfl) ⟨_, rfl, ixAt htop (atI_nat (by rw [List.getElem?_map, ha]; rfl)) ⟨a, rfl, ⟨_, SqL.of hl⟩, fun D hD => ?_⟩⟩⟩
            refine lc_some (walk_list (xs := ws)) (fun y X => It (fun a => ∃ o, H a = some o) X 1 y) (fun _ _ _ k h => h.same k) hD (by omega) (fun H' k => SqL.of (del_sub k _ _ hl)) ?_ ?_
            · rintro j x H4 H5 K1 N1' hj k4 hzs ⟨e5, hx⟩ hK hN
              subst e5
              have k4' := del_sub k4
              have k05 := k03.trans (But.of k4')
              have N5 := R3.N.same k4'
              have hjl : j < (S.lg i).length := by
                have := rdds_len rx
                rw [List.length_map] at this
                omega
              obtain ⟨x', hx', rx'⟩ := rdds_get (rx.mono k4') (show ((S.lg i).map lineD)[j]? = some (lineD (S.lg i)[j]) by rw [List.getElem?_map, List.getElem?_eq_getElem hjl]; rfl)
              rw [hx] at hx'
              obtain rfl : x = x' := Option.some.inj hx'
              have gl := G.lg i hi _ (List.getElem_mem hjl)
              generalize (S.lg i)[j] = l at rx' gl
              obtain ⟨l1, l2⟩ := l
              unfold lineD at rx'
              cases rx' with
              | @tup pt zs es hpt0 r2 =>
                obtain ⟨y1, y2, rfl, r3, r4⟩ := rdds_two r2
                cases r3
                cases r4
                have enm : ns[i]? = some (ns.getD i "") := by rw [List.getD_eq_getElem?_getD, List.getElem?_eq_getElem (by rw [R.nok.len]; exact hi)]; rfl
                refine ⟨pt, _, rfl, SqT.of hpt0, rfl, _, _, rfl, _, _, rfl, rfl, rfl, _, rfl, _, rfl, ixAt N5.x (by rfl) ⟨_, rfl, ixAt N5.nm (atI_nat (by rw [List.getElem?_map, enm]; rfl)) ⟨rfl, _, rfl, iteB (fun _ => ⟨_, rfl, _, rfl, two_ln (by show 3 ≤ _; decide), fun t ht => hK _ _ (upd_grow ht) ?_⟩) fun _ => hN _ (Same.refl _)⟩⟩⟩
                exact mkD (w := .make) k05 ⟨_, k4' _ _ hob3⟩ hzs ht (Sc.nat (by omega)) (Sc.text gl.2)
            · intro ys H4 k4 h4 l4 r4
              have k4' := del_sub k4
              refine ⟨al, D, xs, ys, rfl, rfl, k4' _ _ hal, h4, two_ln (by omega), fun pd hpd => ?_⟩
              have k5 := upd_grow (o := .lst (xs ++ ys)) hpd
              have k04 : But b H H4 := k03.trans (But.of k4')
              have hob4 := k4' _ _ hob3
              have npd : pd ≠ b := fun z => by rw [z, hob4] at hpd; cases hpd
              refine rest3 _ _ ⟨pd, _, k4'.trans k5, upd_same, npd, ?_, ?_, nf k04 ⟨_, hob4⟩ hpd, rfl⟩
              · rw [List.length_append]
                omega
              · exact It.all (fun x hx => (its x hx).same (k4'.trans k5)) fun x hx => ((r4 x hx).same (fun _ _ e => del_le _ _ e)).same k5
        · refine ⟨two_ln (by show 3 ≤ _; decide), fun pw hpw => ?_⟩
          have kw := upd_grow (o := .lst [.str "hand", .str "lose", .str "under"]) hpw
          have hpw1 := upd_same (H := H2) (a := pw) (o := .lst [.str "hand", .str "lose", .str "under"])
          generalize upd H2 pw (.lst [.str "hand", .str "lose", .str "under"]) = H3 at kw hpw1 ⊢
          refine ⟨pw, rfl, ⟨_, SqL.of hpw1⟩, for_it (walk_list (xs := [.str "hand", .str "lose", .str "under"])) (fun j σ H' => ∃ (al : Addr) (xs : List V) (z2 : Option V), Same H3 H' ∧ H' al = some (.lst xs) ∧ al ≠ b ∧ xs.length ≤ 60 * i + 6 * j ∧ (∀ x ∈ xs, It (fun a => ∃ o, H a = some o) H' 1 x) ∧ ¬ (∃ o, H al = some o) ∧ σ = [some (.ref b), some (.ref p.x), some (.ref q.x), some (.bl bn), some (.int (n : Nat)), some (.ref al), some (.int (i : Nat)), z2, none, none, none, none, none, none]) ?_ (fun i σ H' _ z => ?_) ?_ ?_⟩
          · exact ⟨al, xs, _, Same.refl _, kw _ _ hal, nal, lxs, fun x hx => (its x hx).same kw, nfal, rfl⟩
          · obtain ⟨_, _, _, k, _⟩ := z
            exact SqL.of (k _ _ hpw1)
          · rintro j x σ H4 H5 hj ⟨al, xs, z2, k4, hal, nal, lxs, its, nfal, rfl⟩ ⟨e5, hx⟩
            subst e5
            have hj3 : j < 3 := hj
            obtain ⟨w, rfl⟩ : ∃ w : Wd, x = .str (Wd.s w) := by
              match j, hj3, hx with
              | 0, _, hx => exact ⟨.hand, (Option.some.inj hx).symm⟩
              | 1, _, hx => exact ⟨.lose, (Option.some.inj hx).symm⟩
              | 2, _, hx => exact ⟨.under, (Option.some.inj hx).symm⟩
            have k25 := kw.trans k4
            have k05 : But b H H5 := k2.trans (But.of k25)
            have hob5 := k25 _ _ hob2
            refine ⟨_, rfl, _, rfl, _, rfl, by omega, by omega, fun D hD => ?_⟩
            refine lc_some (walk_range (lo := 0) (n := n)) (fun y X => It (fun a => ∃ o, H a = some o) X 1 y) (fun _ _ _ k h => h.same k) hD (by omega) (fun _ _ => True.intro) ?_ ?_
            · rintro m x H6 H7 K1 N1' hm k6 hzs ⟨e7, ex⟩ hK hN
              subst e7
              have k6' := del_sub k6
              have e1 : x = .int (m : Nat) := by
                rw [ex]
                exact congrArg V.int (by omega)
              subst e1
              exact ⟨rfl, _, rfl, _, rfl, _, rfl, two_ln (by show 3 ≤ _; decide), fun t ht => hK _ _ (upd_grow ht) (mkD (k05.trans (But.of k6')) ⟨_, k6' _ _ hob5⟩ hzs ht (Sc.nat (by omega)) (Sc.nat (by omega)))⟩
            · intro ys H6 k6 h6 l6 r6
              have k6' := del_sub k6
              refine ⟨al, D, xs, ys, rfl, rfl, k6' _ _ hal, h6, two_ln (by omega), fun pd hpd => ?_⟩
              have k7 := upd_grow (o := .lst (xs ++ ys)) hpd
              have k06 : But b H H6 := k05.trans (But.of k6')
              have hob6 := k6' _ _ hob5
              have npd : pd ≠ b := fun z => by rw [z, hob6] at hpd; cases hpd
              refine ⟨pd, _, _, k4.trans (k6'.trans k7), upd_same, npd, ?_, ?_, nf k06 ⟨_, hob6⟩ hpd, rfl⟩
              · rw [List.length_append]
                omega
              · exact It.all (fun x hx => (its x hx).same (k6'.trans k7)) fun x hx => ((r6 x hx).same (fun _ _ e => del_le _ _ e)).same k7
          · rintro σ H4 ⟨al, xs, z2, k4, hal, nal, lxs, its, nfal, rfl⟩
            exact rest2 _ _ ⟨al, xs, _, kw.trans k4, hal, nal, by simpa using lxs, its, nfal, rfl⟩
      · rintro σ H2 ⟨al, xs, z1, z2, k2, hb2, hal, nal, lxs, its, nfal, rfl⟩
        exact rest _ _ ⟨al, xs, z1, z2, k2, hb2.up (by omega), hal, nal, by omega, its, nfal, rfl⟩
end
end K04

namespace K04
open PySem PySem.Spec PyProof.Rows L2 Tn TL
abbrev sSpoilt : Stmt := top 59
theorem scSpoilt : FnScope ["box", "names", "kind", "at", "odd"] ["box", "names", "kind", "at"] (defScope sSpoilt) := ⟨rfl, rfl, rfl, by decide +kernel, rfl, by decide +kernel, by decide +kernel⟩
theorem cut_take (xs : List V) (k : Nat) : cutV xs none (some (k : Int)) = xs.take k := by
  unfold cutV
  rw [HT.sIx_nat, HT.sIx_none, List.drop_zero, Nat.sub_zero]
  by_cases h : k ≤ xs.length
  · rw [Nat.min_eq_left h]
  · rw [Nat.min_eq_right (by omega), List.take_length, List.take_of_length_le (by omega)]
theorem cut_drop (xs : List V) (k : Nat) (h : k ≤ xs.length) : cutV xs (some (k : Int)) none = xs.drop k := by
  unfold cutV
  rw [HT.sIx_nat, HT.sIx_none, Nat.min_eq_left h]
  exact List.take_of_length_le (by rw [List.length_drop]; exact Nat.le_refl _)
def NotN (n : Nat) (d : PyData) : Prop := ¬ ∃ ms, isNames d ms ∧ NamesOk n ms
theorem notN_row {n : Nat} {ds : List PyData} (h : ∀ ms : List Str, ds = ms.map PyData.str → NamesOk n ms → False) : NotN n (.list ds) := fun ⟨ms, i, k⟩ => h ms ((isNames_row (.inl rfl)).mp i) k
theorem notN_ty {n : Nat} {d : PyData} (h : tyd d ≠ "list") (k : tyd d ≠ "tuple") : NotN n d := fun ⟨ms, i, _⟩ => by
  rcases i with rfl | rfl
  · exact h rfl
  · exact k rfl
theorem notN_len {n : Nat} {ds : List PyData} (h : ds.length ≠ n) : NotN n (.list ds) := notN_row fun ms e k => h (by rw [e, List.length_map, k.len])
theorem notN_mem {n : Nat} {ds : List PyData} {d : PyData} (m : d ∈ ds) (h : ∀ z, d = .str z → nameS z = false) : NotN n (.list ds) := notN_row fun ms e k => by
  rw [e] at m
  obtain ⟨z, hz, rfl⟩ := List.mem_map.mp m
  have := h z rfl
  rw [k.good z hz] at this
  cases this
theorem notN_dup {n : Nat} {ds : List PyData} {i j : Nat} {d : PyData} (h1 : ds[i]? = some d) (h2 : ds[j]? = some d) (ne : i ≠ j) : NotN n (.list ds) := notN_row fun ms e k => by
  rw [e, List.getElem?_map] at h1 h2
  cases e1 : ms[i]? with
  | none => rw [e1] at h1; cases h1
  | some x =>
    cases e2 : ms[j]? with
    | none => rw [e2] at h2; cases h2
    | some y =>
      rw [e1] at h1
      rw [e2] at h2
      have : x = y := PyData.str.inj ((Option.some.inj h1).trans (Option.some.inj h2).symm)
      subst this
      obtain ⟨l1, g1⟩ := List.getElem?_eq_some_iff.mp e1
      obtain ⟨l2, g2⟩ := List.getElem?_eq_some_iff.mp e2
      exact ne ((List.getElem_inj k.diff).mp (g1.trans g2.symm))
/-- what is handed: a list, or another value -/
def Gv (H : Hp) (v : V) (d : PyData) : Prop := (∃ a xs ds, v = .ref a ∧ d = .list ds ∧ H a = some (.lst xs) ∧ RddAll (del H a) xs ds ∧ (∀ e ∈ ds, Nc 2 9000 e) ∧ ds.length ≤ 8) ∨ (tyd d ≠ "list" ∧ Rdd H v d ∧ Nc 2 9000 d)
theorem rdd_strsD {X : Hp} (zs : List Str) : RddAll X (zs.map V.str) (zs.map PyData.str) := by
  induction zs with
  | nil => exact .nil
  | cons z zs ih => exact .cons (.str _) ih
theorem cut_nc {z : Str} {k : Nat} (h : z.cps.toList.all (fun c => decide (c < 128)) = true) (l : z.length ≤ 59) : Nc 2 9000 (.str (cutS z none (some (k : Int)))) := by
  have t : (cutS z none (some (k : Int))).cps.toList = (z.cps.toList.drop (HT.sIx z.length 0 none)).take (HT.sIx z.length z.length (some (k : Int)) - HT.sIx z.length 0 none) := by
    unfold cutS
    rfl
  refine (nc_str (m := 600) (fun c hc => ?_) ?_).up
  · rw [t] at hc
    exact of_decide_eq_true (List.all_eq_true.mp h c (List.mem_of_mem_drop (List.mem_of_mem_take hc)))
  · rw [len_tl4, t, List.length_take, List.length_drop]
    have := len_tl4 z
    omega
def spSpoilt : Sp := fun vs H Q _ => ∃ (b nm : Addr) (n kd at_ c : Nat) (ns : List Str), vs = [.ref b, .ref nm, .int kd, .int at_] ∧ BoxAt H b c ∧ c < 1000 ∧ H nm = some (.lst (ns.map V.str)) ∧ NamesOk n ns ∧ n ≤ 6 ∧ at_ < n ∧ nm ≠ b ∧
  ∀ v d H', But b H H' → BoxAt H' b (c + 1) → Gv H' v d → NotN n d → (∀ a, v = .ref a → ¬ ∃ o, H a = some o) → Q v H'
section
variable {P : Program} {w : World} {K : PySem.W.Frag} {mg : Str → Option Value} {base : Heap} {f : Addr} {fd : FuncData}
theorem ok_spoilt (F : Fd K "_law_spoilt" sSpoilt f fd) (g : mg "_law_spoilt" = some (.ref f)) (B : Bl mg) (o_law_take : Ok P w K mg base CX0 1 "_law_take" sTake ["box", "many"] spDraw1) : Ok P w K mg base CX0 2 "_law_spoilt" sSpoilt ["box", "names", "kind", "at"] spSpoilt := by
  refine ⟨f, fd, g, F, F.bindsN fun _ _ _ _ _ _ us hl => match us, hl with | [_, _, _, _], _ => rfl, F.ok scSpoilt (fun vs H Q E h => ?_) (fun cdv A outer s H vs Q E hr h => ?_)⟩
  · obtain ⟨b, nm, n, kd, at_, c, ns, rfl, _⟩ := h
    rfl
  · refine ⟨_, (pss_cons (ps_set (i := 4) scSpoilt.nd rfl (Or.inl rfl) (pe_ix ix_seq (pe_lst (pa_cons pe_str (pa_cons pe_str (pa_cons pe_str (pa_cons pe_non (pa_cons pe_int (pa_cons pe_bl (pa_cons (pe_lst (pa_cons pe_str pa_nil)) (pa_cons pe_str (pa_cons pe_str (pa_cons (pe_tup (pa_cons pe_str pa_nil)) pa_nil))))))))))) (pe_o o_law_take (hr.mono (by decide)) (by rfl) (pa_cons (pv 0) (pa_cons pe_int pa_nil))) fun _ _ => rfl))
      (pss_cons (ps_if (pt_cmpR op_eq (pv 2) pe_int (nomark _))
        (pss_one (ps_ret (pe_op op_cat (pe_slice sl_list (pv 1) po_none (po_some (pv 3))) (pe_slice sl_list (pv 1) (po_some (pe_op op_add (pv 3) pe_int)) po_none))))
        pss_nil)
      (pss_cons (ps_if (pt_cmpR op_eq (pv 2) pe_int (nomark _))
        (pss_one (ps_ret (pe_op op_cat (pe_op op_cat (pe_slice sl_list (pv 1) po_none (po_some (pv 3))) (pe_lst (pa_cons pe_str pa_nil))) (pe_slice sl_list (pv 1) (po_some (pv 3)) po_none))))
        pss_nil)
      (pss_cons (ps_if (pw_and (pt_cmpR op_eq (pv 2) pe_int (nomark _)) (pw_and1 (pt_cmpR op_gt (pe_callB call_len (by rfl) (B.u "len" (by decide +kernel)) boot_len (pa_cons (pv 1) pa_nil)) pe_int (nomark _)))).pt
        (pss_one (ps_ret (pe_op op_cat (pe_op op_cat (pe_slice sl_list (pv 1) po_none (po_some (pv 3))) (pe_lst (pa_cons (pe_ix ix_seq (pv 1) (pe_op op_sub (pv 3) pe_int) fun _ _ => rfl) pa_nil))) (pe_slice sl_list (pv 1) (po_some (pe_op op_add (pv 3) pe_int)) po_none))))
        pss_nil)
      (pss_cons (ps_if (pt_cmpR op_eq (pv 2) pe_int (nomark _))
        (pss_one (ps_ret (pe_slice sl_str pe_str po_none (po_some (pe_callB call_len (by rfl) (B.u "len" (by decide +kernel)) boot_len (pa_cons (pv 1) pa_nil))))))
        pss_nil)
      (pss_cons (ps_if (pt_cmpR op_eq (pv 2) pe_int (nomark _))
        (pss_one (ps_ret (pe_ix ix_seq (pe_lst (pa_cons pe_non (pa_cons (pe_callB call_len (by rfl) (B.u "len" (by decide +kernel)) boot_len (pa_cons (pv 1) pa_nil)) (pa_cons pe_dnewK (pa_cons (pe_lst (pa_cons (pv 1) pa_nil)) pa_nil))))) (pe_op op_mod (pv 3) pe_int) fun _ _ => rfl)))
        pss_nil)
      (pss_one (ps_ret (pe_op op_cat (pe_op op_cat (pe_slice sl_list (pv 1) po_none (po_some (pv 3))) (pe_lst (pa_cons (pv 4) pa_nil))) (pe_slice sl_list (pv 1) (po_some (pe_op op_add (pv 3) pe_int)) po_none)))))))))), ?_⟩
    obtain ⟨b, nm, n, kd, at_, c, ns, rfl, hb, hc, hnm, nok, n6, la, nmb, q⟩ := h
    obtain ⟨bl, hbl, _⟩ := id hb
    have lns := nok.len
    have lnV : (ns.map V.str).length = n := by rw [List.length_map, lns]
    have nf : ∀ {X : Hp} {t : Addr}, But b H X → (∃ o, X b = some o) → X t = none → ¬ (∃ o, H t = some o) := fun {X t} k ⟨o, ho⟩ e ⟨o2, h2⟩ => by
      by_cases z : t = b
      · rw [z, ho] at e; cases e
      · rw [k _ _ z h2] at e; cases e
    have gn : ∀ z ∈ ns, Nc 2 9000 (.str z) := fun z hz => (nc_name (nok.good z hz)).up
    -- a new list is handed
    have finL : ∀ {X : Hp} {t : Addr} {xs : List V} {ds : List PyData}, But b H X → BoxAt X b (c + 1) → X t = none → RddAll X xs ds → (∀ e ∈ ds, Nc 2 9000 e) → ds.length ≤ 8 → NotN n (.list ds) → Q (.ref t) (upd X t (.lst xs)) := fun {X t xs ds} k hb' ht r nc l no => by
      have kt := upd_grow (o := .lst xs) ht
      refine q _ (.list ds) _ (k.trans (But.of kt)) (hb'.same kt) (.inl ⟨t, xs, ds, rfl, rfl, upd_same, r.mono (fun a o e => ?_), nc, l⟩) no fun a e => by cases e; exact nf k hb'.some ht
      rw [del_ne (ne_of_none e ht), upd_ne (ne_of_none e ht)]
      exact e
    dsimp only [gName, gNil, tNil, L2.start]
    refine tSeq_by (fun σ H' => ∃ (od : V) (d : PyData), But b H H' ∧ BoxAt H' b (c + 1) ∧ Rdd H' od d ∧ Nc 1 600 d ∧ (∀ z, d = .str z → nameS z = false) ∧ σ = [some (.ref b), some (.ref nm), some (.int (kd : Nat)), some (.int (at_ : Nat)), some od]) ?_ fun rest => ?_
    · rintro σ H2 ⟨od, d, k2, hb2, rod, nod, god, rfl⟩
      have hnm2 := k2 _ _ nmb hnm
      obtain ⟨ob2, hob2⟩ := hb2.some
      have tk : (ns.map V.str).take at_ = (ns.take at_).map V.str := (List.map_take ..).symm
      have same : ∀ {X : Hp}, Same H2 X → But b H X ∧ BoxAt X b (c + 1) := fun {X} k => ⟨k2.trans (But.of k), hb2.same k⟩
      have mem : ∀ {e : PyData} {zs : List Str}, e ∈ zs.map PyData.str → (∀ z ∈ zs, z ∈ ns) → Nc 2 9000 e := fun {e zs} m h => by
        obtain ⟨z, hz, rfl⟩ := List.mem_map.mp m
        exact gn z (h z hz)
      have dr : ∀ k : Nat, k ≤ n → cutV (ns.map V.str) (some (k : Int)) none = (ns.drop k).map V.str := fun k h => by
        rw [cut_drop _ _ (by rw [lnV]; exact h), List.map_drop]
      have tk : ∀ k : Nat, cutV (ns.map V.str) none (some (k : Int)) = (ns.take k).map V.str := fun k => by
        rw [cut_take, List.map_take]
      have e1 : (at_ : Int) + 1 = ((at_ + 1 : Nat) : Int) := by omega
      have lt_ : (ns.take at_).length = at_ := by rw [List.length_take]; omega
      have ld : ∀ k : Nat, (ns.drop k).length = n - k := fun k => by rw [List.length_drop, lns]
      have mt : ∀ k : Nat, ∀ z ∈ ns.take k, z ∈ ns := fun k z h => List.mem_of_mem_take h
      have md : ∀ k : Nat, ∀ z ∈ ns.drop k, z ∈ ns := fun k z h => List.mem_of_mem_drop h
      -- names[:at] + one + names[k:]
      have mid3 : ∀ {X : Hp} {t : Addr} {x : V} {e : PyData} {k : Nat}, Same H2 X → X t = none → Rdd X x e → Nc 2 9000 e → k ≤ n → (n - k) + at_ ≤ 7 → NotN n (.list ((ns.take at_).map PyData.str ++ [e] ++ (ns.drop k).map PyData.str)) →
          Q (.ref t) (upd X t (.lst ((ns.take at_).map V.str ++ [x] ++ (ns.drop k).map V.str))) := fun {X t x e k} kX ht r nc hk hl no => by
        obtain ⟨s1, s2⟩ := same kX
        refine finL s1 s2 ht (rdds_app (rdds_app (rdd_strsD _) (.cons r .nil)) (rdd_strsD _)) (fun d hd => ?_) ?_ no
        · rcases List.mem_append.mp hd with hd | hd
          · rcases List.mem_append.mp hd with hd | hd
            · exact mem hd (mt _)
            · rw [List.mem_singleton.mp hd]
              exact nc
          · exact mem hd (md _)
        · rw [List.length_append, List.length_append, List.length_map, List.length_map, lt_, ld, List.length_singleton]
          omega
      refine ⟨_, rfl, rfl, _, rfl, iteB (fun _ => ?_) fun _ => ?_⟩
      · refine ⟨_, rfl, _, rfl, _, rfl, nm, _, rfl, SqL.of hnm2, fun p1 hp1 => ?_⟩
        rw [tk]
        have k3 := upd_grow (o := .lst ((ns.take at_).map V.str)) hp1
        have h3 := upd_same (H := H2) (a := p1) (o := .lst ((ns.take at_).map V.str))
        generalize upd H2 p1 (.lst ((ns.take at_).map V.str)) = H3 at k3 h3 ⊢
        refine ⟨_, rfl, _, rfl, _, _, rfl, rfl, _, rfl, nm, _, rfl, SqL.of (k3 _ _ hnm2), fun p2 hp2 => ?_⟩
        rw [e1, dr _ (by omega)]
        have k4 := upd_grow (o := .lst ((ns.drop (at_ + 1)).map V.str)) hp2
        have h4 := upd_same (H := H3) (a := p2) (o := .lst ((ns.drop (at_ + 1)).map V.str))
        generalize upd H3 p2 (.lst ((ns.drop (at_ + 1)).map V.str)) = H4 at k4 h4 ⊢
        refine ⟨p1, p2, _, _, rfl, rfl, k4 _ _ h3, h4, two_ln (by rw [List.length_map, List.length_map, lt_, ld]; omega), fun p3 hp3 => ?_⟩
        obtain ⟨s1, s2⟩ := same (k3.trans k4)
        refine finL s1 s2 hp3 (rdds_app (rdd_strsD _) (rdd_strsD _)) (fun d hd => ?_) ?_ (notN_len ?_)
        · rcases List.mem_append.mp hd with hd | hd
          · exact mem hd (mt _)
          · exact mem hd (md _)
        · rw [List.length_append, List.length_map, List.length_map, lt_, ld]
          omega
        · rw [List.length_append, List.length_map, List.length_map, lt_, ld]
          omega
      refine ⟨_, rfl, rfl, _, rfl, iteB (fun _ => ?_) fun _ => ?_⟩
      · refine ⟨_, rfl, _, rfl, _, rfl, nm, _, rfl, SqL.of hnm2, fun p1 hp1 => ?_⟩
        rw [tk]
        have k3 := upd_grow (o := .lst ((ns.take at_).map V.str)) hp1
        have h3 := upd_same (H := H2) (a := p1) (o := .lst ((ns.take at_).map V.str))
        generalize upd H2 p1 (.lst ((ns.take at_).map V.str)) = H3 at k3 h3 ⊢
        refine ⟨two_ln (by show 1 ≤ _; decide), fun p2 hp2 => ?_⟩
        have k4 := upd_grow (o := .lst [V.str "qqqqqqqq"]) hp2
        have h4 := upd_same (H := H3) (a := p2) (o := .lst [V.str "qqqqqqqq"])
        generalize upd H3 p2 (.lst [V.str "qqqqqqqq"]) = H4 at k4 h4 ⊢
        refine ⟨p1, p2, _, _, rfl, rfl, k4 _ _ h3, h4, two_ln (by rw [List.length_map, lt_, List.length_singleton]; omega), fun p3 hp3 => ?_⟩
        have k5 := upd_grow (o := .lst ((ns.take at_).map V.str ++ [V.str "qqqqqqqq"])) hp3
        have h5 := upd_same (H := H4) (a := p3) (o := .lst ((ns.take at_).map V.str ++ [V.str "qqqqqqqq"]))
        generalize upd H4 p3 (.lst ((ns.take at_).map V.str ++ [V.str "qqqqqqqq"])) = H5 at k5 h5 ⊢
        refine ⟨_, rfl, _, rfl, _, rfl, nm, _, rfl, SqL.of ((k3.trans (k4.trans k5)) _ _ hnm2), fun p4 hp4 => ?_⟩
        rw [dr _ (by omega)]
        have k6 := upd_grow (o := .lst ((ns.drop at_).map V.str)) hp4
        have h6 := upd_same (H := H5) (a := p4) (o := .lst ((ns.drop at_).map V.str))
        generalize upd H5 p4 (.lst ((ns.drop at_).map V.str)) = H6 at k6 h6 ⊢
        refine ⟨p3, p4, _, _, rfl, rfl, k6 _ _ h5, h6, two_ln (by rw [List.length_append, List.length_map, List.length_map, lt_, ld, List.length_singleton]; omega), fun p7 hp7 => mid3 (e := .str "qqqqqqqq") (k3.trans (k4.trans (k5.trans k6))) hp7 (.str _) (nc_sh (by decide +kernel) (by decide +kernel)).up (by omega) (by omega) (notN_len ?_)⟩
        rw [List.length_append, List.length_append, List.length_map, List.length_map, lt_, ld, List.length_singleton]
        omega
      -- what is put between, behind the test of kind 2
      have rest3 : ∀ {X : Hp} {D : Ends}, D.rt = Q → True := fun _ => True.intro
      dsimp only [tNext]
      refine tSeq_by (fun σ H' => H' = H2 ∧ σ = [some (.ref b), some (.ref nm), some (.int (kd : Nat)), some (.int (at_ : Nat)), some od]) ?_ fun rest2 => ?_
      · rintro σ H3 ⟨e3, rfl⟩
        subst e3
        refine ⟨_, rfl, rfl, _, rfl, iteB (fun _ => ?_) fun _ => ?_⟩
        · refine ⟨_, rfl, _, _, rfl, .inl ⟨_, SqL.of hnm2, rfl⟩, _, rfl, _, rfl, (by decide +kernel), ?_⟩
          refine q _ (.str _) _ k2 hb2 (.inr ⟨by simp [tyd], .str _, ?_⟩) (notN_ty (by simp [tyd]) (by simp [tyd])) fun a e => nomatch e
          exact cut_nc (by decide +kernel) (by decide +kernel)
        · refine ⟨_, rfl, rfl, _, rfl, iteB (fun _ => ?_) fun _ => ?_⟩
          · refine ⟨_, rfl, _, _, rfl, .inl ⟨_, SqL.of hnm2, rfl⟩, fun dd hdd => ⟨_, rfl, two_ln (by show 1 ≤ _; decide), fun l1 hl1 => ⟨two_ln (by show 4 ≤ _; decide), fun L hL => ⟨_, rfl, _, _, rfl, rfl, (by show (0 : Int) < 4; decide), ?_⟩⟩⟩⟩
            rw [lnV]
            have k3 := upd_grow (o := .dK []) hdd
            have h3 := upd_same (H := H3) (a := dd) (o := .dK [])
            generalize upd H3 dd (.dK []) = H4 at k3 h3 hl1 hL ⊢
            have k4 := upd_grow (o := .lst [V.ref nm]) hl1
            have h4 := upd_same (H := H4) (a := l1) (o := .lst [V.ref nm])
            have d4 : Same H4 (del (upd H4 l1 (.lst [V.ref nm])) l1) := fun a o e => by
              rw [del_ne (ne_of_none e hl1), upd_ne (ne_of_none e hl1)]
              exact e
            generalize upd H4 l1 (.lst [V.ref nm]) = H5 at k4 h4 d4 hL ⊢
            have k5 := upd_grow (o := .lst [V.non, V.int (n : Nat), V.ref dd, V.ref l1]) hL
            have h5 := upd_same (H := H5) (a := L) (o := .lst [V.non, V.int (n : Nat), V.ref dd, V.ref l1])
            generalize upd H5 L (.lst [V.non, V.int (n : Nat), V.ref dd, V.ref l1]) = H6 at k5 h5 ⊢
            obtain ⟨s1, s2⟩ := same (k3.trans (k4.trans k5))
            obtain ⟨s3, s4⟩ := same k3
            have m4 : at_ % 4 < 4 := Nat.mod_lt _ (by decide)
            show rIx _ _ (V.int ((at_ : Int) % 4)) _ _
            rw [show (at_ : Int) % 4 = ((at_ % 4 : Nat) : Int) by omega]
            generalize at_ % 4 = r at m4
            match r, m4 with
            | 0, _ => exact ixAt h5 (atI_nat (by rfl)) (q .non .none _ s1 s2 (.inr ⟨by simp [tyd], .non, nc_non.up⟩) (notN_ty (by simp [tyd]) (by simp [tyd])) fun a e => nomatch e)
            | 1, _ => exact ixAt h5 (atI_nat (by rfl)) (q (.int (n : Nat)) (.int (n : Nat)) _ s1 s2 (.inr ⟨by simp [tyd], .int _, (nc_nat (by omega)).up⟩) (notN_ty (by simp [tyd]) (by simp [tyd])) fun a e => nomatch e)
            | 2, _ => exact ixAt h5 (atI_nat (by rfl)) (q (.ref dd) (.dict []) _ s1 s2 (.inr ⟨by simp [tyd], .dK ((k4.trans k5) _ _ h3) .nil .nil, ⟨by decide +kernel, by decide +kernel, by decide +kernel, by decide +kernel⟩⟩) (notN_ty (by simp [tyd]) (by simp [tyd])) fun a e => by cases e; exact nf k2 ⟨_, hob2⟩ hdd)
            | 3, _ =>
              refine ixAt h5 (atI_nat (by rfl)) (q (.ref l1) (.list [.list (ns.map PyData.str)]) _ s1 s2 (.inl ⟨l1, _, _, rfl, rfl, k5 _ _ h4, .cons (.lst (xs := ns.map V.str) ?_ (rdd_strsD _)) .nil, fun e he => ?_, by show 1 ≤ 8; decide⟩) (notN_mem List.mem_cons_self fun z e => nomatch e) fun a e => by cases e; exact nf s3 s4.some hl1)
              · have z := d4 _ _ (k3 _ _ hnm2)
                have nl : nm ≠ l1 := fun y => by rw [y, del_same] at z; cases z
                rw [del_ne nl] at z ⊢
                exact k5 _ _ z
              · rw [List.mem_singleton.mp he]
                refine (nc_list (k := 0) (m := 402) (l := 6) (fun e he => ?_) (by rw [List.length_map]; omega)).up
                obtain ⟨z, hz, rfl⟩ := List.mem_map.mp he
                exact nc_name (nok.good z hz)
          · refine ⟨_, rfl, _, rfl, _, rfl, nm, _, rfl, SqL.of hnm2, fun p1 hp1 => ?_⟩
            rw [tk]
            have k3 := upd_grow (o := .lst ((ns.take at_).map V.str)) hp1
            have h3 := upd_same (H := H3) (a := p1) (o := .lst ((ns.take at_).map V.str))
            generalize upd H3 p1 (.lst ((ns.take at_).map V.str)) = H4 at k3 h3 ⊢
            refine ⟨_, rfl, two_ln (by show 1 ≤ _; decide), fun p2 hp2 => ?_⟩
            have k4 := upd_grow (o := .lst [od]) hp2
            have h4 := upd_same (H := H4) (a := p2) (o := .lst [od])
            generalize upd H4 p2 (.lst [od]) = H5 at k4 h4 ⊢
            refine ⟨p1, p2, _, _, rfl, rfl, k4 _ _ h3, h4, two_ln (by rw [List.length_map, lt_, List.length_singleton]; omega), fun p3 hp3 => ?_⟩
            have k5 := upd_grow (o := .lst ((ns.take at_).map V.str ++ [od])) hp3
            have h5 := upd_same (H := H5) (a := p3) (o := .lst ((ns.take at_).map V.str ++ [od]))
            generalize upd H5 p3 (.lst ((ns.take at_).map V.str ++ [od])) = H6 at k5 h5 ⊢
            refine ⟨_, rfl, _, rfl, _, _, rfl, rfl, _, rfl, nm, _, rfl, SqL.of ((k3.trans (k4.trans k5)) _ _ hnm2), fun p4 hp4 => ?_⟩
            rw [e1, dr _ (by omega)]
            have k6 := upd_grow (o := .lst ((ns.drop (at_ + 1)).map V.str)) hp4
            have h6 := upd_same (H := H6) (a := p4) (o := .lst ((ns.drop (at_ + 1)).map V.str))
            generalize upd H6 p4 (.lst ((ns.drop (at_ + 1)).map V.str)) = H7 at k6 h6 ⊢
            have k27 := k3.trans (k4.trans (k5.trans k6))
            refine ⟨p3, p4, _, _, rfl, rfl, k6 _ _ h5, h6, two_ln (by rw [List.length_append, List.length_map, List.length_map, lt_, ld, List.length_singleton]; omega), fun p7 hp7 => mid3 k27 hp7 (rod.mono k27) (nod.up) (by omega) (by omega) ?_⟩
            exact notN_mem (d := d) (List.mem_append_left _ (List.mem_append_right _ List.mem_cons_self)) god
      · have go := rest2 _ _ ⟨rfl, rfl⟩
        refine ⟨_, rfl, rfl, _, rfl, iteB (fun _ => ?_) fun _ => go⟩
        refine ⟨_, rfl, _, _, rfl, .inl ⟨_, SqL.of hnm2, rfl⟩, _, _, rfl, rfl, _, rfl, iteB (fun ee => ?_) fun _ => go⟩
        have hj : ∃ j, j < n ∧ j ≠ at_ ∧ atI (ns.map V.str) ((at_ : Int) - 1) = some (.str (ns.getD j "")) ∧ (j < at_ ∨ (at_ = 0 ∧ j + 1 = n)) := by
          have l1 : 1 < n := by have := of_decide_eq_true ee; omega
          by_cases z : at_ = 0
          · refine ⟨n - 1, by omega, by omega, ?_, .inr ⟨z, by omega⟩⟩
            rw [z]
            unfold atI
            have : ixN (ns.map V.str).length ((0 : Nat) - 1 : Int) = some (n - 1) := by
              rw [lnV]
              unfold ixN
              rw [if_neg (by omega), if_pos (by omega)]
              congr 1
              omega
            rw [this]
            show (ns.map V.str)[n - 1]? = _
            rw [List.getElem?_map, List.getD_eq_getElem?_getD, List.getElem?_eq_getElem (by omega)]
            rfl
          · refine ⟨at_ - 1, by omega, by omega, ?_, .inl (by omega)⟩
            rw [show (at_ : Int) - 1 = ((at_ - 1 : Nat) : Int) by omega]
            refine atI_nat ?_
            rw [List.getElem?_map, List.getD_eq_getElem?_getD, List.getElem?_eq_getElem (by omega)]
            rfl
        obtain ⟨j, hj, nj, ej, wj⟩ := hj
        have gj : nameS (ns.getD j "") = true := nok.good _ (by rw [List.getD_eq_getElem?_getD, List.getElem?_eq_getElem (by omega)]; exact List.getElem_mem _)
        have ejd : ns[j]? = some (ns.getD j "") := by rw [List.getD_eq_getElem?_getD, List.getElem?_eq_getElem (by omega)]; rfl
        generalize ns.getD j "" = zj at ej gj ejd
        refine ⟨_, rfl, _, rfl, _, rfl, nm, _, rfl, SqL.of hnm2, fun p1 hp1 => ?_⟩
        rw [tk]
        have k3 := upd_grow (o := .lst ((ns.take at_).map V.str)) hp1
        have h3 := upd_same (H := H2) (a := p1) (o := .lst ((ns.take at_).map V.str))
        generalize upd H2 p1 (.lst ((ns.take at_).map V.str)) = H4 at k3 h3 ⊢
        refine ⟨_, rfl, _, rfl, _, _, rfl, rfl, ixAt (k3 _ _ hnm2) ej ⟨two_ln (by show 1 ≤ _; decide), fun p2 hp2 => ?_⟩⟩
        have k4 := upd_grow (o := .lst [V.str zj]) hp2
        have h4 := upd_same (H := H4) (a := p2) (o := .lst [V.str zj])
        generalize upd H4 p2 (.lst [V.str zj]) = H5 at k4 h4 ⊢
        refine ⟨p1, p2, _, _, rfl, rfl, k4 _ _ h3, h4, two_ln (by rw [List.length_map, lt_, List.length_singleton]; omega), fun p3 hp3 => ?_⟩
        have k5 := upd_grow (o := .lst ((ns.take at_).map V.str ++ [V.str zj])) hp3
        have h5 := upd_same (H := H5) (a := p3) (o := .lst ((ns.take at_).map V.str ++ [V.str zj]))
        generalize upd H5 p3 (.lst ((ns.take at_).map V.str ++ [V.str zj])) = H6 at k5 h5 ⊢
        refine ⟨_, rfl, _, rfl, _, _, rfl, rfl, _, rfl, nm, _, rfl, SqL.of ((k3.trans (k4.trans k5)) _ _ hnm2), fun p4 hp4 => ?_⟩
        rw [e1, dr _ (by omega)]
        have k6 := upd_grow (o := .lst ((ns.drop (at_ + 1)).map V.str)) hp4
        have h6 := upd_same (H := H6) (a := p4) (o := .lst ((ns.drop (at_ + 1)).map V.str))
        generalize upd H6 p4 (.lst ((ns.drop (at_ + 1)).map V.str)) = H7 at k6 h6 ⊢
        have k27 := k3.trans (k4.trans (k5.trans k6))
        refine ⟨p3, p4, _, _, rfl, rfl, k6 _ _ h5, h6, two_ln (by rw [List.length_append, List.length_map, List.length_map, lt_, ld, List.length_singleton]; omega), fun p7 hp7 => mid3 k27 hp7 (.str zj) ((nc_name gj).up) (by omega) (by omega) ?_⟩
        have i1 : (((ns.take at_).map PyData.str ++ [.str zj]) ++ (ns.drop (at_ + 1)).map PyData.str)[at_]? = some (.str zj) := by
          rw [List.getElem?_append_left (by rw [List.length_append, List.length_map, lt_, List.length_singleton]; omega), List.getElem?_append_right (by rw [List.length_map, lt_]; exact Nat.le_refl _), List.length_map, lt_, Nat.sub_self]
          rfl
        refine notN_dup (i := at_) (j := j) i1 ?_ nj.symm
        rcases wj with wj | ⟨wj, wn⟩
        · rw [List.getElem?_append_left (by rw [List.length_append, List.length_map, lt_, List.length_singleton]; omega), List.getElem?_append_left (by rw [List.length_map, lt_]; exact wj), List.getElem?_map, List.getElem?_take_of_lt wj, ejd]
          rfl
        · rw [List.getElem?_append_right (by rw [List.length_append, List.length_map, lt_, List.length_singleton]; omega), List.length_append, List.length_map, lt_, List.length_singleton, List.getElem?_map, List.getElem?_drop, show at_ + 1 + (j - (at_ + 1)) = j by omega, ejd]
          rfl
    · refine ⟨two_ln (by show 1 ≤ _; decide), fun l hl => ⟨two_ln (by show 1 ≤ _; decide), fun t ht => ⟨two_ln (by show 10 ≤ _; decide), fun L hL => ?_⟩⟩⟩
      have k_l := upd_grow (o := .lst [V.str "a"]) hl
      have h_l := upd_same (H := H) (a := l) (o := .lst [V.str "a"])
      generalize upd H l (.lst [V.str "a"]) = H1 at k_l h_l ht hL ⊢
      have k_t := upd_grow (o := .tup [V.str "a"]) ht
      have h_t := upd_same (H := H1) (a := t) (o := .tup [V.str "a"])
      generalize upd H1 t (.tup [V.str "a"]) = H3 at k_t h_t hL ⊢
      have kL := upd_grow (o := .lst [.str "", .str "Ann", .str "ninelette", .non, .int 7, .bl true, .ref l, .str "a b", .str "a1", .ref t]) hL
      have hL1 := upd_same (H := H3) (a := L) (o := .lst [.str "", .str "Ann", .str "ninelette", .non, .int 7, .bl true, .ref l, .str "a b", .str "a1", .ref t])
      generalize upd H3 L (.lst [.str "", .str "Ann", .str "ninelette", .non, .int 7, .bl true, .ref l, .str "a b", .str "a1", .ref t]) = H4 at kL hL1 ⊢
      have k04 : Same H H4 := k_l.trans (k_t.trans kL)
      refine ⟨_, rfl, b, 10, c, rfl, hb.same k04, hc, by decide, by decide, fun di H5 x0 x1 kb hb5 e5 => ?_⟩
      have kb5 : But b H H5 := (But.of k04).trans kb
      have nbl : ∀ {a : Addr} {X : Hp}, Same H X → X a = none → a ≠ b := fun {a X} k e z => by
        rw [z, k _ _ hbl] at e
        cases e
      have go : ∀ {od : V} {d : PyData}, Rdd H5 od d → Nc 1 600 d → (∀ z, d = .str z → nameS z = false) → _ := fun {od d} r n g => rest [some (.ref b), some (.ref nm), some (.int (kd : Nat)), some (.int (at_ : Nat)), some od] H5 ⟨od, d, kb5, hb5, r, n, g, rfl⟩
      have hL5 := kb _ _ (nbl (k_l.trans k_t) hL) hL1
      have hl5 := kb _ _ (nbl (Same.refl H) hl) (kL _ _ (k_t _ _ h_l))
      have ht5 := kb _ _ (nbl k_l ht) (kL _ _ h_t)
      obtain ⟨k, rfl⟩ : ∃ k : Nat, di = k := ⟨di.toNat, by omega⟩
      have hk : k < 10 := by omega
      match k, hk with
      | 0, _ => exact ixAt hL5 (atI_nat (by rfl)) (go (.str _) (nc_sh (by decide +kernel) (by decide +kernel)) fun z e => by cases e; decide +kernel)
      | 1, _ => exact ixAt hL5 (atI_nat (by rfl)) (go (.str _) (nc_sh (by decide +kernel) (by decide +kernel)) fun z e => by cases e; decide +kernel)
      | 2, _ => exact ixAt hL5 (atI_nat (by rfl)) (go (.str _) (nc_sh (by decide +kernel) (by decide +kernel)) fun z e => by cases e; decide +kernel)
      | 3, _ => exact ixAt hL5 (atI_nat (by rfl)) (go .non ⟨by decide +kernel, by decide +kernel, by decide +kernel, by decide +kernel⟩ fun z e => nomatch e)
      | 4, _ => exact ixAt hL5 (atI_nat (by rfl)) (go (.int _) ⟨by decide +kernel, by decide +kernel, by decide +kernel, by decide +kernel⟩ fun z e => nomatch e)
      | 5, _ => exact ixAt hL5 (atI_nat (by rfl)) (go (.bl _) ⟨by decide +kernel, by decide +kernel, by decide +kernel, by decide +kernel⟩ fun z e => nomatch e)
      | 6, _ => exact ixAt hL5 (atI_nat (by rfl)) (go (d := .list [.str "a"]) (.lst hl5 (.cons (.str _) .nil)) ⟨by decide +kernel, by decide +kernel, by decide +kernel, by decide +kernel⟩ fun z e => nomatch e)
      | 7, _ => exact ixAt hL5 (atI_nat (by rfl)) (go (.str _) (nc_sh (by decide +kernel) (by decide +kernel)) fun z e => by cases e; decide +kernel)
      | 8, _ => exact ixAt hL5 (atI_nat (by rfl)) (go (.str _) (nc_sh (by decide +kernel) (by decide +kernel)) fun z e => by cases e; decide +kernel)
      | 9, _ => exact ixAt hL5 (atI_nat (by rfl)) (go (d := .tuple [.str "a"]) (.tup ht5 (.cons (.str _) .nil)) ⟨by decide +kernel, by decide +kernel, by decide +kernel, by decide +kernel⟩ fun z e => nomatch e)
end
end K04

namespace K04
open PySem PySem.Spec PyProof.Rows L2 Tn TL
abbrev sNRef : Stmt := top 60
theorem scNRef : FnScope ["tree", "given", "named", "e"] ["tree", "given", "named"] (defScope sNRef) := ⟨rfl, rfl, rfl, by decide +kernel, rfl, by decide +kernel, by decide +kernel⟩
/-- the clause for a list of names that is refused -/
def TsI (K : PySem.W.Frag) (a : Addr) (cls : Value) (d : Option Addr) : TS := fun D σ H => ∃ (v : V) (dv : PyData) (dd : Addr), σ[1]? = some (some v) ∧ σ[3]? = some (some (.ref a)) ∧ cls = .ref (He.ga K "InvalidNames") ∧ d = some dd ∧ H dd = some (.xd [("given", v)]) ∧ Gv H v dv ∧ ∀ H', Bm (refsOf v) H H' → D.rt (.bl true) H'
theorem Gv.rdd {H : Hp} {v : V} {d : PyData} (g : Gv H v d) : Rdd H v d := by
  rcases g with ⟨a, xs, ds, rfl, rfl, h, r, _, _⟩ | ⟨_, r, _⟩
  · exact .lst h (r.mono fun a o e => del_le _ _ e)
  · exact r
theorem Gv.same {H H' : Hp} {v : V} {d : PyData} (g : Gv H v d) (k : Same H H') : Gv H' v d := by
  rcases g with ⟨a, xs, ds, rfl, rfl, h, r, n, l⟩ | ⟨t, r, n⟩
  · exact .inl ⟨a, xs, ds, rfl, rfl, k _ _ h, r.mono (del_mono k), n, l⟩
  · exact .inr ⟨t, r.mono k, n⟩
theorem Gv.tame {H : Hp} {v : V} {d : PyData} (g : Gv H v d) : Tame d := by
  rcases g with ⟨a, xs, ds, rfl, rfl, h, r, n, l⟩ | ⟨t, r, n⟩
  · exact (nc_list (k := 2) (m := 9000) (l := 8) n l).tame
  · exact n.tame
def spNRef (K : PySem.W.Frag) : Sp := fun vs H Q _ => ∃ (t : Addr) (n : Nat) (rs : List Tm.Road) (v : V) (d : PyData) (bn : Bool), vs = [.ref t, v, .bl bn] ∧ TreeAt K H t n rs ∧ Gv H v d ∧ NotN n d ∧ ∀ H', Bm (refsOf v) H H' → Q (.bl true) H'
section
variable {P : Program} {w : World} {K : PySem.W.Frag} {mg : Str → Option Value} {base : Heap} {f : Addr} {fd fdN : FuncData}
theorem ok_nref (F : Fd K "_law_names_refused" sNRef f fd) (g : mg "_law_names_refused" = some (.ref f)) (B : Bl mg) (T : KitK K) (CK : NetK K mg) (hsy : ∃ o, K.lookup sysModules = some o) (FN : Md K "__init__" "Network.__init__" sNInit (MN K "__init__") fdN)
    (oN : FnOk P w K mg base (L2N.CX P w) 4 (MN K "__init__") fdN ["self", "tree", "names"] (spNInit K)) (E1 : ErrK K mg "InvalidNames") (m1 : PySem.W.exmOne K (.ref (He.ga K "InvalidNames")) (.ref (He.ga K "InvalidNames")) = some true) (n1 : PySem.W.findIn K (.ref (He.ga K "InvalidNames")) "given" = some none) :
    OkG P w K mg base 7 "_law_names_refused" sNRef ["tree", "given", "named"] (spNRef K) := by
  refine ⟨f, fd, g, F, F.bindsN fun _ _ _ _ _ _ us hl => match us, hl with | [_, _, _], _ => rfl, F.okG scNRef (fun vs H Q E h => ?_) (fun cdv A outer s H vs Q hgd hr h => ?_)⟩
  · obtain ⟨t, n, rs, v, d, bn, rfl, _⟩ := h
    rfl
  · have hu : (cxOf CX0 P w K mg base ["tree", "given", "named", "e"] "_law_names_refused" (defScope sNRef) f cdv A outer s H noE).A.units + 64 < cLine := by
      have z := hr.un
      show (A.deeper _).units + 64 < cLine
      omega
    refine ⟨_, pss_cons (L2N.ps_try_manyAs (Wout := fun _ _ _ _ => False) (l := [(.ref (He.ga K "InvalidNames"), 3, TsI K)]) rfl rfl scNRef.nd takes_none
        (fun W pn xe tk _ => (pss_one (ps_if (pt_val (pv 2))
          (pss_one (ps_expr (pe_makeSK CK.mkN oN (hr.mono (by decide)) (by rfl) CK.g (FN.kbn0 1 ["names", "tree"] (pick [0, 2, 1]) (pick_rel [0, 2, 1]) fun _ _ _ _ _ _ us ws l1 l2 => match us, ws, l1, l2 with | [_], [_, _], _, _ => rfl) (fun σ => L2N.passAt tk σ) (pk_cons (pv 1) (pk_cons (pv 0) pk_nil)))))
          (pss_one (ps_expr (pe_makeS CK.mkN oN (hr.mono (by decide)) (by rfl) CK.g (FN.kbn0 3 [] (pick [0, 1, 2]) (pick_rel [0, 1, 2]) fun _ _ _ _ _ _ us ws l1 l2 => match us, ws, l1, l2 with | [_, _, _], [], _, _ => rfl) (fun σ => L2N.passAt tk σ) (pa_cons (pv 0) (pa_cons (pv 1) pa_nil))))))))
        (.cons ⟨by rfl, by decide, .inl E1.g⟩ rfl rfl (fun a oe cls d pn hz hv => ?_) .nil)) (pss_one (ps_ret pe_bl)), ?_⟩
    · have hps : ∀ q ∈ [(a, oe)], q ∈ ((cxOf CX0 P w K mg base ["tree", "given", "named", "e"] "_law_names_refused" (defScope sNRef) f cdv A outer s H noE).suite a ((a, oe) :: pn)).pn := fun q hq => by
        rw [List.mem_singleton.mp hq]
        exact List.mem_cons_self
      have hgd : ((cxOf CX0 P w K mg base ["tree", "given", "named", "e"] "_law_names_refused" (defScope sNRef) f cdv A outer s H noE).suite a ((a, oe) :: pn)).A.guards = some [] := hgd
      have hu : ((cxOf CX0 P w K mg base ["tree", "given", "named", "e"] "_law_names_refused" (defScope sNRef) f cdv A outer s H noE).suite a ((a, oe) :: pn)).A.units + 64 < cLine := hu
      refine pss_mono (pss_cons (ps_if (pt_val (pe_callB call_isi (by rfl) (B.u "isinstance" (by decide +kernel)) boot_isinstance (pa_cons (pv 1) (pa_cons (pe_bltn (by rfl) (B.u "list" (by decide +kernel)) (by decide +kernel) (v := .ty "list") rfl) pa_nil))))
          (pss_one (ps_expr (pe_bm PySem.F.plainAttrs_list PySem.F.slot_list_append PySem.F.type_list_append mt_append (pv 1) (pa_cons pe_str pa_nil))))
          pss_nil)
        (pss_one (ps_ret (pe_cmpR op_eq (pe_callB (call_repr hgd hu hsy) (by rfl) (B.u "repr" (by decide +kernel)) (by decide +kernel) (pa_cons (pe_evF hps (pv 3)) pa_nil)) (pe_callB (call_repr hgd hu hsy) (by rfl) (B.u "repr" (by decide +kernel)) (by decide +kernel) (pa_cons (pv 1) pa_nil)) (nomark _))))) fun D σ H1 h => ?_
      obtain ⟨v, dv, dd, hx, he, rfl, rfl, hdd, gv, fin⟩ := h
      have ev : ∀ {H'}, H' dd = some (.xd [("given", v)]) → EvP [(a, oe)] H' a (He.ga K "InvalidNames") dd [("given", v)] := fun e => ⟨.inr ⟨oe, List.mem_cons_self, hz.1, hz.2.1, hv⟩, .inr e⟩
      refine ⟨_, hx, v, _, _, _, _, rfl, .ty _, gv.rdd.tx, T.tt _ (tyd_mem dv) "list" (by decide), _, rfl, iteB (fun e => ?_) fun e => ?_⟩
      · have e : tyd dv = "list" := by simpa using e
        rcases gv with ⟨b, xs, ds, rfl, rfl, hb, ra, nc, l8⟩ | ⟨z, _⟩
        · have lx : xs.length = ds.length := rdds_len ra
          have nb : dd ≠ b := fun z => by rw [z, hb] at hdd; cases hdd
          have hd2 : upd H1 b (.lst (xs ++ [V.str "x"])) dd = some (.xd [("given", .ref b)]) := by rw [upd_ne nb]; exact hdd
          have kd : Same (del H1 b) (upd H1 b (.lst (xs ++ [V.str "x"]))) := fun c o z => by
            have nc : c ≠ b := fun y => by rw [y, del_same] at z; cases z
            rw [del_ne nc] at z
            rw [upd_ne nc]
            exact z
          have rb : Rdd (upd H1 b (.lst (xs ++ [V.str "x"]))) (.ref b) (.list (ds ++ [.str "x"])) := .lst upd_same (rdds_app (ra.mono kd) (.cons (.str _) .nil))
          have tn : Tame (.list (ds ++ [.str "x"])) := (nc_list (k := 2) (m := 9000) (l := 9) (fun e he => by
            rcases List.mem_append.mp he with he | he
            · exact nc e he
            · rw [List.mem_singleton.mp he]
              exact (nc_sh (by decide +kernel) (by decide +kernel)).up) (by rw [List.length_append, List.length_singleton]; omega)).tame
          refine ⟨_, hx, .inl ⟨rfl, _, SqL.of hb⟩, b, xs, _, rfl, rfl, hb, lt_ln (by omega), ?_⟩
          refine ⟨_, he, a, _, dd, _, _, rfl, ev hd2, E1.X, n1, rfl, _, _, rfl, rb, tn.s, tn.h, tn.len, _, hx, _, _, rfl, rb, tn.s, tn.h, tn.len, rfl, ?_⟩
          rw [decide_eq_true rfl]
          exact fin _ (Bm.upd hb List.mem_cons_self)
        · exact absurd e z
      · have tn := gv.tame
        refine ⟨_, he, a, _, dd, _, _, rfl, ev hdd, E1.X, n1, rfl, _, _, rfl, gv.rdd, tn.s, tn.h, tn.len, _, hx, _, _, rfl, gv.rdd, tn.s, tn.h, tn.len, rfl, ?_⟩
        rw [decide_eq_true rfl]
        exact fin _ (Bm.of (Same.refl _))
    · obtain ⟨t, n, rs, v, d, bn, rfl, Tr, gv, no, q⟩ := h
      have init : ∀ {x dx : Addr} {Q2 : VK} {D : Ends} {z : Option V}, D.rt = Q → H x = none → H dx = none → dx ≠ x → spNInit K [.ref x, .ref t, v] (upd (upd H dx (.own x)) x (.ins (CN K) dx [])) Q2 (fun cls d H' => L2N.wManyAs K (fun _ _ _ _ => False) D [(.ref (He.ga K "InvalidNames"), 3, TsI K)] cls d [some (.ref t), some v, some (.bl bn), none] H') := by
        intro x dx Q2 D z eD hx hdx ne
        have hx2 : upd H dx (.own x) x = none := by rw [upd_ne ne.symm]; exact hx
        have km : Same H (upd (upd H dx (.own x)) x (.ins (CN K) dx [])) := (upd_grow hdx).trans (upd_grow hx2)
        refine ⟨x, dx, t, v, d, n, rs, rfl, upd_same, Tr.bm (M := []) (Bm.of km), gv.rdd.mono km, gv.tame, fun _ dd H2 k2 h2 => ?_, fun ns nm lg wt ht dd la tab H' i _ _ A => absurd ⟨ns, i, A.nok⟩ no⟩
        refine ⟨true, m1, fun _ a ha => ⟨v, d, dd, rfl, rfl, rfl, rfl, h2, gv.same (km.trans k2), fun H3 b3 => ?_⟩, fun z => nomatch z⟩
        show D.rt _ _
        rw [eD]
        exact q _ ((Bm.of (km.trans k2)).trans b3)
      refine ⟨_, rfl, bn, rfl, ?_⟩
      cases bn with
      | true => exact iteT ⟨_, rfl, _, rfl, rfl, rfl, fun x dx hx hdx ne => init (z := none) rfl hx hdx ne⟩
      | false => exact iteF ⟨_, rfl, _, rfl, rfl, rfl, fun x dx hx hdx ne => init (z := none) rfl hx hdx ne⟩
end
end K04

namespace K04
open PySem PySem.Spec PyProof.Rows L2 Tn TL
theorem isRoads_one {d : PyData} {rs qs : List Tm.Road} (h : isRoads d rs) (k : isRoads d qs) : rs = qs := by
  rcases h with rfl | rfl <;> rcases k with k | k <;> first | (cases k; done) | skip
  · exact rds_inj (PyData.list.inj k)
  · exact rds_inj (PyData.tuple.inj k)
/-- Tree(..) of right values -/
theorem made_ok {K : PySem.W.Frag} {H : Hp} {vh vr : V} {dr : PyData} {n : Nat} {rs : List Tm.Road} {E : XK} {W : Nat → List Tm.Road → Prop} (n1 : 1 ≤ n) (n2 : n ≤ 64) (ir : isRoads dr rs) (ok : Tm.RoadsOk n rs) (jo : Tm.Joined n rs) (k : W n rs) : Made K H vh vr (.int n) dr E W := by
  have one : ∀ {m : Nat}, PyData.int (n : Int) = .int m → m = n := fun e => by
    have := PyData.int.inj e
    omega
  refine ⟨fun no => absurd ⟨n, rfl, n1, n2⟩ no, fun m e h1 h2 no => ?_, fun m qs b hh e h1 h2 ir2 ok2 df hl hno _ => ?_, fun m qs e h1 h2 ir2 ok2 jo2 => ?_⟩
  · obtain rfl := one e
    exact absurd ⟨rs, ir, ok⟩ no
  · obtain rfl := one e
    obtain rfl := isRoads_one ir ir2
    obtain ⟨b2, df2, lb⟩ := jo
    obtain rfl := df.det df2
    have G := df.going .start
    have lt : ∀ h, ∀ x ∈ Tm.near rs h, x < m := fun h x hx => (Tm.near_lt ok.bnd hx).1
    exact absurd (Tm.all_keys G.g.nodup (G.g.bound h1 lt) (by simpa [Tm.keys] using lb) hh hl) hno
  · obtain rfl := one e
    obtain rfl := isRoads_one ir ir2
    exact k
theorem rds_tame {n : Nat} {rs : List Tm.Road} {dr : PyData} (n2 : n ≤ 64) (ir : isRoads dr rs) (ok : Tm.RoadsOk n rs) : Tame dr := by
  have l0 := ok.len
  have nc : ∀ d ∈ rs.map rd, Nc 1 100 d := fun d hd => by
    obtain ⟨r, hr, rfl⟩ := List.mem_map.mp hd
    have := ok.bnd r hr
    exact nc_rd (by omega) (by omega)
  rcases ir with rfl | rfl
  · exact (nc_list (k := 1) (m := 100) (l := 64) nc (by rw [List.length_map]; omega)).tame (by decide) (by decide)
  · exact (nc_tup (k := 1) (m := 100) (l := 64) nc (by rw [List.length_map]; omega)).tame (by decide) (by decide)
theorem init_ok {K : PySem.W.Frag} {H : Hp} {vs : List V} {x dx : Addr} {n : Nat} {rs : List Tm.Road} {xh : V} {dr : PyData} {Q2 : Hp → Prop} (hvs : vs = [.ref x, .int (n : Nat), xh]) (n1 : 1 ≤ n) (n2 : n ≤ 64) (ir : isRoads dr rs) (ok : Tm.RoadsOk n rs) (jo : Tm.Joined n rs) (rx : Rdd H xh dr)
    (hx : H x = none) (hdx : H dx = none) (ne : dx ≠ x) (k : ∀ H', Same H H' → TreeAt K H' x n rs → Q2 H') : spInit K vs (upd (upd H dx (.own x)) x (.ins (CT K) dx [])) (fun v H' => v = .non ∧ Q2 H') noE := by
  subst hvs
  have hx2 : upd H dx (.own x) x = none := by rw [upd_ne ne.symm]; exact hx
  have km : Same H (upd (upd H dx (.own x)) x (.ins (CT K) dx [])) := (upd_grow hdx).trans (upd_grow hx2)
  exact ⟨x, dx, .int (n : Nat), xh, .int (n : Nat), dr, rfl, upd_same, .int _, rx.mono km, rds_tame n2 ir ok, made_ok n1 n2 ir ok jo fun H7 k7 T7 => ⟨rfl, k H7 (fun b o e => k7 _ _ (ne_of_none e hx) (km _ _ e)) T7⟩⟩
theorem names_tame {n : Nat} {ns : List Str} (n2 : n ≤ 64) (nok : NamesOk n ns) {d : PyData} (i : isNames d ns) : Tame d := by
  have nc : ∀ d ∈ ns.map PyData.str, Nc 0 402 d := fun d hd => by
    obtain ⟨z, hz, rfl⟩ := List.mem_map.mp hd
    exact nc_name (nok.good z hz)
  rcases i with rfl | rfl
  · exact (nc_list (k := 0) (m := 402) (l := 64) nc (by rw [List.length_map, nok.len]; exact n2)).tame (by decide) (by decide)
  · exact (nc_tup (k := 0) (m := 402) (l := 64) nc (by rw [List.length_map, nok.len]; exact n2)).tame (by decide) (by decide)
theorem isNames_one {d : PyData} {ns ms : List Str} (h : isNames d ns) (k : isNames d ms) : ns = ms := by
  rcases h with rfl | rfl <;> rcases k with k | k <;> first | (cases k; done) | skip
  · exact strs_inj (PyData.list.inj k)
  · exact strs_inj (PyData.tuple.inj k)
/-- Network(..) of right names -/
theorem ninit_ok {K : PySem.W.Frag} {H : Hp} {vs : List V} {x dx t : Addr} {v : V} {d : PyData} {n : Nat} {rs : List Tm.Road} {ns : List Str} {Q2 : Hp → Prop} (hvs : vs = [.ref x, .ref t, v]) (T : TreeAt K H t n rs) (rv : Rdd H v d) (i : isNames d ns) (nok : NamesOk n ns)
    (hx : H x = none) (hdx : H dx = none) (ne : dx ≠ x) (k : ∀ H' (q : Parts), Same H H' → q.x = x → q.t = t → (∀ a ∈ q.all, H a = none) → NetS K H' q n rs ns NS.new → Q2 H') : spNInit K vs (upd (upd H dx (.own x)) x (.ins (CN K) dx [])) (fun v H' => v = .non ∧ Q2 H') noE := by
  subst hvs
  have hx2 : upd H dx (.own x) x = none := by rw [upd_ne ne.symm]; exact hx
  have km : Same H (upd (upd H dx (.own x)) x (.ins (CN K) dx [])) := (upd_grow hdx).trans (upd_grow hx2)
  refine ⟨x, dx, t, v, d, n, rs, rfl, upd_same, T.bm (M := []) (Bm.of km), rv.mono km, names_tame T.le nok i, fun no => absurd ⟨ns, i, nok⟩ no, fun ms nm lg wt ht dd la tab H7 i2 k7 fr A => ⟨rfl, ?_⟩⟩
  obtain rfl := isNames_one i i2
  exact k H7 ⟨x, t, nm, lg, wt, ht, dd, la, tab⟩ (fun b o e => k7 _ _ (ne_of_none e hx) (km _ _ e)) rfl rfl (fun a m => fresh_of km (fr a m)) (NetS.made A)
/-! ### two nets and two networks -/
structure Sep (b : Addr) (O : List Addr) (p : Nat → LParts) (q : Nat → Parts) : Prop where
  box : ∀ i, i < 2 → b ∉ (p i).all ++ (q i).all
  ob : b ∉ O
  out : ∀ i, i < 2 → ∀ o ∈ O, o ∉ (p i).M ++ (q i).M
  own1 : ∀ i, i < 2 → ∀ a ∈ (p i).all, a ∉ (q i).M
  own2 : ∀ i, i < 2 → ∀ a ∈ (q i).all, a ∉ (p i).M
  oth : ∀ i j, i < 2 → j < 2 → i ≠ j → ∀ a ∈ (p j).all ++ (q j).all, a ∉ (p i).M ++ (q i).M
structure Wd2 (K : PySem.W.Frag) (H : Hp) (b : Addr) (c : Nat) (t rl nl tl ntl nwl : Addr) (p : Nat → LParts) (q : Nat → Parts) (n : Nat) (rs : List Tm.Road) (ns ts : List Str) (S : Nat → NS) (e : Nat) : Prop where
  bx : BoxAt H b c
  pr : ∀ i, i < 2 → Pair K H (p i) (q i) n rs ns (S i) ∧ Fine n rs (S i) e
  nl : H nl = some (.lst (ns.map V.str))
  rl : ∃ ys, H rl = some (.lst ys) ∧ RddAll H ys (rs.map rd)
  tl : H tl = some (.lst (ts.map V.str))
  ntl : H ntl = some (.lst [.ref (p 0).x, .ref (p 1).x])
  nwl : H nwl = some (.lst [.ref (q 0).x, .ref (q 1).x])
  tr : TreeAt K H t n rs
section
variable {K : PySem.W.Frag} {H H' : Hp} {b : Addr} {c : Nat} {t rl nl tl ntl nwl : Addr} {p : Nat → LParts} {q : Nat → Parts} {n : Nat} {rs : List Tm.Road} {ns ts : List Str} {S : Nat → NS} {e : Nat}
theorem flat_rds2 (rs : List Tm.Road) : flatAll (rs.map rd) = true := by
  have := flat_rds rs
  simpa only [flat] using this
theorem Wd2.upto {M : List Addr} (W : Wd2 K H b c t rl nl tl ntl nwl p q n rs ns ts S e) (k : Bm M H H') {c' e' : Nat} {S' : Nat → NS} (bx : BoxAt H' b c') (o : ∀ a ∈ [nl, rl, tl, ntl, nwl], a ∉ M) (pr : ∀ i, i < 2 → Pair K H' (p i) (q i) n rs ns (S' i) ∧ Fine n rs (S' i) e') :
    Wd2 K H' b c' t rl nl tl ntl nwl p q n rs ns ts S' e' := by
  obtain ⟨ys, h, r⟩ := W.rl
  exact ⟨bx, pr, k.lst (o _ (by simp)) W.nl, ⟨ys, k.lst (o _ (by simp)) h, rdds_bm k r (flat_rds2 rs)⟩, k.lst (o _ (by simp)) W.tl, k.lst (o _ (by simp)) W.ntl, k.lst (o _ (by simp)) W.nwl, W.tr.bm k⟩
theorem Wd2.same (W : Wd2 K H b c t rl nl tl ntl nwl p q n rs ns ts S e) (k : Same H H') : Wd2 K H' b c t rl nl tl ntl nwl p q n rs ns ts S e :=
  W.upto (M := []) (Bm.of k) (W.bx.same k) (fun _ _ z => nomatch z) fun i hi => ⟨(W.pr i hi).1.same k, (W.pr i hi).2⟩
theorem Wd2.but {c' : Nat} (W : Wd2 K H b c t rl nl tl ntl nwl p q n rs ns ts S e) (P : Sep b [nl, rl, tl, ntl, nwl] p q) (k : But b H H') (bx : BoxAt H' b c') : Wd2 K H' b c' t rl nl tl ntl nwl p q n rs ns ts S e := by
  obtain ⟨l, h, _⟩ := W.bx
  have bm := Bm.but h k
  exact W.upto bm bx (fun a m z => P.ob (List.mem_singleton.mp z ▸ m)) fun i hi => ⟨(W.pr i hi).1.bm bm fun a m z => P.box i hi (List.mem_singleton.mp z ▸ m), (W.pr i hi).2⟩
theorem Wd2.up {e' : Nat} (W : Wd2 K H b c t rl nl tl ntl nwl p q n rs ns ts S e) (h : e ≤ e') : Wd2 K H b c t rl nl tl ntl nwl p q n rs ns ts S e' :=
  ⟨W.bx, fun i hi => ⟨(W.pr i hi).1, (W.pr i hi).2.up h⟩, W.nl, W.rl, W.tl, W.ntl, W.nwl, W.tr⟩
theorem Wd2.upc {c' : Nat} (W : Wd2 K H b c t rl nl tl ntl nwl p q n rs ns ts S e) (h : c ≤ c') : Wd2 K H b c' t rl nl tl ntl nwl p q n rs ns ts S e :=
  ⟨W.bx.up h, W.pr, W.nl, W.rl, W.tl, W.ntl, W.nwl, W.tr⟩
theorem parts_sub {a : Addr} {q : Parts} (h : a ∈ q.M) : a ∈ q.all := by
  unfold Parts.M at h
  unfold Parts.all
  simp only [List.mem_cons, List.mem_append] at h ⊢
  rcases h with h | h | h | h
  · exact .inr (.inr (.inl h))
  · exact .inr (.inr (.inr (.inl h)))
  · exact .inr (.inr (.inr (.inr (.inl h))))
  · exact .inr (.inr (.inr (.inr (.inr h))))
theorem lparts_sub {a : Addr} {p : LParts} (h : a ∈ p.M) : a ∈ p.all := by
  unfold LParts.M at h
  unfold LParts.all
  simp only [List.mem_cons, List.mem_append] at h ⊢
  rcases h with h | h | h | h
  · exact .inr (.inr (.inr (.inr (.inr (.inl h)))))
  · exact .inr (.inr (.inr (.inr (.inr (.inr (.inl h))))))
  · exact .inr (.inr (.inr (.inr (.inr (.inr (.inr (.inl h)))))))
  · exact .inr (.inr (.inr (.inr (.inr (.inr (.inr (.inr h)))))))
/-- one of the two goes on -/
theorem Wd2.step (W : Wd2 K H b c t rl nl tl ntl nwl p q n rs ns ts S e) (P : Sep b [nl, rl, tl, ntl, nwl] p q) {i : Nat} (hi : i < 2) (k : Bm ((p i).M ++ (q i).M) H H') {S' : NS} {e' : Nat} (he : e ≤ e') (pr : Pair K H' (p i) (q i) n rs ns S') (f : Fine n rs S' e') :
    Wd2 K H' b c t rl nl tl ntl nwl p q n rs ns ts (fun j => if j = i then S' else S j) e' := by
  obtain ⟨l, h, hb⟩ := W.bx
  refine W.upto k ⟨l, k.lst (fun m => ?_) h, hb⟩ (fun a m => P.out i hi a m) fun j hj => ?_
  · rcases List.mem_append.mp m with m | m
    · exact P.box i hi (List.mem_append_left _ (lparts_sub m))
    · exact P.box i hi (List.mem_append_right _ (parts_sub m))
  · by_cases z : j = i
    · subst z
      simp only [if_true]
      exact ⟨pr, f⟩
    · simp only [if_neg z]
      exact ⟨(W.pr j hj).1.bm k fun a m => P.oth i j hi hj (Ne.symm z) a m, (W.pr j hj).2.up he⟩
end
/-- what is told of an act has its bounds -/
theorem ans_nc {n : Nat} {rs : List Tm.Road} {ns : List Str} {S : NS} {w : Wd} {v1 v2 : V} {act : Act} (nok : NamesOk n ns) (G : Fine n rs S 32) (A : ActOk n rs ns S w v1 v2 act) : Nc 2 40000 (ansD ns S act) := by
  cases A with
  | @make a z h1 h2 h3 h4 =>
    have enm : ns[a]? = some (ns.getD a "") := by rw [List.getD_eq_getElem?_getD, List.getElem?_eq_getElem (by rw [nok.len]; exact h1)]; rfl
    exact (nc_line (l := (ns.getD a "", z)) ⟨nok.good _ (List.mem_of_getElem? enm), h2⟩).up
  | @hand a b h1 h2 h3 h4 h5 h6 =>
    obtain ⟨l, ls, el⟩ : ∃ l ls, S.wt (a, b) = l :: ls := by
      cases z : S.wt (a, b) with
      | nil => exact absurd z h6
      | cons l ls => exact ⟨l, ls, rfl⟩
    rw [ans_hand el]
    exact (nc_line (G.wt (a, b) (near_both h3) l (by rw [el]; exact List.mem_cons_self))).up
  | @lose a b h1 h2 h3 h6 =>
    obtain ⟨l, ls, el⟩ : ∃ l ls, S.wt (a, b) = l :: ls := by
      cases z : S.wt (a, b) with
      | nil => exact absurd z h6
      | cons l ls => exact ⟨l, ls, rfl⟩
    rw [ans_lose el]
    exact (nc_line (G.wt (a, b) (near_both h3) l (by rw [el]; exact List.mem_cons_self))).up
  | @under a b h1 h2 h3 => exact nc_lines (G.wt (a, b) (near_both h3)) (G.few.w _ (near_both h3))
  | stop h1 h3 => exact nc_non.up
  | @log a v h1 => exact nc_lines (G.lg a h1) (G.few.l a h1)
theorem told_tame {d : PyData} (h : Nc 2 40000 d) : Tame (.list [.str "told", d]) := (nc_list (k := 2) (m := 40000) (l := 2) (fun e he => by
  simp only [List.mem_cons, List.not_mem_nil, or_false] at he
  rcases he with rfl | rfl
  · exact (nc_sh (by decide +kernel) (by decide +kernel)).up
  · exact h) (by show 2 ≤ 2; decide)).tame
end K04

namespace K04
open PySem PySem.Spec PyProof.Rows L2 Tn TL
def two {α : Type} (x y : α) : Nat → α := fun i => match i with
  | 0 => x
  | _ => y
/-- what is new in a net -/
def LParts.fr (p : LParts) : List Addr := p.x :: p.lg :: p.wt :: p.ht :: p.dd :: (p.la ++ p.tab.map (·.2))
theorem fr_M {p : LParts} {a : Addr} (h : a ∈ p.M) : a ∈ p.fr := by
  unfold LParts.M at h
  unfold LParts.fr
  simp only [List.mem_cons, List.mem_append] at h ⊢
  rcases h with h | h | h | h
  · exact .inr (.inr (.inr (.inl h)))
  · exact .inr (.inr (.inr (.inr (.inl h))))
  · exact .inr (.inr (.inr (.inr (.inr (.inl h)))))
  · exact .inr (.inr (.inr (.inr (.inr (.inr h)))))
theorem fr_all {p : LParts} {a : Addr} (h : a ∈ p.all) : a = p.r ∨ a = p.nm ∨ a ∈ p.fr := by
  unfold LParts.all at h
  unfold LParts.fr
  simp only [List.mem_cons, List.mem_append] at h ⊢
  rcases h with h | h | h | h | h | h | h | h
  · exact .inr (.inr (.inl h))
  · exact .inl h
  · exact .inr (.inl h)
  · exact .inr (.inr (.inr (.inl h)))
  · exact .inr (.inr (.inr (.inr (.inl h))))
  · exact .inr (.inr (.inr (.inr (.inr (.inl h)))))
  · exact .inr (.inr (.inr (.inr (.inr (.inr (.inl h))))))
  · exact .inr (.inr (.inr (.inr (.inr (.inr (.inr h))))))
theorem Plain.data {n : Nat} {w : Wd} {v1 v2 : V} (h : Plain n w v1 v2) (l : n ≤ 64) : w.deed = true ∧ ∃ d1 d2, (∀ X c, Odd X c v1 d1) ∧ ∀ X c, Odd X c v2 d2 := by
  have nat : ∀ {x : Nat}, x < n → ∀ X c, Odd X c (.int (x : Nat)) (.int (x : Nat)) := fun h X c => .fix (.int _) rfl (nc_nat (by omega)).up
  cases h with
  | make h1 h2 => exact ⟨rfl, _, _, nat h1, fun X c => .fix (.str _) rfl (nc_text h2).up⟩
  | stop h1 => exact ⟨rfl, _, _, nat h1, fun X c => .fix .non rfl nc_non.up⟩
  | hand h1 h2 => exact ⟨rfl, _, _, nat h1, nat h2⟩
  | lose h1 h2 => exact ⟨rfl, _, _, nat h1, nat h2⟩
theorem flat_ans (ns : List Str) (S : NS) (act : Act) : flat (ansD ns S act) = true := by
  cases act with
  | make a z => rfl
  | hand a b => rfl
  | lose a b => rfl
  | under a b => exact flat_tl _
  | stop a => rfl
  | log a => exact flat_tl _
def Ex (H : Hp) (a : Addr) : Prop := ∃ o, H a = some o
theorem Ex.same {H H' : Hp} {a : Addr} (h : Ex H a) (k : Same H H') : Ex H' a := let ⟨o, e⟩ := h; ⟨o, k _ _ e⟩
theorem Ex.ne {H : Hp} {a c : Addr} (h : Ex H a) (e : H c = none) : a ≠ c := fun z => by
  obtain ⟨o, g⟩ := h
  rw [z, e] at g
  cases g
theorem Ex.ni {H : Hp} {a : Addr} {l : List Addr} (h : Ex H a) (e : ∀ c ∈ l, H c = none) : a ∉ l := fun m => h.ne (e a m) rfl
theorem ni_ex {H : Hp} {a : Addr} {l : List Addr} (h : H a = none) (e : ∀ c ∈ l, Ex H c) : a ∉ l := fun m => (e a m).ne h rfl
theorem sep_of {HA HB HC HD HE HF HG HH : Hp} {b rl nl tl ntl nwl : Addr} {p0 p1 : LParts} {q0 q1 : Parts} (kAB : Same HA HB) (kBC : Same HB HC) (kCD : Same HC HD) (kDE : Same HD HE) (kEF : Same HE HF) (kFG : Same HF HG) (kGH : Same HG HH)
    (eb : Ex HA b) (erl : Ex HA rl) (enl : Ex HA nl) (etl : Ex HA tl) (nrl : rl ≠ b) (nnl : nl ≠ b) (ntb : tl ≠ b)
    (f0 : ∀ a ∈ q0.all, HA a = none) (x0 : ∀ a ∈ q0.all, Ex HB a) (f1 : ∀ a ∈ q1.all, HB a = none) (x1 : ∀ a ∈ q1.all, Ex HC a)
    (wl : HC nwl = none) (xwl : Ex HD nwl) (c0 : HD p0.nm = none) (g0 : ∀ a ∈ p0.fr, HE a = none) (y0 : ∀ a ∈ p0.all, Ex HF a) (r0 : p0.r = rl)
    (c1 : HF p1.nm = none) (g1 : ∀ a ∈ p1.fr, HG a = none) (y1 : ∀ a ∈ p1.all, Ex HH a) (r1 : p1.r = rl) (tx : HH ntl = none) : Sep b [nl, rl, tl, ntl, nwl] (two p0 p1) (two q0 q1) := by
  have kAC := kAB.trans kBC
  have kAD := kAC.trans kCD
  have kAE := kAD.trans kDE
  have kAF := kAE.trans kEF
  have kAG := kAF.trans kFG
  have kAH := kAG.trans kGH
  have kBD := kBC.trans kCD
  have kBE := kBD.trans kDE
  have kBF := kBE.trans kEF
  have kBG := kBF.trans kFG
  have kBH := kBG.trans kGH
  have kCE := kCD.trans kDE
  have kCF := kCE.trans kEF
  have kCG := kCF.trans kFG
  have kCH := kCG.trans kGH
  have kDG := kDE.trans (kEF.trans kFG)
  have kDH := kDG.trans kGH
  -- what stands at first is none of the new things
  have old : ∀ {a}, Ex HA a → a ≠ rl → a ∉ q0.all ∧ a ∉ q1.all ∧ a ∉ p0.all ∧ a ∉ p1.all := fun {a} h n => ⟨h.ni f0, (h.same kAB).ni f1, fun m => by
      rcases fr_all m with e | e | e
      · exact n (e.trans r0)
      · exact (h.same kAD).ne c0 e
      · exact (h.same kAE).ni g0 e, fun m => by
      rcases fr_all m with e | e | e
      · exact n (e.trans r1)
      · exact (h.same kAF).ne c1 e
      · exact (h.same kAG).ni g1 e⟩
  have rlM : rl ∉ q0.all ∧ rl ∉ q1.all ∧ rl ∉ p0.M ∧ rl ∉ p1.M := ⟨erl.ni f0, (erl.same kAB).ni f1, fun m => (erl.same kAE).ni g0 (fr_M m), fun m => (erl.same kAG).ni g1 (fr_M m)⟩
  -- a network's lists are none of a net's
  have qp0 : ∀ {a}, Ex HC a → a ∉ p0.fr ∧ a ≠ p0.nm := fun {a} h => ⟨(h.same kCE).ni g0, (h.same kCD).ne c0⟩
  have qp1 : ∀ {a}, Ex HC a → a ∉ p1.fr ∧ a ≠ p1.nm := fun {a} h => ⟨(h.same kCG).ni g1, (h.same kCF).ne c1⟩
  have xC0 : ∀ a ∈ q0.all, Ex HC a := fun a m => (x0 a m).same kBC
  have pq : ∀ {p : LParts} {q : Parts}, p.r = rl → rl ∉ q.all → (∀ a ∈ q.all, a ∉ p.fr ∧ a ≠ p.nm) → ∀ a ∈ p.all, a ∉ q.all := fun {p q} r n h a m m2 => by
    rcases fr_all m with e | e | e
    · exact n ((e.trans r) ▸ m2)
    · exact (h a m2).2 e
    · exact (h a m2).1 e
  have q00 := pq r0 rlM.1 fun a m => qp0 (xC0 a m)
  have q01 := pq r0 rlM.2.1 fun a m => qp0 (x1 a m)
  have q10 := pq r1 rlM.1 fun a m => qp1 (xC0 a m)
  have q11 := pq r1 rlM.2.1 fun a m => qp1 (x1 a m)
  have wx : nwl ∉ q0.all ∧ nwl ∉ q1.all ∧ nwl ∉ p0.M ∧ nwl ∉ p1.M := ⟨ni_ex wl xC0, ni_ex wl x1, fun m => (xwl.same kDE).ni g0 (fr_M m), fun m => (xwl.same kDG).ni g1 (fr_M m)⟩
  have tx2 : ntl ∉ q0.all ∧ ntl ∉ q1.all ∧ ntl ∉ p0.all ∧ ntl ∉ p1.all := ⟨ni_ex tx fun a m => (xC0 a m).same kCH, ni_ex tx fun a m => (x1 a m).same kCH, ni_ex tx fun a m => (y0 a m).same (kFG.trans kGH), ni_ex tx y1⟩
  have bb := old eb nrl.symm
  refine ⟨fun i hi => ?_, ?_, fun i hi => ?_, fun i hi => ?_, fun i hi => ?_, fun i j hi hj ne => ?_⟩
  · match i, hi with
    | 0, _ => exact fun m => (List.mem_append.mp m).elim bb.2.2.1 bb.1
    | 1, _ => exact fun m => (List.mem_append.mp m).elim bb.2.2.2 bb.2.1
  · intro m
    simp only [List.mem_cons, List.not_mem_nil, or_false] at m
    rcases m with m | m | m | m | m
    · exact nnl m.symm
    · exact nrl m.symm
    · exact ntb m.symm
    · exact (eb.same kAH).ne tx m
    · exact (eb.same kAC).ne wl m
  · have O : ∀ o ∈ [nl, rl, tl, ntl, nwl], (o ∉ q0.all ∧ o ∉ q1.all) ∧ o ∉ p0.M ∧ o ∉ p1.M := fun o m => by
      have oo : ∀ {a}, Ex HA a → (a ∉ q0.all ∧ a ∉ q1.all) ∧ a ∉ p0.M ∧ a ∉ p1.M := fun {a} h => ⟨⟨h.ni f0, (h.same kAB).ni f1⟩, fun m => (h.same kAE).ni g0 (fr_M m), fun m => (h.same kAG).ni g1 (fr_M m)⟩
      simp only [List.mem_cons, List.not_mem_nil, or_false] at m
      rcases m with rfl | rfl | rfl | rfl | rfl
      · exact oo enl
      · exact oo erl
      · exact oo etl
      · exact ⟨⟨tx2.1, tx2.2.1⟩, fun m => tx2.2.2.1 (lparts_sub m), fun m => tx2.2.2.2 (lparts_sub m)⟩
      · exact ⟨⟨wx.1, wx.2.1⟩, wx.2.2.1, wx.2.2.2⟩
    match i, hi with
    | 0, _ => exact fun o m z => (List.mem_append.mp z).elim (O o m).2.1 fun z => (O o m).1.1 (parts_sub z)
    | 1, _ => exact fun o m z => (List.mem_append.mp z).elim (O o m).2.2 fun z => (O o m).1.2 (parts_sub z)
  · match i, hi with
    | 0, _ => exact fun a m z => q00 a m (parts_sub z)
    | 1, _ => exact fun a m z => q11 a m (parts_sub z)
  · match i, hi with
    | 0, _ => exact fun a m z => q00 a (lparts_sub z) m
    | 1, _ => exact fun a m z => q11 a (lparts_sub z) m
  · have pp : ∀ a ∈ p1.all, a ∉ p0.M := fun a m z => by
      rcases fr_all m with e | e | e
      · exact rlM.2.2.1 ((e.trans r1) ▸ z)
      · exact (y0 a (lparts_sub z)).ne c1 e
      · exact ((y0 a (lparts_sub z)).same kFG).ni g1 e
    have pp2 : ∀ a ∈ p0.all, a ∉ p1.M := fun a m z => ((y0 a m).same kFG).ni g1 (fr_M z)
    have qq : ∀ a ∈ q1.all, a ∉ q0.all := fun a m m2 => (x0 a m2).ne (f1 a m) rfl
    match i, j, hi, hj, ne with
    | 0, 1, _, _, _ =>
      intro a m z
      rcases List.mem_append.mp m with m | m <;> rcases List.mem_append.mp z with z | z
      · exact pp a m z
      · exact q10 a m (parts_sub z)
      · exact q01 a (lparts_sub z) m
      · exact qq a m (parts_sub z)
    | 1, 0, _, _, _ =>
      intro a m z
      rcases List.mem_append.mp m with m | m <;> rcases List.mem_append.mp z with z | z
      · exact pp2 a m z
      · exact q01 a m (parts_sub z)
      · exact q10 a (lparts_sub z) m
      · exact qq a (parts_sub z) m
    | 0, 0, _, _, ne => exact absurd rfl ne
    | 1, 1, _, _, ne => exact absurd rfl ne
end K04

namespace K04
open PySem PySem.Spec PyProof.Rows L2 Tn TL
abbrev sRight : Stmt := top 61
theorem scRight : FnScope ["box", "plan", "side", "named", "spoil", "more", "many", "houses", "roads", "names", "tree", "given", "texts", "at", "networks", "nets", "turn", "which", "net", "network", "word", "first", "second", "due", "told", "again"] ["box"] (defScope sRight) := ⟨rfl, rfl, rfl, by decide +kernel, rfl, by decide +kernel, by decide +kernel⟩
theorem seq6 {s1 s2 s3 s4 s5 s6 r : TS} {D : Ends} {σ : L2.St} {H : Hp} (R : L2.St → Hp → Prop) (h1 : ∀ σ' H', R σ' H' → r D σ' H') (h2 : ∀ D' : Ends, (∀ σ' H', R σ' H' → D'.nx σ' H') → tSeq s1 (tSeq s2 (tSeq s3 (tSeq s4 (tSeq s5 s6)))) D' σ H) :
    tSeq s1 (tSeq s2 (tSeq s3 (tSeq s4 (tSeq s5 (tSeq s6 r))))) D σ H := h2 { nx := r D, rt := D.rt, bk := D.bk, ct := D.ct } h1
theorem seq9 {s1 s2 s3 s4 s5 s6 s7 s8 s9 r : TS} {D : Ends} {σ : L2.St} {H : Hp} (R : L2.St → Hp → Prop) (h1 : ∀ σ' H', R σ' H' → r D σ' H') (h2 : ∀ D' : Ends, (∀ σ' H', R σ' H' → D'.nx σ' H') → tSeq s1 (tSeq s2 (tSeq s3 (tSeq s4 (tSeq s5 (tSeq s6 (tSeq s7 (tSeq s8 s9))))))) D' σ H) :
    tSeq s1 (tSeq s2 (tSeq s3 (tSeq s4 (tSeq s5 (tSeq s6 (tSeq s7 (tSeq s8 (tSeq s9 r)))))))) D σ H := h2 { nx := r D, rt := D.rt, bk := D.bk, ct := D.ct } h1
def spRight : Sp := fun vs H Q _ => ∃ b : Addr, vs = [.ref b] ∧ BoxAt H b 0 ∧ ∀ H', But b H H' → Q (.bl true) H'
section
variable {P : Program} {w : World} {K : PySem.W.Frag} {mg : Str → Option Value} {base : Heap} {f : Addr} {fd fdI fdN : FuncData}
theorem ok_right (F : Fd K "_law_right" sRight f fd) (g : mg "_law_right" = some (.ref f)) (B : Bl mg) (C : TreeK K mg) (CK : NetK K mg) (hsy : ∃ o, K.lookup sysModules = some o) (FI : Md K "__init__" "Tree.__init__" sTInit (MT K "__init__") fdI) (FN : Md K "__init__" "Network.__init__" sNInit (MN K "__init__") fdN)
    (oI : FnOk P w K mg base (L2N.CX P w) 3 (MT K "__init__") fdI ["self", "houses", "roads"] (spInit K)) (oN : FnOk P w K mg base (L2N.CX P w) 4 (MN K "__init__") fdN ["self", "tree", "names"] (spNInit K)) (ME : OkM P w K mg base CX0 1 "__eq__" ["self", "other"] (spEq K))
    (o_law_take : Ok P w K mg base CX0 1 "_law_take" sTake ["box", "many"] spDraw1) (o_law_roads : Ok P w K mg base CX0 3 "_law_roads" sRoads ["box", "houses"] spRoads) (o_law_names : Ok P w K mg base CX0 3 "_law_names" sNames ["box", "houses"] spNames) (o_law_texts : Ok P w K mg base CX0 3 "_law_texts" sTexts ["box"] spTexts)
    (o_law_start : Ok P w K mg base CX0 1 "_law_start" sStart ["roads", "names"] spStart) (o_law_deed : Ok P w K mg base CX0 2 "_law_deed" sDeed ["box", "net", "texts", "turn", "plan"] spDeed) (o_law_wrong : Ok P w K mg base CX0 2 "_law_wrong" sWrong ["net", "word", "first", "second"] spWrong)
    (o_law_asked : Ok P w K mg base CX0 7 "_law_asked" sAsked ["network", "word", "first", "second", "named"] (spAsked K)) (o_law_done : Ok P w K mg base CX0 2 "_law_done" sDone ["net", "word", "first", "second"] spDone) (o_law_same : OkG P w K mg base 6 "_law_same" sSame ["net", "network", "named"] (spSame K))
    (o_law_doors : OkG P w K mg base 9 "_law_doors" sDoors ["box", "net", "network", "named"] (spDoors K)) (o_law_spoilt : Ok P w K mg base CX0 2 "_law_spoilt" sSpoilt ["box", "names", "kind", "at"] spSpoilt) (o_law_names_refused : OkG P w K mg base 7 "_law_names_refused" sNRef ["tree", "given", "named"] (spNRef K)) :
    OkG P w K mg base 10 "_law_right" sRight ["box"] spRight := by
  obtain ⟨fE, bE, oE⟩ := ME.ex
  refine ⟨f, fd, g, F, F.bindsN fun _ _ _ _ _ _ us hl => match us, hl with | [_], _ => rfl, F.okG scRight (fun vs H Q E h => ?_) (fun cdv A outer s H vs Q hgd hr h => ?_)⟩
  · obtain ⟨b, rfl, _⟩ := h
    rfl
  · have hu : (cxOf CX0 P w K mg base ["box", "plan", "side", "named", "spoil", "more", "many", "houses", "roads", "names", "tree", "given", "texts", "at", "networks", "nets", "turn", "which", "net", "network", "word", "first", "second", "due", "told", "again"] "_law_right" (defScope sRight) f cdv A outer s H noE).A.units + 64 < cLine := by
      have z := hr.un
      show (A.deeper _).units + 64 < cLine
      omega
    refine ⟨_, (pss_cons (ps_asg (pe_lc (own := [("many", 6)]) (g := gName 6) rfl scRight.nd (pi_list (pe_lst (pa_cons pe_int (pa_cons pe_int (pa_cons pe_int (pa_cons pe_int (pa_cons pe_int pa_nil))))))) (blkOk_by (N := ["box", "plan", "side", "named", "spoil", "more", "many", "houses", "roads", "names", "tree", "given", "texts", "at", "networks", "nets", "turn", "which", "net", "network", "word", "first", "second", "due", "told", "again"]) (sc := defScope sRight) (by decide +kernel)) (fun _ _ _ _ _ => (pg_name (i := 6) scRight.nd rfl (Or.inl rfl))) (fun _ _ _ _ _ => pts_nil) (fun _ _ _ _ _ => (pe_o o_law_take (hr.mono (by decide)) (by rfl) (pa_cons (pv 0) (pa_cons (pv 6) pa_nil))))) (pg_unl rfl (pgs_cons (pg_name (i := 1) scRight.nd rfl (Or.inl rfl)) (pgs_cons (pg_name (i := 2) scRight.nd rfl (Or.inl rfl)) (pgs_cons (pg_name (i := 3) scRight.nd rfl (Or.inl rfl)) (pgs_cons (pg_name (i := 4) scRight.nd rfl (Or.inl rfl)) (pgs_cons (pg_name (i := 5) scRight.nd rfl (Or.inl rfl)) pgs_nil)))))))
      (pss_cons (ps_set (i := 7) scRight.nd rfl (Or.inl rfl) (pe_ix ix_seq (pe_lst (pa_cons pe_int (pa_cons pe_int (pa_cons pe_int (pa_cons pe_int (pa_cons pe_int (pa_cons pe_int (pa_cons pe_int (pa_cons pe_int pa_nil))))))))) (pe_o o_law_take (hr.mono (by decide)) (by rfl) (pa_cons (pv 0) (pa_cons pe_int pa_nil))) fun _ _ => rfl))
      (pss_cons (ps_set (i := 8) scRight.nd rfl (Or.inl rfl) (pe_o o_law_roads (hr.mono (by decide)) (by rfl) (pa_cons (pv 0) (pa_cons (pv 7) pa_nil))))
      (pss_cons (ps_set (i := 9) scRight.nd rfl (Or.inl rfl) (pe_o o_law_names (hr.mono (by decide)) (by rfl) (pa_cons (pv 0) (pa_cons (pv 7) pa_nil))))
      (pss_cons (ps_asg (pe_tup (pa_cons (pe_makeS (E := fun _ => noE) C.mkT oI (hr.mono (by decide)) (by rfl) C.g (FI.kbn0 3 [] (pick [0, 1, 2]) (pick_rel [0, 1, 2]) fun _ _ _ _ _ _ us ws l1 l2 => match us, ws, l1, l2 with | [_, _, _], [], _, _ => rfl) (fun σ => pass_noneN σ) (pa_cons (pv 7) (pa_cons (pe_callTy call_list_of (by rfl) (B.u "list" (by decide +kernel)) (by decide +kernel) (pa_cons (pv 8) pa_nil)) pa_nil))) (pa_cons (pe_callTy call_list_of (by rfl) (B.u "list" (by decide +kernel)) (by decide +kernel) (pa_cons (pv 9) pa_nil)) (pa_cons (pe_o o_law_texts (hr.mono (by decide)) (by rfl) (pa_cons (pv 0) pa_nil)) (pa_cons (pe_o o_law_take (hr.mono (by decide)) (by rfl) (pa_cons (pv 0) (pa_cons (pv 7) pa_nil))) pa_nil))))) (pg_tup rfl (pgs_cons (pg_name (i := 10) scRight.nd rfl (Or.inl rfl)) (pgs_cons (pg_name (i := 11) scRight.nd rfl (Or.inl rfl)) (pgs_cons (pg_name (i := 12) scRight.nd rfl (Or.inl rfl)) (pgs_cons (pg_name (i := 13) scRight.nd rfl (Or.inl rfl)) pgs_nil))))))
      (pss_cons (ps_set (i := 14) scRight.nd rfl (Or.inl rfl) (pe_lst (pa_cons (pe_makeS (E := fun _ => noE) CK.mkN oN (hr.mono (by decide)) (by rfl) CK.g (FN.kbn0 3 [] (pick [0, 1, 2]) (pick_rel [0, 1, 2]) fun _ _ _ _ _ _ us ws l1 l2 => match us, ws, l1, l2 with | [_, _, _], [], _, _ => rfl) (fun σ => pass_noneN σ) (pa_cons (pv 10) (pa_cons (pv 11) pa_nil))) (pa_cons (pe_makeSK (E := fun _ => noE) CK.mkN oN (hr.mono (by decide)) (by rfl) CK.g (FN.kbn0 1 ["names", "tree"] (pick [0, 2, 1]) (pick_rel [0, 2, 1]) fun _ _ _ _ _ _ us ws l1 l2 => match us, ws, l1, l2 with | [_], [_, _], _, _ => rfl) (fun σ => pass_noneN σ) (pk_cons (pv 11) (pk_cons (pv 10) pk_nil))) pa_nil))))
      (pss_cons (ps_set (i := 15) scRight.nd rfl (Or.inl rfl) (pe_lst (pa_cons (pe_o o_law_start (hr.mono (by decide)) (by rfl) (pa_cons (pv 8) (pa_cons (pe_callTy call_list_of (by rfl) (B.u "list" (by decide +kernel)) (by decide +kernel) (pa_cons (pv 9) pa_nil)) pa_nil))) (pa_cons (pe_o o_law_start (hr.mono (by decide)) (by rfl) (pa_cons (pv 8) (pa_cons (pe_callTy call_list_of (by rfl) (B.u "list" (by decide +kernel)) (by decide +kernel) (pa_cons (pv 9) pa_nil)) pa_nil))) pa_nil))))
      (pss_cons (ps_asg pe_str (pg_sub (pv 11) (pv 13) set_list fun _ => rfl))
      (pss_cons (ps_expr (pe_bm PySem.F.plainAttrs_list PySem.F.slot_list_append PySem.F.type_list_append mt_append (pv 11) (pa_cons pe_str pa_nil)))
      (pss_cons (ps_for (passes_of rfl) rfl (pi_range1 (by rfl) (B.u "range" (by decide +kernel)) (pa_cons (pe_op op_add pe_int (pv 5)) pa_nil)) (pg_name (i := 16) scRight.nd rfl (Or.inl rfl))
        (pss_cons (ps_set (i := 17) scRight.nd rfl (Or.inl rfl) (pe_op op_mod (pe_op op_add (pe_op op_fdiv (pv 16) pe_int) (pv 2)) pe_int))
        (pss_cons (ps_par (i := 18) (j := 19) rfl scRight.nd rfl rfl (by decide) rfl rfl (pa_cons (pe_ix ix_seq (pv 15) (pv 17) fun _ _ => rfl) (pa_cons (pe_ix ix_seq (pv 14) (pv 17) fun _ _ => rfl) pa_nil)) rfl)
        (pss_cons (ps_asg (pe_o o_law_deed (hr.mono (by decide)) (by rfl) (pa_cons (pv 0) (pa_cons (pv 18) (pa_cons (pv 12) (pa_cons (pv 16) (pa_cons (pv 1) pa_nil)))))) (pg_unl rfl (pgs_cons (pg_name (i := 20) scRight.nd rfl (Or.inl rfl)) (pgs_cons (pg_name (i := 21) scRight.nd rfl (Or.inl rfl)) (pgs_cons (pg_name (i := 22) scRight.nd rfl (Or.inl rfl)) pgs_nil)))))
        (pss_cons (ps_set (i := 23) scRight.nd rfl (Or.inl rfl) (pe_o o_law_wrong (hr.mono (by decide)) (by rfl) (pa_cons (pv 18) (pa_cons (pv 20) (pa_cons (pv 21) (pa_cons (pv 22) pa_nil))))))
        (pss_cons (ps_set (i := 24) scRight.nd rfl (Or.inl rfl) (pe_o o_law_asked (hr.mono (by decide)) (by rfl) (pa_cons (pv 19) (pa_cons (pv 20) (pa_cons (pv 21) (pa_cons (pv 22) (pa_cons (pe_cmpR op_eq (pe_op op_mod (pe_op op_add (pv 16) (pv 3)) pe_int) pe_int (nomark _)) pa_nil)))))))
        (pss_cons (ps_if (pt_cmpR (op_eqNil hu) (pv 23) (pe_lst pa_nil) (nomark _))
          (pss_one (ps_set (i := 23) scRight.nd rfl (Or.inl rfl) (pe_lst (pa_cons pe_str (pa_cons (pe_o o_law_done (hr.mono (by decide)) (by rfl) (pa_cons (pv 18) (pa_cons (pv 20) (pa_cons (pv 21) (pa_cons (pv 22) pa_nil))))) pa_nil)))))
          pss_nil)
        (pss_one (ps_if (pw_or (pt_cmpR op_ne (pe_callB (call_repr hgd hu hsy) (by rfl) (B.u "repr" (by decide +kernel)) (by decide +kernel) (pa_cons (pv 24) pa_nil)) (pe_callB (call_repr hgd hu hsy) (by rfl) (B.u "repr" (by decide +kernel)) (by decide +kernel) (pa_cons (pv 23) pa_nil)) (nomark _)) (pw_or1 (pt_not (pt_val (pe_oG o_law_same hgd (hr.mono (by decide)) (by rfl) (pa_cons (pv 18) (pa_cons (pv 19) (pa_cons (pe_cmpR op_eq (pe_op op_mod (pe_op op_add (pv 16) (pv 3)) pe_int) pe_int (nomark _)) pa_nil)))))))).pt
          (pss_one (ps_ret pe_bl))
          pss_nil)))))))))
      (pss_cons (ps_if (pw_or (pt_not (pt_val (pe_oG o_law_doors hgd (hr.mono (by decide)) (by rfl) (pa_cons (pv 0) (pa_cons (pe_ix ix_seq (pv 15) (pv 2) fun _ _ => rfl) (pa_cons (pe_ix ix_seq (pv 14) (pv 2) fun _ _ => rfl) (pa_cons (pe_cmpR op_eq (pv 3) pe_int (nomark _)) pa_nil))))))) (pw_or1 (pt_not (pt_val (pe_oG o_law_same hgd (hr.mono (by decide)) (by rfl) (pa_cons (pe_ix ix_seq (pv 15) (pe_op op_sub pe_int (pv 2)) fun _ _ => rfl) (pa_cons (pe_ix ix_seq (pv 14) (pe_op op_sub pe_int (pv 2)) fun _ _ => rfl) (pa_cons pe_bl pa_nil)))))))).pt
        (pss_one (ps_ret pe_bl))
        pss_nil)
      (pss_cons (ps_if (pt_not (pt_val (pe_oG o_law_names_refused hgd (hr.mono (by decide)) (by rfl) (pa_cons (pv 10) (pa_cons (pe_o o_law_spoilt (hr.mono (by decide)) (by rfl) (pa_cons (pv 0) (pa_cons (pe_callTy call_list_of (by rfl) (B.u "list" (by decide +kernel)) (by decide +kernel) (pa_cons (pv 9) pa_nil)) (pa_cons (pv 4) (pa_cons (pv 13) pa_nil))))) (pa_cons (pe_cmpR op_eq (pv 3) pe_int (nomark _)) pa_nil))))))
        (pss_one (ps_ret pe_bl))
        pss_nil)
      (pss_cons (ps_set (i := 25) scRight.nd rfl (Or.inl rfl) (pe_makeS (E := fun _ => noE) CK.mkN oN (hr.mono (by decide)) (by rfl) CK.g (FN.kbn0 3 [] (pick [0, 1, 2]) (pick_rel [0, 1, 2]) fun _ _ _ _ _ _ us ws l1 l2 => match us, ws, l1, l2 with | [_, _, _], [], _, _ => rfl) (fun σ => pass_noneN σ) (pa_cons (pv 10) (pa_cons (pe_callTy call_tuple_of (by rfl) (B.u "tuple" (by decide +kernel)) (by decide +kernel) (pa_cons (pv 9) pa_nil)) pa_nil))))
      (pss_one (ps_ret (pe_and (pe_cmpR (op_eqO oE bE pass0 (hr.mono (by decide)) C.eq C.eqf) (pe_fld (pv 25) rfl) (pe_makeS (E := fun _ => noE) C.mkT oI (hr.mono (by decide)) (by rfl) C.g (FI.kbn0 3 [] (pick [0, 1, 2]) (pick_rel [0, 1, 2]) fun _ _ _ _ _ _ us ws l1 l2 => match us, ws, l1, l2 with | [_, _, _], [], _, _ => rfl) (fun σ => pass_noneN σ) (pa_cons (pv 7) (pa_cons (pe_callTy call_list_of (by rfl) (B.u "list" (by decide +kernel)) (by decide +kernel) (pa_cons (pv 8) pa_nil)) pa_nil))) (nomark _)) (pe_one (pe_oG o_law_same hgd (hr.mono (by decide)) (by rfl) (pa_cons (pe_o o_law_start (hr.mono (by decide)) (by rfl) (pa_cons (pv 8) (pa_cons (pv 9) pa_nil))) (pa_cons (pv 25) (pa_cons pe_bl pa_nil))))))))))))))))))))), ?_⟩
    obtain ⟨b, rfl, hb, fin⟩ := h
    obtain ⟨ob, hob⟩ := hb.some
    refine seq9 (fun σ H' => ∃ (pl' sd nm' sp mo n at_ : Nat) (t rl nl gl tl ntl nwl : Addr) (rs : List Tm.Road) (ns ts : List Str) (p0 p1 : LParts) (q0 q1 : Parts), (sd < 2 ∧ sp < 8 ∧ mo < 15 ∧ 1 ≤ n ∧ n ≤ 6 ∧ at_ < n ∧ Tm.Joined n rs ∧ ts.length = 6 ∧ (∀ z ∈ ts, textS z = true) ∧ rl ≠ nl ∧ tl ≠ b) ∧ But b H H' ∧
      Sep b [nl, rl, tl, ntl, nwl] (two p0 p1) (two q0 q1) ∧ Wd2 K H' b 55 t rl nl tl ntl nwl (two p0 p1) (two q0 q1) n rs ns ts (fun _ => NS.new) 0 ∧ (∀ i, i < 2 → ∀ a ∈ (two p0 p1 i).M ++ (two q0 q1 i).M, H a = none) ∧ σ = [some (.ref b), some (.int (pl' : Nat)), some (.int (sd : Nat)), some (.int (nm' : Nat)), some (.int (sp : Nat)), some (.int (mo : Nat)), none, some (.int (n : Nat)), some (.ref rl), some (.ref nl), some (.ref t), some (.ref gl), some (.ref tl), some (.int (at_ : Nat)), some (.ref nwl), some (.ref ntl), none, none, none, none, none, none, none, none, none, none]) ?_ fun D' rest => ?_
    · rintro σ H1 ⟨pl', sd, nm', sp, mo, n, at_, t, rl, nl, gl, tl, ntl, nwl, rs, ns, ts, p0, p1, q0, q1, ⟨b2, b4, b5, n1, n6, hat, jo, lts, gts, nrn, ntb⟩, kb1, SP, W1, fr1, rfl⟩
      have ok := (W1.pr 0 (by decide)).1.N.ok
      have nok := (W1.pr 0 (by decide)).1.nok
      generalize two p0 p1 = p at SP W1 fr1
      generalize two q0 q1 = q at SP W1 fr1
      have pick2 : ∀ {X : Hp} {z : Int} {w : Nat} {S : Nat → NS} {c e : Nat}, Wd2 K X b c t rl nl tl ntl nwl p q n rs ns ts S e → z = (w : Nat) → w < 2 → atI [V.ref (p 0).x, V.ref (p 1).x] z = some (.ref (p w).x) ∧ atI [V.ref (q 0).x, V.ref (q 1).x] z = some (.ref (q w).x) := fun {X z w S c e} _ ez hw => by
        subst ez
        match w, hw with
        | 0, _ => exact ⟨atI_nat rfl, atI_nat rfl⟩
        | 1, _ => exact ⟨atI_nat rfl, atI_nat rfl⟩
      refine tSeq_by (fun σ H' => ∃ (S : Nat → NS) (z1 z2 z3 z4 z5 z6 z7 z8 z9 : Option V), But b H H' ∧ Wd2 K H' b 175 t rl nl tl ntl nwl p q n rs ns ts S 32 ∧ σ = [some (.ref b), some (.int (pl' : Nat)), some (.int (sd : Nat)), some (.int (nm' : Nat)), some (.int (sp : Nat)), some (.int (mo : Nat)), none, some (.int (n : Nat)), some (.ref rl), some (.ref nl), some (.ref t), some (.ref gl), some (.ref tl), some (.int (at_ : Nat)), some (.ref nwl), some (.ref ntl), z1, z2, z3, z4, z5, z6, z7, z8, z9, none]) ?_ fun rest => ?_
      · rintro σ H2 ⟨S, z1, z2, z3, z4, z5, z6, z7, z8, z9, kb2, W2, rfl⟩
        have es : (1 : Int) - (sd : Int) = ((1 - sd : Nat) : Int) := by omega
        obtain ⟨at1, at2⟩ := pick2 W2 (w := sd) rfl b2
        have Ps := W2.pr sd b2
        refine ⟨_, rfl, _, rfl, _, rfl, ixAt W2.ntl at1 ⟨_, rfl, _, rfl, ixAt W2.nwl at2 ⟨_, rfl, rfl, b, p sd, q sd, n, rs, ns, S sd, _, 175, rfl, W2.bx, by decide, Ps.1, Ps.2, n1, SP.box sd b2, fun H3 kb3 hb3 => ⟨_, rfl, iteB (fun z => by cases z) fun _ => ?_⟩⟩⟩⟩
        have W3 := W2.but SP kb3 hb3
        have l1 : 1 - sd < 2 := by omega
        obtain ⟨at3, at4⟩ := pick2 W3 (z := (1 : Int) - (sd : Int)) (w := 1 - sd) es l1
        have Po := W3.pr (1 - sd) l1
        refine ⟨_, rfl, _, rfl, _, _, rfl, rfl, ixAt W3.ntl at3 ⟨_, rfl, _, rfl, _, _, rfl, rfl, ixAt W3.nwl at4 ⟨p (1 - sd), q (1 - sd), n, rs, ns, S (1 - sd), _, rfl, Po.1.N, Po.1.M, nok, Po.2, n6, fun H4 k4 => ⟨_, rfl, iteB (fun z => by cases z) fun _ => ?_⟩⟩⟩⟩
        have W4 := W3.same k4
        have kb4 := kb2.trans (kb3.trans (But.of k4))
        -- names that are refused
        refine ⟨_, rfl, _, rfl, _, rfl, nl, _, rfl, .inl (SqL.of W4.nl), fun cn hcn => ?_⟩
        have k5 := upd_grow (o := .lst (ns.map V.str)) hcn
        have hcn1 := upd_same (H := H4) (a := cn) (o := .lst (ns.map V.str))
        generalize upd H4 cn (.lst (ns.map V.str)) = H5 at k5 hcn1 ⊢
        have W5 := W4.same k5
        obtain ⟨ob4, hob4⟩ := W4.bx.some
        have ncb : cn ≠ b := (ne_of_none hob4 hcn).symm
        refine ⟨_, rfl, _, rfl, b, cn, n, sp, at_, 225, ns, rfl, W5.bx.up (by decide), by decide, hcn1, nok, n6, hat, ncb, fun v d H6 kb6 hb6 gv no frv => ?_⟩
        have W6 := W5.but SP kb6 hb6
        refine ⟨_, rfl, rfl, t, n, rs, v, d, _, rfl, W6.tr, gv, no, fun H7 b7 => ⟨_, rfl, iteB (fun z => by cases z) fun _ => ?_⟩⟩
        have nv : ∀ {a : Addr}, Ex H5 a → a ∉ refsOf v := fun {a} h m => frv a (refs_of m) h
        have kb7 : But b H H7 := fun a o na e => b7 _ _ (fun _ => nv ⟨o, (kb4.trans (But.of k5)) _ _ na e⟩) ((kb4.trans ((But.of k5).trans kb6)) _ _ na e)
        obtain ⟨rys, hrl6, rr6⟩ := W6.rl
        obtain ⟨rys5, hrl5, _⟩ := W5.rl
        have hrl7 := b7.lst (nv ⟨_, hrl5⟩) hrl6
        have rr7 : RddAll H7 rys (rs.map rd) := rdds_bm b7 rr6 (flat_rds2 rs)
        have hnl7 := b7.lst (nv ⟨_, W5.nl⟩) W6.nl
        have T7 : TreeAt K H7 t n rs := W6.tr.bm b7
        -- once more
        refine ⟨_, rfl, _, rfl, nl, _, rfl, .inl ⟨SqL.of hnl7, fun tn htn => ?_⟩⟩
        have k8 := upd_grow (o := .tup (ns.map V.str)) htn
        have htn1 := upd_same (H := H7) (a := tn) (o := .tup (ns.map V.str))
        generalize upd H7 tn (.tup (ns.map V.str)) = H8 at k8 htn1 ⊢
        refine ⟨rfl, rfl, fun x dx hx hdx ne => ?_⟩
        dsimp only [tNil]
        refine ninit_ok (by rfl) (T7.bm (M := []) (Bm.of k8)) (.tup htn1 (rdd_strsD ns)) (.inr rfl) nok hx hdx ne fun H9 q2 k9 ex et _ M2 => ?_
        subst ex
        have k79 := k8.trans k9
        obtain ⟨⟨dx2, hx2⟩, T2⟩ := M2.xt
        refine ⟨_, rfl, _, _, _, _, _, rfl, hx2, CK.cl, CK.ntree, rfl, _, rfl, _, rfl, rl, rys, rfl, .inl (SqL.of (k79 _ _ hrl7)), fun tp htp => ?_⟩
        have ka := upd_grow (o := .lst rys) htp
        have htp1 := upd_same (H := H9) (a := tp) (o := .lst rys)
        generalize upd H9 tp (.lst rys) = HA at ka htp1 ⊢
        refine ⟨rfl, rfl, fun a dxa ha hdxa nea => ?_⟩
        dsimp only [tNil]
        refine init_ok (by rfl) n1 (by omega) (.inl rfl) ok jo (.lst htp1 (rr7.mono (k79.trans ka))) ha hdxa nea fun HB kB TB => ?_
        have kaB := ka.trans kB
        have T2' := T2.bm (M := []) (Bm.of kaB)
        obtain ⟨dx5, rt5, nt5, g5, _, _⟩ := T2'.ex
        obtain ⟨dx6, rt6, nt6, g6, _, _⟩ := TB.ex
        refine ⟨q2.t, dx5, _, rfl, g5, .inr ⟨a, dx6, _, rfl, g6⟩, q2.t, n, rs, .ref a, some (n, rs), rfl, T2', ⟨a, rfl, TB⟩, _, rfl, ?_⟩
        rw [decide_eq_true rfl]
        refine ⟨_, rfl, iteT ?_⟩
        have k7B := k79.trans kaB
        refine ⟨_, rfl, _, rfl, rl, nl, rys, n, rs, ns, rfl, k7B _ _ hrl7, rr7.mono k7B, ok, k7B _ _ hnl7, nok.len, by omega, nrn, fun p2 HC kC er en _ N2 => ?_⟩
        exact ⟨_, rfl, p2, q2, n, rs, ns, NS.new, false, rfl, N2, M2.same (kaB.trans kC), nok, Fine.new.up (by decide), n6, fun HD kD => fin _ (kb7.trans (But.of (k7B.trans (kC.trans kD))))⟩
      · have emo : (16 : Int) + (mo : Int) = ((16 + mo : Nat) : Int) := by omega
        refine ⟨_, rfl, _, _, rfl, rfl, _, rfl, ?_⟩
        rw [emo]
        refine ⟨by omega, by omega, for_range (n := 16 + mo) (fun i σ H' => ∃ (S : Nat → NS) (z1 z2 z3 z4 z5 z6 z7 z8 z9 : Option V), But b H H' ∧ Wd2 K H' b (55 + 4 * i) t rl nl tl ntl nwl p q n rs ns ts S i ∧ σ = [some (.ref b), some (.int (pl' : Nat)), some (.int (sd : Nat)), some (.int (nm' : Nat)), some (.int (sp : Nat)), some (.int (mo : Nat)), none, some (.int (n : Nat)), some (.ref rl), some (.ref nl), some (.ref t), some (.ref gl), some (.ref tl), some (.int (at_ : Nat)), some (.ref nwl), some (.ref ntl), z1, z2, z3, z4, z5, z6, z7, z8, z9, none]) ?_ ?_ ?_⟩
        · exact ⟨_, _, _, _, _, _, _, _, _, _, kb1, W1, rfl⟩
        · rintro i σ H2 hi ⟨S, z1, z2, z3, z4, z5, z6, z7, z8, z9, kb2, W2, rfl⟩
          have e0 : (0 : Int) + i = (i : Nat) := by omega
          rw [e0]
          dsimp only [gName]
          refine seq6 (fun σ H' => ∃ (w : Nat) (S' : Nat → NS) (l d : Addr) (xs ys : List V) (ds : List PyData) (x1 x2 x3 : V), w < 2 ∧ But b H H' ∧ Wd2 K H' b (55 + 4 * (i + 1)) t rl nl tl ntl nwl p q n rs ns ts S' (i + 1) ∧ H' l = some (.lst xs) ∧ H' d = some (.lst ys) ∧ RddAll H' xs ds ∧ RddAll H' ys ds ∧ Tame (.list ds) ∧ σ = [some (.ref b), some (.int (pl' : Nat)), some (.int (sd : Nat)), some (.int (nm' : Nat)), some (.int (sp : Nat)), some (.int (mo : Nat)), none, some (.int (n : Nat)), some (.ref rl), some (.ref nl), some (.ref t), some (.ref gl), some (.ref tl), some (.int (at_ : Nat)), some (.ref nwl), some (.ref ntl), some (.int (i : Nat)), some (.int (w : Nat)), some (.ref (p w).x), some (.ref (q w).x), some x1, some x2, some x3, some (.ref d), some (.ref l), none]) ?_ fun D' rest2 => ?_
          · rintro σ H3 ⟨w, S', l, d, xs, ys, ds, x1, x2, x3, hw, kb3, W3, hl, hd, rx, ry, tm, rfl⟩
            have Pw := W3.pr w hw
            refine ⟨_, rfl, _, _, rfl, .lst hl rx, tm.s, tm.h, tm.len, _, rfl, _, _, rfl, .lst hd ry, tm.s, tm.h, tm.len, rfl, _, rfl, ?_⟩
            rw [decide_eq_true rfl]
            refine iteF ⟨_, rfl, _, rfl, _, rfl, _, rfl, _, _, rfl, rfl, _, _, rfl, rfl, (by show (0 : Int) < 2; decide), rfl, p w, q w, n, rs, ns, S' w, _, rfl, Pw.1.N, Pw.1.M, nok, Pw.2.up (by omega), n6, fun H4 k4 => ⟨_, rfl, iteB (fun z => by cases z) fun _ => ?_⟩⟩
            exact ⟨_, _, _, _, _, _, _, _, _, _, kb3.trans (But.of k4), W3.same k4, rfl⟩
          · have hwi : (i : Int) / 2 + (sd : Int) = ((i / 2 + sd : Nat) : Int) := by omega
            have hw2 : ((i / 2 + sd : Nat) : Int) % 2 = (((i / 2 + sd) % 2 : Nat) : Int) := by omega
            have lw : (i / 2 + sd) % 2 < 2 := Nat.mod_lt _ (by decide)
            refine ⟨_, rfl, _, _, rfl, rfl, ⟨by decide, by decide⟩, _, rfl, _, _, rfl, rfl, _, _, rfl, rfl, (by show (0 : Int) < 2; decide), ?_⟩
            dsimp only
            rw [hwi, hw2]
            generalize (i / 2 + sd) % 2 = w at lw
            obtain ⟨at1, at2⟩ := pick2 W2 rfl lw
            refine ⟨_, rfl, _, rfl, ixAt W2.ntl at1 ⟨_, rfl, _, rfl, ixAt W2.nwl at2 ⟨_, _, rfl, ?_⟩⟩⟩
            have Pw := W2.pr w lw
            refine ⟨_, rfl, _, rfl, _, rfl, _, rfl, _, rfl, b, p w, n, rs, ns, S w, tl, ts, i, pl', _, rfl, W2.bx, by omega, Pw.1.N, (fun m => SP.box w lw (List.mem_append_left _ m)), n1, n6, Nat.le_trans Pw.2.few.h (by omega), W2.tl, ntb, lts, gts, fun l0 H3 wd v1 v2 kb3 hb3 hl00 hl0 pln => ?_⟩
            have W3 := W2.but SP kb3 hb3
            have kbH3 := kb2.trans kb3
            refine ⟨l0, _, rfl, SqL.of hl0, rfl, _, _, rfl, _, _, rfl, _, _, rfl, rfl, ?_⟩
            have Pw := W3.pr w lw
            have G := Pw.2
            have G32 : Fine n rs (S w) 32 := G.up (by omega)
            have lok : ∀ h, h < n → ∀ l ∈ (S w).lg h, lineOk l := fun h hh l hl => (G.lg h hh l hl).ok
            obtain ⟨dl_, d1, d2, o1, o2⟩ := pln.data (by omega)
            refine ⟨_, rfl, _, rfl, _, rfl, _, rfl, p w, n, rs, ns, S w, wd, v1, v2, d1, d2, rfl, Pw.1.N, nok, lok, (o1 _ 0).rdd, (o2 _ 0).rdd, (fun z ez => (o2 H3 0).str (by omega) ez), fun dl H4 k4 hdl0 hdl => ?_⟩
            have W4 := W3.same k4
            have Pw := W4.pr w lw
            have hpw : w = w := rfl
            refine ⟨_, rfl, _, rfl, _, rfl, _, rfl, _, rfl, _, rfl, _, _, rfl, rfl, _, _, rfl, rfl, (by show (0 : Int) < 2; decide), rfl, q w, n, rs, ns, S w, wd, v1, v2, d1, d2, _, rfl, ⟨Pw.1.M, G.few.up (by omega), lok, (o1 _ 0).rdd, (o2 _ 0).rdd, fun z ez => (o2 H3 0).str (by omega) ez⟩, (fun e l H5 ej k5 hl50 hl5 => ?_), fun act l y H5 H6 ej b5 hl50 k56 hl6 ry N5 => ?_⟩
            · rw [ej] at hdl
              have hdl : H4 dl = some (.lst e.vs) := hdl
              obtain ⟨x, xs, ds, ev, rds, tm⟩ := (judge_from ej).data (o1 H5 0) (o2 H5 0) (by omega)
              refine ⟨_, rfl, two_ln (by show 0 ≤ _; decide), fun pe hpe => ?_⟩
              have ke := upd_grow (o := .lst []) hpe
              have hpe1 := upd_same (H := H5) (a := pe) (o := .lst [])
              generalize upd H5 pe (.lst []) = H6 at ke hpe1 ⊢
              have k46 := k5.trans ke
              refine ⟨dl, pe, e.vs, rfl, rfl, SqL.of (k46 _ _ hdl), SqL.of hpe1, _, rfl, iteB (fun z => by rw [ev] at z; cases z) fun _ => ?_⟩
              exact rest2 _ _ ⟨w, S, l, dl, e.vs, e.vs, ds, _, _, _, lw, kbH3.trans (But.of (k4.trans k46)), (W4.same k46).up (by omega), ke _ _ hl5, k46 _ _ hdl, rds.mono ke, rds.mono ke, tm, rfl⟩
            · rw [ej] at hdl
              have hdl : H4 dl = some (.lst []) := hdl
              have A := judge_act (o1 H4 0).rdd (o2 H4 0).rdd ej
              have hdl6 := k56 _ _ (b5.lst (fun m => ?_) hdl)
              · refine ⟨_, rfl, two_ln (by show 0 ≤ _; decide), fun pe hpe => ?_⟩
                have ke := upd_grow (o := .lst []) hpe
                have hpe1 := upd_same (H := H6) (a := pe) (o := .lst [])
                generalize upd H6 pe (.lst []) = H7 at ke hpe1 ⊢
                have k57 := k56.trans ke
                have N7 : LNet H7 (p w) n rs ns (S w) := (Pw.1.N.bm b5 fun a m z => SP.own1 w lw a m z).same k57
                refine ⟨dl, pe, [], rfl, rfl, SqL.of (ke _ _ hdl6), SqL.of hpe1, _, rfl, iteB (fun _ => ?_) fun z => by cases z⟩
                refine ⟨_, rfl, _, rfl, _, rfl, _, rfl, p w, n, rs, ns, S w, wd, v1, v2, act, rfl, N7, dl_, A, G.few.up (by omega), fun y2 H8 b8 ry2 N8 => ⟨two_ln (by show 2 ≤ _; decide), fun dl2 hdl2 => ?_⟩⟩
                have k9 := upd_grow (o := .lst [.str "told", y2]) hdl2
                have hd9 := upd_same (H := H8) (a := dl2) (o := .lst [.str "told", y2])
                generalize upd H8 dl2 (.lst [.str "told", y2]) = H9 at k9 hd9 ⊢
                have M8 : NetS K H8 (q w) n rs ns ((S w).did rs ns act) := (N5.same k57).bm b8 fun a m z => SP.own2 w lw a m z
                have lp : l ∉ (p w).M := fun m => by
                  obtain ⟨o, e⟩ := (Pw.1.N.bm b5 fun a m z => SP.own1 w lw a m z).some l (lparts_sub m)
                  rw [hl50] at e
                  cases e
                have hl9 := k9 _ _ (b8.lst lp (ke _ _ hl6))
                have ry9 : Rdd H9 y (ansD ns (S w) act) := (rdd_bm b8 (ry.mono k57) (flat_ans _ _ _)).mono k9
                have bm49 : Bm ((p w).M ++ (q w).M) H4 H9 := (b5.mono fun a m => List.mem_append_right _ m).trans ((Bm.of k57).trans ((b8.mono fun a m => List.mem_append_left _ m).trans (Bm.of k9)))
                have W9 := W4.step SP lw bm49 (Nat.le_succ i) ⟨N8.same k9, M8.same k9, nok, n6⟩ (G.did nok A)
                have kb9 : But b H H9 := fun a o na e => bm49 _ _ (fun _ m => ?_) ((kbH3.trans (But.of k4)) _ _ na e)
                · exact rest2 _ _ ⟨w, _, l, dl2, _, _, [.str "told", ansD ns (S w) act], _, _, _, lw, kb9, W9, hl9, hd9, .cons (.str _) (.cons ry9 .nil), .cons (.str _) (.cons (ry2.mono k9) .nil), told_tame (ans_nc nok G32 A), rfl⟩
                · have := fr1 w lw a m
                  rw [e] at this
                  cases this
              · obtain ⟨o, e⟩ := (W3.pr w lw).1.M.some dl (parts_sub m)
                rw [hdl0] at e
                cases e
        · rintro σ H2 ⟨S, z1, z2, z3, z4, z5, z6, z7, z8, z9, kb2, W2, rfl⟩
          exact rest _ _ ⟨_, _, _, _, _, _, _, _, _, _, kb2, (W2.up (by omega)).upc (by omega), rfl⟩
    · refine ⟨two_ln (by show 5 ≤ _; decide), fun pl hpl => ?_⟩
      have nplb : pl ≠ b := (ne_of_none hob hpl).symm
      have kl := upd_grow (o := .lst [V.int 3, V.int 2, V.int 2, V.int 8, V.int 15]) hpl
      have hpl1 := upd_same (H := H) (a := pl) (o := .lst [V.int 3, V.int 2, V.int 2, V.int 8, V.int 15])
      generalize upd H pl (.lst [V.int 3, V.int 2, V.int 2, V.int 8, V.int 15]) = H1 at kl hpl1 ⊢
      refine ⟨pl, rfl, ⟨_, SqL.of hpl1⟩, fun D hD => ?_⟩
      have hob1 := kl _ _ hob
      refine lc_genB (p := b) walk_list (fun i H' => BoxAt H' b i) (fun i y _ => ∃ k : Nat, y = .int k ∧ k < [3, 2, 2, 8, 15].getD i 0) (fun _ _ _ _ _ h => h) (fun i H1 H2 e h => h.eq e.symm) hob1 (hb.same kl) hD (by show 5 ≤ _; decide) (fun H' k => SqL.of (but_of k _ _ nplb hpl1)) ?_ ?_
      · rintro i x H2 H3 K1 N1 hi k2 ⟨o, ho⟩ s2 ⟨e3, hx⟩ hK
        subst e3
        have hi : i < 5 := hi
        obtain ⟨m, rfl, lm, m1⟩ : ∃ m : Nat, x = .int m ∧ m = [3, 2, 2, 8, 15].getD i 0 ∧ 1 ≤ m ∧ m ≤ 15 := by
          match i, hi with
          | 0, _ => exact ⟨3, (Option.some.inj hx).symm, rfl, by decide⟩
          | 1, _ => exact ⟨2, (Option.some.inj hx).symm, rfl, by decide⟩
          | 2, _ => exact ⟨2, (Option.some.inj hx).symm, rfl, by decide⟩
          | 3, _ => exact ⟨8, (Option.some.inj hx).symm, rfl, by decide⟩
          | 4, _ => exact ⟨15, (Option.some.inj hx).symm, rfl, by decide⟩
        exact ⟨rfl, _, rfl, _, rfl, b, m, i, rfl, s2, by omega, by omega, by omega, fun d H4 d0 d1 k4 hb4 e4 => hK _ _ k4 hb4 ⟨d.toNat, by congr 1; omega, by omega⟩⟩
      intro ys H2 k2 hb2 hD2 lys rys
      have kb2 : But b H H2 := (But.of kl).trans (but_of k2)
      have hb2 : BoxAt H2 b 5 := hb2
      obtain ⟨pl', sd, nm', sp, mo, rfl, b1, b2, b3, b4, b5⟩ : ∃ a0 a1 a2 a3 a4 : Nat, ys = [.int a0, .int a1, .int a2, .int a3, .int a4] ∧ a0 < 3 ∧ a1 < 2 ∧ a2 < 2 ∧ a3 < 8 ∧ a4 < 15 := by
        match ys, lys with
        | [y0, y1, y2, y3, y4], _ =>
          obtain ⟨a0, rfl, c0⟩ := rys 0 y0 rfl
          obtain ⟨a1, rfl, c1⟩ := rys 1 y1 rfl
          obtain ⟨a2, rfl, c2⟩ := rys 2 y2 rfl
          obtain ⟨a3, rfl, c3⟩ := rys 3 y3 rfl
          obtain ⟨a4, rfl, c4⟩ := rys 4 y4 rfl
          exact ⟨a0, a1, a2, a3, a4, rfl, c0, c1, c2, c3, c4⟩
      clear rys lys
      refine ⟨D, _, rfl, SqL.of hD2, rfl, _, _, rfl, _, _, rfl, _, _, rfl, _, _, rfl, _, _, rfl, rfl, ?_⟩
      dsimp only [gName, tSeq, gNil, L2.start]
      -- houses
      refine ⟨two_ln (by show 8 ≤ _; decide), fun pw hpw => ?_⟩
      obtain ⟨ob2, hob2⟩ := hb2.some
      have npw : pw ≠ b := (ne_of_none hob2 hpw).symm
      have k3 := upd_grow (o := .lst [V.int 3, V.int 4, V.int 2, V.int 5, V.int 6, V.int 1, V.int 4, V.int 3]) hpw
      have hpw1 := upd_same (H := H2) (a := pw) (o := .lst [V.int 3, V.int 4, V.int 2, V.int 5, V.int 6, V.int 1, V.int 4, V.int 3])
      generalize upd H2 pw (.lst [V.int 3, V.int 4, V.int 2, V.int 5, V.int 6, V.int 1, V.int 4, V.int 3]) = H3 at k3 hpw1 ⊢
      refine ⟨_, rfl, b, 8, 5, rfl, hb2.same k3, by decide, by decide, by decide, fun di H4 d0 d1 k4 hb4 e4 => ?_⟩
      have kb4 : But b H H4 := kb2.trans ((But.of k3).trans k4)
      obtain ⟨hi, rfl⟩ : ∃ k : Nat, di = k := ⟨di.toNat, by omega⟩
      have lhi : hi < 8 := by omega
      obtain ⟨n, en, n1, n6⟩ : ∃ n : Nat, ([V.int 3, V.int 4, V.int 2, V.int 5, V.int 6, V.int 1, V.int 4, V.int 3] : List V)[hi]? = some (.int (n : Nat)) ∧ 1 ≤ n ∧ n ≤ 6 := by
        match hi, lhi with
        | 0, _ => exact ⟨3, rfl, by decide⟩
        | 1, _ => exact ⟨4, rfl, by decide⟩
        | 2, _ => exact ⟨2, rfl, by decide⟩
        | 3, _ => exact ⟨5, rfl, by decide⟩
        | 4, _ => exact ⟨6, rfl, by decide⟩
        | 5, _ => exact ⟨1, rfl, by decide⟩
        | 6, _ => exact ⟨4, rfl, by decide⟩
        | 7, _ => exact ⟨3, rfl, by decide⟩
      refine ixAt (k4 _ _ npw hpw1) (atI_nat en) ?_
      -- roads, names
      refine ⟨_, rfl, _, rfl, b, n, 6, rfl, hb4, n1, by omega, by omega, fun rs rl H5 ok jo kb5 hb5 hrl0 nrl hrl => ?_⟩
      have kH5 := kb4.trans kb5
      refine ⟨_, rfl, _, rfl, b, n, 18, rfl, hb5.up (by omega), n1, n6, by decide, fun nl ns H6 kb6 hb6 hnl0 nnl hnl nok => ?_⟩
      have kH6 := kH5.trans kb6
      have hb6 : BoxAt H6 b 48 := hb6
      have rl6 : Rdd (del H6 b) (.ref rl) (.list (rs.map rd)) := hrl.mono (but_del kb6)
      obtain ⟨rys, hrl6, rr6⟩ : ∃ ys, H6 rl = some (.lst ys) ∧ RddAll H6 ys (rs.map rd) := by
        cases rl6 with
        | lst h r => exact ⟨_, del_le _ _ h, r.mono fun a o e => del_le _ _ e⟩
      have nrn : rl ≠ nl := fun e => by
        cases hrl with
        | lst h r =>
          have := del_le _ _ h
          rw [e, hnl0] at this
          cases this
      -- tree, given, texts, at
      refine ⟨_, rfl, _, rfl, rl, rys, rfl, .inl (SqL.of hrl6), fun tp htp => ?_⟩
      have k7 := upd_grow (o := .lst rys) htp
      have htp1 := upd_same (H := H6) (a := tp) (o := .lst rys)
      generalize upd H6 tp (.lst rys) = H7 at k7 htp1 ⊢
      refine ⟨rfl, rfl, fun t dx ht hdx ne => ?_⟩
      dsimp only [tNil]
      refine init_ok (by rfl) n1 (by omega) (.inl rfl) ok jo (.lst htp1 (rr6.mono k7)) ht hdx ne fun H8 k8 T8 => ?_
      have k68 := k7.trans k8
      have hnl8 := k68 _ _ hnl
      refine ⟨_, rfl, nl, _, rfl, .inl (SqL.of hnl8), fun gl hgl => ?_⟩
      have k9 := upd_grow (o := .lst (ns.map V.str)) hgl
      have hgl1 := upd_same (H := H8) (a := gl) (o := .lst (ns.map V.str))
      generalize upd H8 gl (.lst (ns.map V.str)) = H9 at k9 hgl1 ⊢
      have k69 := k68.trans k9
      have hb9 := hb6.same k69
      obtain ⟨bl9, hbl9, _⟩ := id hb9
      have ngl : gl ≠ b := by
        obtain ⟨o, e⟩ := (hb6.same k68).some
        exact (ne_of_none e hgl).symm
      refine ⟨_, rfl, b, 48, rfl, hb9, by decide, fun tl ts HT kbT hbT htl0 ntl htl lts gts => ?_⟩
      obtain ⟨blT, hblT, _⟩ := id hbT
      refine ⟨_, rfl, _, rfl, b, n, 54, rfl, hbT, by decide, by omega, by omega, fun ai HU a0 a1 kbU hbU eU => ?_⟩
      obtain ⟨at_, rfl⟩ : ∃ k : Nat, ai = k := ⟨ai.toNat, by omega⟩
      have hat : at_ < n := by omega
      have kb9U := kbT.trans kbU
      have hbU : BoxAt HU b 55 := hbU
      have bm9 := Bm.but hbl9 kb9U
      have T9 : TreeAt K HU t n rs := (T8.bm (M := []) (Bm.of k9)).bm bm9
      refine ⟨two_ln (by show 4 ≤ _; decide), fun tu htu => ?_⟩
      have kA := upd_grow (o := .tup [.ref t, .ref gl, .ref tl, .int (at_ : Nat)]) htu
      have htu1 := upd_same (H := HU) (a := tu) (o := .tup [.ref t, .ref gl, .ref tl, .int (at_ : Nat)])
      generalize upd HU tu (.tup [.ref t, .ref gl, .ref tl, .int (at_ : Nat)]) = HA at kA htu1 ⊢
      refine ⟨tu, _, rfl, SqT.of htu1, rfl, _, _, rfl, _, _, rfl, _, _, rfl, _, _, rfl, rfl, ?_⟩
      dsimp only [gName, tSeq, gNil]
      have kb9A : But b H9 HA := kb9U.trans (But.of kA)
      have kbHA : But b H HA := kH6.trans ((But.of k69).trans kb9A)
      have hbA := hbU.same kA
      have TA : TreeAt K HA t n rs := T9.bm (M := []) (Bm.of kA)
      have hnlA := kb9A _ _ nnl (k9 _ _ hnl8)
      have hrlA := kb9A _ _ nrl (k69 _ _ hrl6)
      have rrA : RddAll HA rys (rs.map rd) := rdds_bm (Bm.but hbl9 kb9A) (rr6.mono k69) (flat_rds2 rs)
      have hglA := kb9A _ _ ngl hgl1
      have htlA := kA _ _ (kbU _ _ ntl htl)
      -- the networks
      refine ⟨_, rfl, _, rfl, rfl, rfl, fun x0 dx0 hx0 hdx0 ne0 => ?_⟩
      dsimp only [tNil]
      refine ninit_ok (by rfl) TA (.lst hglA (rdd_strsD ns)) (.inl rfl) nok hx0 hdx0 ne0 fun HB q0 kAB ex0 et0 f0 M0 => ?_
      subst ex0
      refine ⟨_, rfl, _, rfl, rfl, rfl, fun x1 dx1 hx1 hdx1 ne1 => ?_⟩
      refine ninit_ok (by rfl) (TA.bm (M := []) (Bm.of kAB)) (.lst (kAB _ _ hglA) (rdd_strsD ns)) (.inl rfl) nok hx1 hdx1 ne1 fun HC q1 kBC ex1 et1 f1 M1 => ?_
      subst ex1
      refine ⟨two_ln (by show 2 ≤ _; decide), fun nwl hnwl => ?_⟩
      have kCD := upd_grow (o := .lst [.ref q0.x, .ref q1.x]) hnwl
      have hnwl1 := upd_same (H := HC) (a := nwl) (o := .lst [.ref q0.x, .ref q1.x])
      generalize upd HC nwl (.lst [.ref q0.x, .ref q1.x]) = HD at kCD hnwl1 ⊢
      have kAD := (kAB.trans kBC).trans kCD
      -- the nets
      refine ⟨_, rfl, _, rfl, nl, _, rfl, .inl (SqL.of (kAD _ _ hnlA)), fun c0 hc0 => ?_⟩
      have kDE := upd_grow (o := .lst (ns.map V.str)) hc0
      have hc01 := upd_same (H := HD) (a := c0) (o := .lst (ns.map V.str))
      generalize upd HD c0 (.lst (ns.map V.str)) = HE at kDE hc01 ⊢
      have kAE := kAD.trans kDE
      refine ⟨rl, c0, rys, n, rs, ns, rfl, kAE _ _ hrlA, rrA.mono kAE, ok, hc01, nok.len, by omega, (fun z => by rw [← z, kAD _ _ hrlA] at hc0; cases hc0), fun p0 HF kEF er0 en0 g0 N0 => ?_⟩
      have kAF := kAE.trans kEF
      refine ⟨_, rfl, _, rfl, nl, _, rfl, .inl (SqL.of (kAF _ _ hnlA)), fun c1 hc1 => ?_⟩
      have kFG := upd_grow (o := .lst (ns.map V.str)) hc1
      have hc11 := upd_same (H := HF) (a := c1) (o := .lst (ns.map V.str))
      generalize upd HF c1 (.lst (ns.map V.str)) = HG at kFG hc11 ⊢
      have kAG := kAF.trans kFG
      refine ⟨rl, c1, rys, n, rs, ns, rfl, kAG _ _ hrlA, rrA.mono kAG, ok, hc11, nok.len, by omega, (fun z => by rw [← z, kAF _ _ hrlA] at hc1; cases hc1), fun p1 HH kGH er1 en1 g1 N1 => ?_⟩
      have kAH := kAG.trans kGH
      refine ⟨two_ln (by show 2 ≤ _; decide), fun ntl' hntl => ?_⟩
      have kHI := upd_grow (o := .lst [.ref p0.x, .ref p1.x]) hntl
      have hntl1 := upd_same (H := HH) (a := ntl') (o := .lst [.ref p0.x, .ref p1.x])
      generalize upd HH ntl' (.lst [.ref p0.x, .ref p1.x]) = HI at kHI hntl1 ⊢
      have kAI := kAH.trans kHI
      obtain ⟨obA, hobA⟩ := hbA.some
      have SP : Sep b [nl, rl, tl, ntl', nwl] (two p0 p1) (two q0 q1) := sep_of kAB kBC kCD kDE kEF kFG kGH ⟨_, hobA⟩ ⟨_, hrlA⟩ ⟨_, hnlA⟩ ⟨_, htlA⟩ nrl nnl ntl f0 M0.some f1 M1.some hnwl ⟨_, hnwl1⟩ (en0 ▸ hc0) g0 N0.some er0 (en1 ▸ hc1) g1 N1.some er1 hntl
      have kFI := kFG.trans (kGH.trans kHI)
      have kCI := kCD.trans (kDE.trans (kEF.trans kFI))
      have WI : Wd2 K HI b 55 t rl nl tl ntl' nwl (two p0 p1) (two q0 q1) n rs ns ts (fun _ => NS.new) 0 := by
        refine ⟨hbA.same kAI, fun i hi => ⟨?_, Fine.new⟩, kAI _ _ hnlA, ⟨rys, kAI _ _ hrlA, rrA.mono kAI⟩, kAI _ _ htlA, hntl1, (kDE.trans (kEF.trans kFI)) _ _ hnwl1, TA.bm (M := []) (Bm.of kAI)⟩
        match i, hi with
        | 0, _ => exact ⟨N0.same kFI, M0.same (kBC.trans kCI), nok, n6⟩
        | 1, _ => exact ⟨N1.same kHI, M1.same kCI, nok, n6⟩
      have hglI := kAI _ _ hglA
      -- the list that was handed is changed
      have gx : Ex HA gl := ⟨_, hglA⟩
      have ntlb : ntl' ≠ b := fun e => (ne_of_none ((kAH) _ _ hobA) hntl) e.symm
      have dis : ∀ {a : Addr}, Ex HA a → a ≠ gl → True := fun _ _ => True.intro
      have gq0 : gl ∉ q0.all := gx.ni f0
      have gq1 : gl ∉ q1.all := (gx.same kAB).ni f1
      have ngn : gl ≠ nl := (ne_of_none hnl8 hgl).symm
      have ngr : gl ≠ rl := (ne_of_none (k68 _ _ hrl6) hgl).symm
      have ngt : gl ≠ tl := (ne_of_none hgl1 htl0)
      have gp0 : gl ∉ p0.all := fun m => by
        rcases fr_all m with e | e | e
        · exact ngr (e.trans er0)
        · exact (gx.same kAD).ne hc0 (e.trans en0)
        · exact (gx.same kAE).ni g0 e
      have gp1 : gl ∉ p1.all := fun m => by
        rcases fr_all m with e | e | e
        · exact ngr (e.trans er1)
        · exact (gx.same kAF).ne hc1 (e.trans en1)
        · exact (gx.same kAG).ni g1 e
      have gnw : gl ≠ nwl := (gx.same (kAB.trans kBC)).ne hnwl
      have gnt : gl ≠ ntl' := (gx.same kAH).ne hntl
      have lns : (ns.map V.str).length = n := by rw [List.length_map, nok.len]
      have bmg : ∀ {X : Hp} {xs ys : List V}, Wd2 K X b 55 t rl nl tl ntl' nwl (two p0 p1) (two q0 q1) n rs ns ts (fun _ => NS.new) 0 → X gl = some (.lst xs) → Wd2 K (upd X gl (.lst ys)) b 55 t rl nl tl ntl' nwl (two p0 p1) (two q0 q1) n rs ns ts (fun _ => NS.new) 0 := fun {X xs ys} W h => by
        have k : Bm [gl] X (upd X gl (.lst ys)) := Bm.upd h List.mem_cons_self
        refine W.upto k (W.bx.eq (upd_ne ngl.symm)) (fun a m z => ?_) fun i hi => ⟨(W.pr i hi).1.bm k fun a m z => ?_, (W.pr i hi).2⟩
        · have z := List.mem_singleton.mp z
          subst z
          simp only [List.mem_cons, List.not_mem_nil, or_false] at m
          rcases m with m | m | m | m | m
          · exact ngn m
          · exact ngr m
          · exact ngt m
          · exact gnt m
          · exact gnw m
        · have z := List.mem_singleton.mp z
          subst z
          match i, hi with
          | 0, _ => exact (List.mem_append.mp m).elim gp0 gq0
          | 1, _ => exact (List.mem_append.mp m).elim gp1 gq1
      refine ⟨_, rfl, _, rfl, gl, _, (at_ : Nat), at_, rfl, rfl, hglI, ?_, ?_⟩
      · unfold ixN
        rw [lns, if_pos (by omega), if_pos (by omega)]
        simp
      have WJ := bmg (ys := (ns.map V.str).set at_ (.str "other")) WI hglI
      have hglJ := upd_same (H := HI) (a := gl) (o := .lst ((ns.map V.str).set at_ (.str "other")))
      have kJ : ∀ a o, a ≠ gl → HI a = some o → upd HI gl (.lst ((ns.map V.str).set at_ (.str "other"))) a = some o := fun a o na e => by rw [upd_ne na]; exact e
      generalize upd HI gl (.lst ((ns.map V.str).set at_ (.str "other"))) = HJ at WJ hglJ kJ ⊢
      refine ⟨_, rfl, .inl ⟨rfl, _, SqL.of hglJ⟩, gl, _, _, rfl, rfl, hglJ, lt_ln (by rw [List.length_set, lns]; omega), ?_⟩
      have WL := bmg (ys := (ns.map V.str).set at_ (.str "other") ++ [.str "more"]) WJ hglJ
      have glH : H gl = none := by
        have e8 : H8 gl = none := hgl
        cases z : H gl with
        | none => rfl
        | some o =>
          have := (kH6.trans (But.of k68)) _ _ ngl z
          rw [e8] at this
          cases this
      refine rest _ _ ⟨pl', sd, nm', sp, mo, n, at_, t, rl, nl, gl, tl, ntl', nwl, rs, ns, ts, p0, p1, q0, q1, ⟨b2, b4, b5, n1, n6, hat, jo, lts, gts, nrn, ntl⟩, fun a o na e => ?_, SP, WL, fun i hi a m => ?_, rfl⟩
      · have ng : a ≠ gl := fun z => by rw [z, glH] at e; cases e
        rw [upd_ne ng]
        exact kJ _ _ ng (kAI _ _ (kbHA _ _ na e))
      · have no : HA a = none → H a = none := fun e => by
          cases z : H a with
          | none => rfl
          | some o =>
            by_cases y : a = b
            · rw [y, hobA] at e; cases e
            · rw [kbHA _ _ y z] at e; cases e
        refine no ?_
        match i, hi with
        | 0, _ => exact (List.mem_append.mp m).elim (fun m => fresh_of kAE (g0 a (fr_M m))) fun m => f0 a (parts_sub m)
        | 1, _ => exact (List.mem_append.mp m).elim (fun m => fresh_of kAG (g1 a (fr_M m))) fun m => fresh_of kAB (f1 a (parts_sub m))
end
end K04

namespace K04
open PySem PySem.Spec PyProof.Rows L2 Tn TL
abbrev sLaw : Stmt := top 62
theorem scLaw : FnScope ["script", "k"] ["script"] (defScope sLaw) := ⟨rfl, rfl, rfl, by decide +kernel, rfl, by decide +kernel, by decide +kernel⟩
def spLaw (K : PySem.W.Frag) : Sp := fun vs H Q _ => ∃ (l : Addr) (ns : List Int), vs = [.ref l] ∧ SqL K H l (ns.map V.int) ∧ ∀ H', Q (.bl true) H'
theorem sql_same {K : PySem.W.Frag} {H H' : Hp} {l : Addr} {xs : List V} (h : SqL K H l xs) (k : Same H H') : SqL K H' l xs := by
  rcases h with h | h
  · exact .inl (h.imp (k _ _) fun ⟨o, z⟩ => ⟨o, k _ _ z⟩)
  · exact .inr h
section
variable {P : Program} {w : World} {K : PySem.W.Frag} {mg : Str → Option Value} {base : Heap} {f : Addr} {fd : FuncData}
theorem ok_law (F : Fd K "law" sLaw f fd) (B : Bl mg) (o_law_cell : Ok P w K mg base CX0 1 "_law_cell" sCell ["script", "k"] (spCell K)) (o_law_box : Ok P w K mg base CX0 1 "_law_box" sBox ["great"] spBox)
    (o_law_right : OkG P w K mg base 10 "_law_right" sRight ["box"] spRight) : FnG P w K mg base 11 f fd ["script"] (spLaw K) := by
  refine F.okG scLaw (fun vs H Q E h => ?_) (fun cdv A outer s H vs Q hgd hr h => ?_)
  · obtain ⟨l, ns, rfl, _⟩ := h
    rfl
  · refine ⟨_, (pss_cons (ps_for (passes_of rfl) rfl (pi_range1 (by rfl) (B.u "range" (by decide +kernel)) (pa_cons (pe_callB (call_max2 rfl) (by rfl) (B.u "max" (by decide +kernel)) (by decide +kernel) (pa_cons pe_int (pa_cons (pe_callB (call_min2 rfl) (by rfl) (B.u "min" (by decide +kernel)) (by decide +kernel) (pa_cons pe_int (pa_cons (pe_callB call_len (by rfl) (B.u "len" (by decide +kernel)) boot_len (pa_cons (pv 0) pa_nil)) pa_nil))) pa_nil))) pa_nil)) (pg_name (i := 1) scLaw.nd rfl (Or.inl rfl))
        (pss_one (ps_if (pt_not (pt_val (pe_oG o_law_right hgd (hr.mono (by decide)) (by rfl) (pa_cons (pe_o o_law_box (hr.mono (by decide)) (by rfl) (pa_cons (pe_o o_law_cell (hr.mono (by decide)) (by rfl) (pa_cons (pv 0) (pa_cons (pv 1) pa_nil))) pa_nil)) pa_nil))))
          (pss_one (ps_ret pe_bl))
          pss_nil)))
      (pss_one (ps_ret pe_bl))), ?_⟩
    obtain ⟨l, ns, rfl, hl, q⟩ := h
    refine ⟨_, rfl, _, _, rfl, .inl ⟨_, hl, rfl⟩, _, _, rfl, _, _, rfl, _, rfl, ?_⟩
    generalize hJ : (if (if ((List.map V.int ns).length : Int) < 2 then ((List.map V.int ns).length : Int) else 2) > 1 then (if ((List.map V.int ns).length : Int) < 2 then ((List.map V.int ns).length : Int) else 2) else (1 : Int)) = J
    have j0 : 1 ≤ J := by rw [← hJ]; split <;> omega
    have j1 : J ≤ 2 := by rw [← hJ]; split <;> (try split) <;> omega
    refine ⟨by omega, by omega, ?_⟩
    refine for_it (walk_range (lo := 0) (n := J.toNat)) (fun i σ H' => Same H H' ∧ ∃ a : Option V, σ = [some (.ref l), a]) ⟨Same.refl _, none, rfl⟩ (fun _ _ _ _ _ => True.intro) ?_ ?_
    · rintro i x σ H0 H1 hi ⟨k1, a, rfl⟩ ⟨rfl, rfl⟩
      refine ⟨_, rfl, _, rfl, l, ns, (0 : Int) + i, rfl, sql_same hl k1, by omega, by omega, fun n H2 k2 => ⟨n, rfl, fun p xs hp hb => ?_⟩⟩
      refine ⟨p, rfl, ⟨xs, upd_same, hb⟩, fun H3 k3 => ⟨true, rfl, iteF ⟨k1.trans (k2.trans fun b o e => k3 _ _ (ne_of_none e hp) (upd_grow hp _ _ e)), _, rfl⟩⟩⟩
    · rintro σ H1 ⟨k1, a, rfl⟩
      exact q H1
end
end K04

namespace K04
open PySem PySem.Spec PyProof.Rows L2 Ml Tn TL
abbrev Fi (K : PySem.W.Frag) (i : Nat) (x qual : Str) (fd : FuncData) : Prop := FunD K "__init__" qual (defArgs (ini i)) (defBody (ini i)) (defScope (ini i)) [] [] (He.ma K (He.ga K x) "__init__") fd
section
variable {P : Program} {w : World} {K : PySem.W.Frag} {mg : Str → Option Value} {base : Heap} {fd : FuncData} {x f g qual : Str} {i : Nat}
theorem one_of {q1 q2 q3 q4 : Pos} (F : Fi K i x qual fd) (G : mg x = some (.ref (He.ga K x))) (B : ClsI K (He.ga K x) (He.ga K "LostError")) (no : PySem.W.findIn K (.ref (He.ga K x)) f = some none)
    (S : FnScope ["self", f] ["self", f] (defScope (ini i))) (hb : defBody (ini i) = iB1 f q1 q2 q3 q4) (pf : L2.Plain f) (b1 : KBn K fd ["self", f] 2 [] (fun us _ => us) (fun vs _ => vs))
    (b2 : KBn K fd ["self", f] 1 [f] (fun us ws => us ++ ws) (fun vs zs => vs ++ zs)) : One P w K mg base x f :=
  ⟨G, B.T, B.iC, B.tI, fd, ok_init1 F S hb B.T no pf, b1, b2⟩
theorem two_of {q1 q2 q3 q4 r1 r2 r3 r4 : Pos} (F : Fi K i x qual fd) (G : mg x = some (.ref (He.ga K x))) (B : ClsI K (He.ga K x) (He.ga K "LostError")) (no : PySem.W.findIn K (.ref (He.ga K x)) f = some none) (no2 : PySem.W.findIn K (.ref (He.ga K x)) g = some none)
    (S : FnScope ["self", f, g] ["self", f, g] (defScope (ini i))) (hb : defBody (ini i) = iB2 f g q1 q2 q3 q4 r1 r2 r3 r4) (pf : L2.Plain f) (pg : L2.Plain g)
    (b1 : KBn K fd ["self", f, g] 3 [] (fun us _ => us) (fun vs _ => vs)) (b2 : KBn K fd ["self", f, g] 1 [f, g] (fun us ws => us ++ ws) (fun vs zs => vs ++ zs))
    (b3 : KBn K fd ["self", f, g] 1 [g, f] (fun us ws => us ++ ws.reverse) (fun vs zs => vs ++ zs.reverse)) (b4 : KBn K fd ["self", f, g] 2 [g] (fun us ws => us ++ ws) (fun vs zs => vs ++ zs)) : Two P w K mg base x f g :=
  ⟨G, B.T, B.iC, B.tI, fd, ok_init2 F S hb B.T no no2 pf pg, b1, b2, b3, b4⟩
theorem rel_rev {vs zs : List V} {us ws : List Value} (r : Vals vs us) (q : Vals zs ws) : Vals (vs ++ zs.reverse) (us ++ ws.reverse) := r.append q.rev
theorem bk3 {st : Stmt} {m qual a b : Str} {A : Addr} (F : Md K m qual st A fd) (hb : ∀ (kV doc pm : Value) (an : Option Addr) (cdv ct : Value) (us ws : List Value), us.length = 1 → ws.length = 2 →
      bindArgs (PySem.W.fnOf m qual (defArgs st) (defBody st) (defScope st) Value.none kV doc pm an cdv ct) ⟨us, [b, a].zip ws⟩ = pure ((["self", a, b] : List Str).zip (pick [0, 2, 1] us ws))) : KBn K fd ["self", a, b] 1 [b, a] (pick [0, 2, 1]) (pick [0, 2, 1]) :=
  F.kbn0 1 [b, a] (pick [0, 2, 1]) (pick_rel [0, 2, 1]) fun kV doc pm an cdv ct us ws l1 l2 => hb kV doc pm an cdv ct us ws l1 (l2.trans rfl)
theorem bk2 {st : Stmt} {m qual a : Str} {A : Addr} (F : Md K m qual st A fd) (hb : ∀ (kV doc pm : Value) (an : Option Addr) (cdv ct : Value) (us ws : List Value), us.length = 1 → ws.length = 1 →
      bindArgs (PySem.W.fnOf m qual (defArgs st) (defBody st) (defScope st) Value.none kV doc pm an cdv ct) ⟨us, [a].zip ws⟩ = pure ((["self", a] : List Str).zip (pick [0, 1] us ws))) : KBn K fd ["self", a] 1 [a] (pick [0, 1]) (pick [0, 1]) :=
  F.kbn0 1 [a] (pick [0, 1]) (pick_rel [0, 1]) fun kV doc pm an cdv ct us ws l1 l2 => hb kV doc pm an cdv ct us ws l1 (l2.trans rfl)
theorem o2 (F : Fi K 2 "InvalidText" "InvalidText.__init__" fd) (G : mg "InvalidText" = some (.ref (He.ga K "InvalidText"))) (B : ClsI K (He.ga K "InvalidText") (He.ga K "LostError")) (no : PySem.W.findIn K (.ref (He.ga K "InvalidText")) "given" = some none) : One P w K mg base "InvalidText" "given" :=
  one_of F G B no ⟨rfl, rfl, rfl, by decide +kernel, rfl, by decide +kernel, by decide +kernel⟩ rfl ⟨by decide, by decide⟩
    (F.kbn0 2 [] (fun us _ => us) (fun r _ => r) fun _ _ _ _ _ _ us ws l1 l2 => match us, ws, l1, l2 with | [_, _], [], _, _ => rfl)
    (F.kbn0 1 ["given"] (fun us ws => us ++ ws) rel_app fun _ _ _ _ _ _ us ws l1 l2 => match us, ws, l1, l2 with | [_], [_], _, _ => rfl)
theorem o3 (F : Fi K 3 "InvalidHouses" "InvalidHouses.__init__" fd) (G : mg "InvalidHouses" = some (.ref (He.ga K "InvalidHouses"))) (B : ClsI K (He.ga K "InvalidHouses") (He.ga K "LostError")) (no : PySem.W.findIn K (.ref (He.ga K "InvalidHouses")) "given" = some none) : One P w K mg base "InvalidHouses" "given" :=
  one_of F G B no ⟨rfl, rfl, rfl, by decide +kernel, rfl, by decide +kernel, by decide +kernel⟩ rfl ⟨by decide, by decide⟩
    (F.kbn0 2 [] (fun us _ => us) (fun r _ => r) fun _ _ _ _ _ _ us ws l1 l2 => match us, ws, l1, l2 with | [_, _], [], _, _ => rfl)
    (F.kbn0 1 ["given"] (fun us ws => us ++ ws) rel_app fun _ _ _ _ _ _ us ws l1 l2 => match us, ws, l1, l2 with | [_], [_], _, _ => rfl)
theorem o4 (F : Fi K 4 "InvalidRoads" "InvalidRoads.__init__" fd) (G : mg "InvalidRoads" = some (.ref (He.ga K "InvalidRoads"))) (B : ClsI K (He.ga K "InvalidRoads") (He.ga K "LostError")) (no : PySem.W.findIn K (.ref (He.ga K "InvalidRoads")) "given" = some none) : One P w K mg base "InvalidRoads" "given" :=
  one_of F G B no ⟨rfl, rfl, rfl, by decide +kernel, rfl, by decide +kernel, by decide +kernel⟩ rfl ⟨by decide, by decide⟩
    (F.kbn0 2 [] (fun us _ => us) (fun r _ => r) fun _ _ _ _ _ _ us ws l1 l2 => match us, ws, l1, l2 with | [_, _], [], _, _ => rfl)
    (F.kbn0 1 ["given"] (fun us ws => us ++ ws) rel_app fun _ _ _ _ _ _ us ws l1 l2 => match us, ws, l1, l2 with | [_], [_], _, _ => rfl)
theorem o5 (F : Fi K 5 "InvalidHouse" "InvalidHouse.__init__" fd) (G : mg "InvalidHouse" = some (.ref (He.ga K "InvalidHouse"))) (B : ClsI K (He.ga K "InvalidHouse") (He.ga K "LostError")) (no : PySem.W.findIn K (.ref (He.ga K "InvalidHouse")) "given" = some none) : One P w K mg base "InvalidHouse" "given" :=
  one_of F G B no ⟨rfl, rfl, rfl, by decide +kernel, rfl, by decide +kernel, by decide +kernel⟩ rfl ⟨by decide, by decide⟩
    (F.kbn0 2 [] (fun us _ => us) (fun r _ => r) fun _ _ _ _ _ _ us ws l1 l2 => match us, ws, l1, l2 with | [_, _], [], _, _ => rfl)
    (F.kbn0 1 ["given"] (fun us ws => us ++ ws) rel_app fun _ _ _ _ _ _ us ws l1 l2 => match us, ws, l1, l2 with | [_], [_], _, _ => rfl)
theorem o6 (F : Fi K 6 "InvalidNames" "InvalidNames.__init__" fd) (G : mg "InvalidNames" = some (.ref (He.ga K "InvalidNames"))) (B : ClsI K (He.ga K "InvalidNames") (He.ga K "LostError")) (no : PySem.W.findIn K (.ref (He.ga K "InvalidNames")) "given" = some none) : One P w K mg base "InvalidNames" "given" :=
  one_of F G B no ⟨rfl, rfl, rfl, by decide +kernel, rfl, by decide +kernel, by decide +kernel⟩ rfl ⟨by decide, by decide⟩
    (F.kbn0 2 [] (fun us _ => us) (fun r _ => r) fun _ _ _ _ _ _ us ws l1 l2 => match us, ws, l1, l2 with | [_, _], [], _, _ => rfl)
    (F.kbn0 1 ["given"] (fun us ws => us ++ ws) rel_app fun _ _ _ _ _ _ us ws l1 l2 => match us, ws, l1, l2 with | [_], [_], _, _ => rfl)
theorem o7 (F : Fi K 7 "NotJoined" "NotJoined.__init__" fd) (G : mg "NotJoined" = some (.ref (He.ga K "NotJoined"))) (B : ClsI K (He.ga K "NotJoined") (He.ga K "LostError")) (no : PySem.W.findIn K (.ref (He.ga K "NotJoined")) "house" = some none) : One P w K mg base "NotJoined" "house" :=
  one_of F G B no ⟨rfl, rfl, rfl, by decide +kernel, rfl, by decide +kernel, by decide +kernel⟩ rfl ⟨by decide, by decide⟩
    (F.kbn0 2 [] (fun us _ => us) (fun r _ => r) fun _ _ _ _ _ _ us ws l1 l2 => match us, ws, l1, l2 with | [_, _], [], _, _ => rfl)
    (F.kbn0 1 ["house"] (fun us ws => us ++ ws) rel_app fun _ _ _ _ _ _ us ws l1 l2 => match us, ws, l1, l2 with | [_], [_], _, _ => rfl)
theorem o8 (F : Fi K 8 "NotARoad" "NotARoad.__init__" fd) (G : mg "NotARoad" = some (.ref (He.ga K "NotARoad"))) (B : ClsI K (He.ga K "NotARoad") (He.ga K "LostError")) (no : PySem.W.findIn K (.ref (He.ga K "NotARoad")) "u" = some none)
    (no2 : PySem.W.findIn K (.ref (He.ga K "NotARoad")) "v" = some none) : Two P w K mg base "NotARoad" "u" "v" :=
  two_of F G B no no2 ⟨rfl, rfl, rfl, by decide +kernel, rfl, by decide +kernel, by decide +kernel⟩ rfl ⟨by decide, by decide⟩ ⟨by decide, by decide⟩
    (F.kbn0 3 [] (fun us _ => us) (fun r _ => r) fun _ _ _ _ _ _ us ws l1 l2 => match us, ws, l1, l2 with | [_, _, _], [], _, _ => rfl)
    (F.kbn0 1 ["u", "v"] (fun us ws => us ++ ws) rel_app fun _ _ _ _ _ _ us ws l1 l2 => match us, ws, l1, l2 with | [_], [_, _], _, _ => rfl)
    (F.kbn0 1 ["v", "u"] (fun us ws => us ++ ws.reverse) rel_rev fun _ _ _ _ _ _ us ws l1 l2 => match us, ws, l1, l2 with | [_], [_, _], _, _ => rfl)
    (F.kbn0 2 ["v"] (fun us ws => us ++ ws) rel_app fun _ _ _ _ _ _ us ws l1 l2 => match us, ws, l1, l2 with | [_, _], [_], _, _ => rfl)
theorem o9 (F : Fi K 9 "Stopped" "Stopped.__init__" fd) (G : mg "Stopped" = some (.ref (He.ga K "Stopped"))) (B : ClsI K (He.ga K "Stopped") (He.ga K "LostError")) (no : PySem.W.findIn K (.ref (He.ga K "Stopped")) "house" = some none) : One P w K mg base "Stopped" "house" :=
  one_of F G B no ⟨rfl, rfl, rfl, by decide +kernel, rfl, by decide +kernel, by decide +kernel⟩ rfl ⟨by decide, by decide⟩
    (F.kbn0 2 [] (fun us _ => us) (fun r _ => r) fun _ _ _ _ _ _ us ws l1 l2 => match us, ws, l1, l2 with | [_, _], [], _, _ => rfl)
    (F.kbn0 1 ["house"] (fun us ws => us ++ ws) rel_app fun _ _ _ _ _ _ us ws l1 l2 => match us, ws, l1, l2 with | [_], [_], _, _ => rfl)
theorem o10 (F : Fi K 10 "Twice" "Twice.__init__" fd) (G : mg "Twice" = some (.ref (He.ga K "Twice"))) (B : ClsI K (He.ga K "Twice") (He.ga K "LostError")) (no : PySem.W.findIn K (.ref (He.ga K "Twice")) "house" = some none)
    (no2 : PySem.W.findIn K (.ref (He.ga K "Twice")) "text" = some none) : Two P w K mg base "Twice" "house" "text" :=
  two_of F G B no no2 ⟨rfl, rfl, rfl, by decide +kernel, rfl, by decide +kernel, by decide +kernel⟩ rfl ⟨by decide, by decide⟩ ⟨by decide, by decide⟩
    (F.kbn0 3 [] (fun us _ => us) (fun r _ => r) fun _ _ _ _ _ _ us ws l1 l2 => match us, ws, l1, l2 with | [_, _, _], [], _, _ => rfl)
    (F.kbn0 1 ["house", "text"] (fun us ws => us ++ ws) rel_app fun _ _ _ _ _ _ us ws l1 l2 => match us, ws, l1, l2 with | [_], [_, _], _, _ => rfl)
    (F.kbn0 1 ["text", "house"] (fun us ws => us ++ ws.reverse) rel_rev fun _ _ _ _ _ _ us ws l1 l2 => match us, ws, l1, l2 with | [_], [_, _], _, _ => rfl)
    (F.kbn0 2 ["text"] (fun us ws => us ++ ws) rel_app fun _ _ _ _ _ _ us ws l1 l2 => match us, ws, l1, l2 with | [_, _], [_], _, _ => rfl)
theorem o11 (F : Fi K 11 "NothingUnderWay" "NothingUnderWay.__init__" fd) (G : mg "NothingUnderWay" = some (.ref (He.ga K "NothingUnderWay"))) (B : ClsI K (He.ga K "NothingUnderWay") (He.ga K "LostError")) (no : PySem.W.findIn K (.ref (He.ga K "NothingUnderWay")) "u" = some none)
    (no2 : PySem.W.findIn K (.ref (He.ga K "NothingUnderWay")) "v" = some none) : Two P w K mg base "NothingUnderWay" "u" "v" :=
  two_of F G B no no2 ⟨rfl, rfl, rfl, by decide +kernel, rfl, by decide +kernel, by decide +kernel⟩ rfl ⟨by decide, by decide⟩ ⟨by decide, by decide⟩
    (F.kbn0 3 [] (fun us _ => us) (fun r _ => r) fun _ _ _ _ _ _ us ws l1 l2 => match us, ws, l1, l2 with | [_, _, _], [], _, _ => rfl)
    (F.kbn0 1 ["u", "v"] (fun us ws => us ++ ws) rel_app fun _ _ _ _ _ _ us ws l1 l2 => match us, ws, l1, l2 with | [_], [_, _], _, _ => rfl)
    (F.kbn0 1 ["v", "u"] (fun us ws => us ++ ws.reverse) rel_rev fun _ _ _ _ _ _ us ws l1 l2 => match us, ws, l1, l2 with | [_], [_, _], _, _ => rfl)
    (F.kbn0 2 ["v"] (fun us ws => us ++ ws) rel_app fun _ _ _ _ _ _ us ws l1 l2 => match us, ws, l1, l2 with | [_, _], [_], _, _ => rfl)
end
theorem fact_of {fa : List He.Fa} {fn : List He.DefD} {K : PySem.W.Frag} (c : He.SaysD fa fn K) {f : He.Fa} (h : f ∈ fa) : f.ok K = true := by
  obtain ⟨i, e⟩ := List.mem_iff_getElem?.mp h
  exact c.fact i e
section
variable {P : Program} {w : World} {K : PySem.W.Frag} {h : Heap} {mg : Str → Option Value}
theorem tree_ok (a : plainB K (CT K) = true) (b : treeB K = true) (n : ∀ x ∈ noat, PySem.W.findIn K (.ref (He.ga K x.1)) x.2 = some none) (g : mg "Tree" = some (.ref (CT K))) : TreeK K mg := by
  obtain ⟨a1, a⟩ := He.ba a
  obtain ⟨a2, a⟩ := He.ba a
  obtain ⟨a3, a⟩ := He.ba a
  obtain ⟨a4, a⟩ := He.ba a
  obtain ⟨a5, a6⟩ := He.ba a
  obtain ⟨b1, b⟩ := He.ba b
  obtain ⟨b2, b⟩ := He.ba b
  obtain ⟨b3, b⟩ := He.ba b
  obtain ⟨b4, b⟩ := He.ba b
  obtain ⟨b5, b⟩ := He.ba b
  obtain ⟨b6, b⟩ := He.ba b
  obtain ⟨b7, b⟩ := He.ba b
  obtain ⟨b8, b9⟩ := He.ba b
  have M : ∀ {m : Str}, m ∈ meths → PySem.W.findIn K (.ref (CT K)) m = some (some (.ref (MT K m))) ∧ PySem.W.isFn K (.ref (MT K m)) = true := fun hm =>
    have z := He.ba (List.all_eq_true.mp b1 _ hm)
    ⟨of_decide_eq_true z.1, z.2⟩
  have m1 := M (m := "__contains__") (by decide +kernel)
  have m2 := M (m := "__len__") (by decide +kernel)
  have m3 := M (m := "__eq__") (by decide +kernel)
  have m4 := M (m := "__init__") (by decide +kernel)
  exact ⟨g, ⟨a1, a2, a3, of_decide_eq_true a4⟩, n ("Tree", "houses") (by decide +kernel), n ("Tree", "roads") (by decide +kernel), n ("Tree", "near") (by decide +kernel), ⟨a5, m4.1, m4.2, a6⟩, m1.1, m1.2, m2.1, m2.2, m3.1, m3.2, of_decide_eq_true b2, of_decide_eq_true b3, of_decide_eq_true b4,
    fun t ht => ⟨of_decide_eq_true (He.ba (List.all_eq_true.mp b5 _ ht)).1, (He.ba (List.all_eq_true.mp b5 _ ht)).2⟩, of_decide_eq_true b6, of_decide_eq_true b7, of_decide_eq_true b8, of_decide_eq_true b9⟩
theorem meth_ok (b : netB K = true) : ∀ m ∈ nms, Meth K (CN K) m (MN K m) := fun m hm => by
  obtain ⟨b1, _⟩ := He.ba b
  obtain ⟨z1, z⟩ := He.ba (List.all_eq_true.mp b1 m hm)
  obtain ⟨z2, z3⟩ := He.ba z
  exact ⟨of_decide_eq_true z1, z2, z3⟩
theorem net_ok (a : plainB K (CN K) = true) (b : netB K = true) (n : ∀ x ∈ noat, PySem.W.findIn K (.ref (He.ga K x.1)) x.2 = some none) (g : mg "Network" = some (.ref (CN K))) : NetK K mg := by
  obtain ⟨a1, a⟩ := He.ba a
  obtain ⟨a2, a⟩ := He.ba a
  obtain ⟨a3, a⟩ := He.ba a
  obtain ⟨a4, a⟩ := He.ba a
  obtain ⟨a5, a6⟩ := He.ba a
  obtain ⟨b1, _⟩ := He.ba b
  obtain ⟨z1, z⟩ := He.ba (List.all_eq_true.mp b1 "__init__" (by decide +kernel))
  exact ⟨g, ⟨a1, a2, a3, of_decide_eq_true a4⟩, n ("Network", "tree") (by decide +kernel), n ("Network", "names") (by decide +kernel), n ("Network", "_logs") (by decide +kernel), n ("Network", "_waiting") (by decide +kernel), n ("Network", "_halted") (by decide +kernel), n ("Network", "_deeds") (by decide +kernel),
    ⟨a5, of_decide_eq_true z1, (He.ba z).1, a6⟩⟩
theorem facts {f : Addr} (X : K.In h) (G : h.Ns mainGlobals mg) (hfa : mg ("law" : Str) = some (.ref f)) (c : He.SaysD fa fn K) (k : ck K = true) (pg : ∀ d ∈ fp, ∃ fd, FunD K d.name d.qual d.params d.body d.scope (d.dvs K) (d.kws K) (d.at_ K) fd) :
    ∃ fd : FuncData, (∀ (s : Shared) (v : Value), BindsTo s fd ⟨[v], []⟩ [("script", v)]) ∧ ∀ base : Heap, K.In base → base.Ns mainGlobals mg → FnG P w K mg base 11 f fd ["script"] (spLaw K) := by
  obtain ⟨k1, k⟩ := He.ba k
  obtain ⟨k2, k⟩ := He.ba k
  obtain ⟨k3, k⟩ := He.ba k
  obtain ⟨k4, k⟩ := He.ba k
  obtain ⟨k5, k⟩ := He.ba k
  obtain ⟨k6, k⟩ := He.ba k
  obtain ⟨k7, k⟩ := He.ba k
  obtain ⟨k8, k⟩ := He.ba k
  obtain ⟨k9, k⟩ := He.ba k
  obtain ⟨k10, k11⟩ := He.ba k
  obtain ⟨_, kp⟩ := He.ba k10
  obtain ⟨kp1, kp2⟩ := He.ba kp
  have D : ∀ {x : Str}, x ∈ glob → mg x = some (.ref (He.ga K x)) := fun hx => He.glo_ok X G (fact_of c (List.mem_cons_of_mem _ (List.mem_cons_of_mem _ (List.mem_cons_of_mem _ (List.mem_append_left _ (List.mem_map_of_mem hx))))))
  have U : ∀ x : Str, x ∈ bnames → mg x = none := fun x hx => He.free_ok X G (fact_of c (List.mem_cons_of_mem _ (List.mem_cons_of_mem _ (List.mem_cons_of_mem _ (List.mem_append_right _ (List.mem_map_of_mem hx))))))
  have Bc : ∀ {x : Str}, x ∈ errs → ClsI K (He.ga K x) (He.ga K "LostError") := fun hx => clsB_ok k1 (List.all_eq_true.mp k2 _ hx)
  have N : ∀ x ∈ noat, PySem.W.findIn K (.ref (He.ga K x.1)) x.2 = some none := fun x hx => of_decide_eq_true (List.all_eq_true.mp k3 _ hx)
  have M6 : ∀ x ∈ six, ∀ y ∈ six, PySem.W.exmOne K (.ref (He.ga K x)) (.ref (He.ga K y)) = some (decide (x = y)) := fun x hx y hy => of_decide_eq_true (List.all_eq_true.mp (List.all_eq_true.mp k4 x hx) y hy)
  have m1 : PySem.W.exmOne K (.ref (He.ga K "InvalidNames")) (.ref (He.ga K "InvalidNames")) = some true := of_decide_eq_true k5
  have T : KitK K := ⟨fun t ht u hu => of_decide_eq_true (List.all_eq_true.mp (List.all_eq_true.mp k6 _ ht) _ hu)⟩
  have hsy : ∃ o, K.lookup sysModules = some o := Option.isSome_iff_exists.mp k11
  have B : Bl mg := ⟨U⟩
  have C : TreeK K mg := tree_ok k7 k8 N (D (by decide +kernel))
  have CK : NetK K mg := net_ok k9 k10 N (D (by decide +kernel))
  have Me : ∀ m ∈ nms, Meth K (CN K) m (MN K m) := meth_ok k10
  have hM := He.int_ok X G (c.fact 0 (f := .int "MOST_HOUSES" 64) rfl)
  have hN := He.int_ok X G (c.fact 1 (f := .int "NAME_LENGTH" 8) rfl)
  have hT := He.int_ok X G (c.fact 2 (f := .int "TEXT_LENGTH" 40) rfl)
  have X6 : Six K mg := by
    refine ⟨fun x hx => ⟨D ?_, (Bc (x := x) ?_).X⟩, M6, fun x hx => N x ?_⟩
    · revert x; decide +kernel
    · revert x; decide +kernel
    · revert x; decide +kernel
  obtain ⟨dI2, FI2⟩ := c.def_ 0 (d := dC 2 "InvalidText" "InvalidText.__init__") rfl
  obtain ⟨dI3, FI3⟩ := c.def_ 1 (d := dC 3 "InvalidHouses" "InvalidHouses.__init__") rfl
  obtain ⟨dI4, FI4⟩ := c.def_ 2 (d := dC 4 "InvalidRoads" "InvalidRoads.__init__") rfl
  obtain ⟨dI5, FI5⟩ := c.def_ 3 (d := dC 5 "InvalidHouse" "InvalidHouse.__init__") rfl
  obtain ⟨dI6, FI6⟩ := c.def_ 4 (d := dC 6 "InvalidNames" "InvalidNames.__init__") rfl
  obtain ⟨dI7, FI7⟩ := c.def_ 5 (d := dC 7 "NotJoined" "NotJoined.__init__") rfl
  obtain ⟨dI8, FI8⟩ := c.def_ 6 (d := dC 8 "NotARoad" "NotARoad.__init__") rfl
  obtain ⟨dI9, FI9⟩ := c.def_ 7 (d := dC 9 "Stopped" "Stopped.__init__") rfl
  obtain ⟨dI10, FI10⟩ := c.def_ 8 (d := dC 10 "Twice" "Twice.__init__") rfl
  obtain ⟨dI11, FI11⟩ := c.def_ 9 (d := dC 11 "NothingUnderWay" "NothingUnderWay.__init__") rfl
  obtain ⟨dM0, (FM0 : Md K "__init__" "Tree.__init__" (cdef 27 0) (MT K "__init__") dM0)⟩ := c.def_ 10 (d := dM 0 "__init__" "Tree.__init__") rfl
  obtain ⟨dM1, (FM1 : Md K "__len__" "Tree.__len__" (cdef 27 1) (MT K "__len__") dM1)⟩ := c.def_ 11 (d := dM 1 "__len__" "Tree.__len__") rfl
  obtain ⟨dM2, (FM2 : Md K "__contains__" "Tree.__contains__" (cdef 27 2) (MT K "__contains__") dM2)⟩ := c.def_ 12 (d := dM 2 "__contains__" "Tree.__contains__") rfl
  obtain ⟨dM3, (FM3 : Md K "__eq__" "Tree.__eq__" (cdef 27 3) (MT K "__eq__") dM3)⟩ := c.def_ 13 (d := dM 3 "__eq__" "Tree.__eq__") rfl
  obtain ⟨dN0, (FN0 : Md K "__init__" "Network.__init__" (cdef 34 0) (MN K "__init__") dN0)⟩ := c.def_ 14 (d := dN 0 "__init__" "Network.__init__") rfl
  obtain ⟨dN3, (FN3 : Md K "make" "Network.make" (cdef 34 3) (MN K "make") dN3)⟩ := c.def_ 15 (d := dN 3 "make" "Network.make") rfl
  obtain ⟨dN4, (FN4 : Md K "hand" "Network.hand" (cdef 34 4) (MN K "hand") dN4)⟩ := c.def_ 16 (d := dN 4 "hand" "Network.hand") rfl
  obtain ⟨dN5, (FN5 : Md K "lose" "Network.lose" (cdef 34 5) (MN K "lose") dN5)⟩ := c.def_ 17 (d := dN 5 "lose" "Network.lose") rfl
  obtain ⟨dN6, (FN6 : Md K "stop" "Network.stop" (cdef 34 6) (MN K "stop") dN6)⟩ := c.def_ 18 (d := dN 6 "stop" "Network.stop") rfl
  obtain ⟨dN7, (FN7 : Md K "log" "Network.log" (cdef 34 7) (MN K "log") dN7)⟩ := c.def_ 19 (d := dN 7 "log" "Network.log") rfl
  obtain ⟨dN8, (FN8 : Md K "under_way" "Network.under_way" (cdef 34 8) (MN K "under_way") dN8)⟩ := c.def_ 20 (d := dN 8 "under_way" "Network.under_way") rfl
  obtain ⟨dN9, (FN9 : Md K "_take" "Network._take" (cdef 34 9) (MN K "_take") dN9)⟩ := c.def_ 21 (d := dN 9 "_take" "Network._take") rfl
  obtain ⟨dN10, (FN10 : Md K "_arrive" "Network._arrive" (cdef 34 10) (MN K "_arrive") dN10)⟩ := c.def_ 22 (d := dN 10 "_arrive" "Network._arrive") rfl
  obtain ⟨dN1, (FN1 : Md K "stopped" "Network.stopped" (cdef 34 1) (gtA K (CN K) "stopped") dN1)⟩ := pg (dG 1 "stopped" "Network.stopped") (by exact List.mem_cons_self)
  obtain ⟨dN2, (FN2 : Md K "script" "Network.script" (cdef 34 2) (gtA K (CN K) "script") dN2)⟩ := pg (dG 2 "script" "Network.script") (by exact List.mem_cons_of_mem _ List.mem_cons_self)
  obtain ⟨d13, (F13 : Fd K "is_int" (top 13) (He.ga K "is_int") d13)⟩ := c.def_ 23 (d := dF 13 "is_int") rfl
  have g13 : mg "is_int" = some (.ref (He.ga K "is_int")) := D (by decide +kernel)
  obtain ⟨d14, (F14 : Fd K "is_below" (top 14) (He.ga K "is_below") d14)⟩ := c.def_ 24 (d := dF 14 "is_below") rfl
  have g14 : mg "is_below" = some (.ref (He.ga K "is_below")) := D (by decide +kernel)
  obtain ⟨d15, (F15 : Fd K "is_list" (top 15) (He.ga K "is_list") d15)⟩ := c.def_ 25 (d := dF 15 "is_list") rfl
  have g15 : mg "is_list" = some (.ref (He.ga K "is_list")) := D (by decide +kernel)
  obtain ⟨d16, (F16 : Fd K "is_tuple" (top 16) (He.ga K "is_tuple") d16)⟩ := c.def_ 26 (d := dF 16 "is_tuple") rfl
  have g16 : mg "is_tuple" = some (.ref (He.ga K "is_tuple")) := D (by decide +kernel)
  obtain ⟨d17, (F17 : Fd K "are_different" (top 17) (He.ga K "are_different") d17)⟩ := c.def_ 27 (d := dF 17 "are_different") rfl
  have g17 : mg "are_different" = some (.ref (He.ga K "are_different")) := D (by decide +kernel)
  obtain ⟨d18, (F18 : Fd K "is_ascending" (top 18) (He.ga K "is_ascending") d18)⟩ := c.def_ 28 (d := dF 18 "is_ascending") rfl
  have g18 : mg "is_ascending" = some (.ref (He.ga K "is_ascending")) := D (by decide +kernel)
  obtain ⟨d22, (F22 : Fd K "is_name" (top 22) (He.ga K "is_name") d22)⟩ := c.def_ 29 (d := dF 22 "is_name") rfl
  have g22 : mg "is_name" = some (.ref (He.ga K "is_name")) := D (by decide +kernel)
  obtain ⟨d23, (F23 : Fd K "is_text" (top 23) (He.ga K "is_text") d23)⟩ := c.def_ 30 (d := dF 23 "is_text") rfl
  have g23 : mg "is_text" = some (.ref (He.ga K "is_text")) := D (by decide +kernel)
  obtain ⟨d24, (F24 : Fd K "are_names" (top 24) (He.ga K "are_names") d24)⟩ := c.def_ 31 (d := dF 24 "are_names") rfl
  have g24 : mg "are_names" = some (.ref (He.ga K "are_names")) := D (by decide +kernel)
  obtain ⟨d28, (F28 : Fd K "are_roads" (top 28) (He.ga K "are_roads") d28)⟩ := c.def_ 32 (d := dF 28 "are_roads") rfl
  have g28 : mg "are_roads" = some (.ref (He.ga K "are_roads")) := D (by decide +kernel)
  obtain ⟨d29, (F29 : Fd K "houses_near" (top 29) (He.ga K "houses_near") d29)⟩ := c.def_ 33 (d := dF 29 "houses_near") rfl
  have g29 : mg "houses_near" = some (.ref (He.ga K "houses_near")) := D (by decide +kernel)
  obtain ⟨d30, (F30 : Fd K "houses_from" (top 30) (He.ga K "houses_from") d30)⟩ := c.def_ 34 (d := dF 30 "houses_from") rfl
  have g30 : mg "houses_from" = some (.ref (He.ga K "houses_from")) := D (by decide +kernel)
  obtain ⟨d31, (F31 : Fd K "check_house" (top 31) (He.ga K "check_house") d31)⟩ := c.def_ 35 (d := dF 31 "check_house") rfl
  have g31 : mg "check_house" = some (.ref (He.ga K "check_house")) := D (by decide +kernel)
  obtain ⟨d32, (F32 : Fd K "check_road" (top 32) (He.ga K "check_road") d32)⟩ := c.def_ 36 (d := dF 32 "check_road") rfl
  have g32 : mg "check_road" = some (.ref (He.ga K "check_road")) := D (by decide +kernel)
  obtain ⟨d35, (F35 : Fd K "both_ways" (top 35) (He.ga K "both_ways") d35)⟩ := c.def_ 37 (d := dF 35 "both_ways") rfl
  have g35 : mg "both_ways" = some (.ref (He.ga K "both_ways")) := D (by decide +kernel)
  obtain ⟨d37, (F37 : Fd K "_law_cell" (top 37) (He.ga K "_law_cell") d37)⟩ := c.def_ 38 (d := dF 37 "_law_cell") rfl
  have g37 : mg "_law_cell" = some (.ref (He.ga K "_law_cell")) := D (by decide +kernel)
  obtain ⟨d38, (F38 : Fd K "_law_box" (top 38) (He.ga K "_law_box") d38)⟩ := c.def_ 39 (d := dF 38 "_law_box") rfl
  have g38 : mg "_law_box" = some (.ref (He.ga K "_law_box")) := D (by decide +kernel)
  obtain ⟨d39, (F39 : Fd K "_law_take" (top 39) (He.ga K "_law_take") d39)⟩ := c.def_ 40 (d := dF 39 "_law_take") rfl
  have g39 : mg "_law_take" = some (.ref (He.ga K "_law_take")) := D (by decide +kernel)
  obtain ⟨d40, (F40 : Fd K "_law_mixed" (top 40) (He.ga K "_law_mixed") d40)⟩ := c.def_ 41 (d := dF 40 "_law_mixed") rfl
  have g40 : mg "_law_mixed" = some (.ref (He.ga K "_law_mixed")) := D (by decide +kernel)
  obtain ⟨d41, (F41 : Fd K "_law_roads" (top 41) (He.ga K "_law_roads") d41)⟩ := c.def_ 42 (d := dF 41 "_law_roads") rfl
  have g41 : mg "_law_roads" = some (.ref (He.ga K "_law_roads")) := D (by decide +kernel)
  obtain ⟨d42, (F42 : Fd K "_law_part" (top 42) (He.ga K "_law_part") d42)⟩ := c.def_ 43 (d := dF 42 "_law_part") rfl
  have g42 : mg "_law_part" = some (.ref (He.ga K "_law_part")) := D (by decide +kernel)
  obtain ⟨d43, (F43 : Fd K "_law_names" (top 43) (He.ga K "_law_names") d43)⟩ := c.def_ 44 (d := dF 43 "_law_names") rfl
  have g43 : mg "_law_names" = some (.ref (He.ga K "_law_names")) := D (by decide +kernel)
  obtain ⟨d44, (F44 : Fd K "_law_texts" (top 44) (He.ga K "_law_texts") d44)⟩ := c.def_ 45 (d := dF 44 "_law_texts") rfl
  have g44 : mg "_law_texts" = some (.ref (He.ga K "_law_texts")) := D (by decide +kernel)
  obtain ⟨d45, (F45 : Fd K "_law_start" (top 45) (He.ga K "_law_start") d45)⟩ := c.def_ 46 (d := dF 45 "_law_start") rfl
  have g45 : mg "_law_start" = some (.ref (He.ga K "_law_start")) := D (by decide +kernel)
  obtain ⟨d46, (F46 : Fd K "_law_put" (top 46) (He.ga K "_law_put") d46)⟩ := c.def_ 47 (d := dF 46 "_law_put") rfl
  have g46 : mg "_law_put" = some (.ref (He.ga K "_law_put")) := D (by decide +kernel)
  obtain ⟨d47, (F47 : Fd K "_law_house" (top 47) (He.ga K "_law_house") d47)⟩ := c.def_ 48 (d := dF 47 "_law_house") rfl
  have g47 : mg "_law_house" = some (.ref (He.ga K "_law_house")) := D (by decide +kernel)
  obtain ⟨d48, (F48 : Fd K "_law_text" (top 48) (He.ga K "_law_text") d48)⟩ := c.def_ 49 (d := dF 48 "_law_text") rfl
  have g48 : mg "_law_text" = some (.ref (He.ga K "_law_text")) := D (by decide +kernel)
  obtain ⟨d49, (F49 : Fd K "_law_wrong" (top 49) (He.ga K "_law_wrong") d49)⟩ := c.def_ 50 (d := dF 49 "_law_wrong") rfl
  have g49 : mg "_law_wrong" = some (.ref (He.ga K "_law_wrong")) := D (by decide +kernel)
  obtain ⟨d50, (F50 : Fd K "_law_done" (top 50) (He.ga K "_law_done") d50)⟩ := c.def_ 51 (d := dF 50 "_law_done") rfl
  have g50 : mg "_law_done" = some (.ref (He.ga K "_law_done")) := D (by decide +kernel)
  obtain ⟨d51, (F51 : Fd K "_law_call" (top 51) (He.ga K "_law_call") d51)⟩ := c.def_ 52 (d := dF 51 "_law_call") rfl
  have g51 : mg "_law_call" = some (.ref (He.ga K "_law_call")) := D (by decide +kernel)
  obtain ⟨d52, (F52 : Fd K "_law_asked" (top 52) (He.ga K "_law_asked") d52)⟩ := c.def_ 53 (d := dF 52 "_law_asked") rfl
  have g52 : mg "_law_asked" = some (.ref (He.ga K "_law_asked")) := D (by decide +kernel)
  obtain ⟨d53, (F53 : Fd K "_law_same" (top 53) (He.ga K "_law_same") d53)⟩ := c.def_ 54 (d := dF 53 "_law_same") rfl
  have g53 : mg "_law_same" = some (.ref (He.ga K "_law_same")) := D (by decide +kernel)
  obtain ⟨d54, (F54 : Fd K "_law_deed" (top 54) (He.ga K "_law_deed") d54)⟩ := c.def_ 55 (d := dF 54 "_law_deed") rfl
  have g54 : mg "_law_deed" = some (.ref (He.ga K "_law_deed")) := D (by decide +kernel)
  obtain ⟨d55, (F55 : Fd K "_law_no_house" (top 55) (He.ga K "_law_no_house") d55)⟩ := c.def_ 56 (d := dF 55 "_law_no_house") rfl
  have g55 : mg "_law_no_house" = some (.ref (He.ga K "_law_no_house")) := D (by decide +kernel)
  obtain ⟨d56, (F56 : Fd K "_law_no_text" (top 56) (He.ga K "_law_no_text") d56)⟩ := c.def_ 57 (d := dF 56 "_law_no_text") rfl
  have g56 : mg "_law_no_text" = some (.ref (He.ga K "_law_no_text")) := D (by decide +kernel)
  obtain ⟨d57, (F57 : Fd K "_law_refused" (top 57) (He.ga K "_law_refused") d57)⟩ := c.def_ 58 (d := dF 57 "_law_refused") rfl
  have g57 : mg "_law_refused" = some (.ref (He.ga K "_law_refused")) := D (by decide +kernel)
  obtain ⟨d58, (F58 : Fd K "_law_doors" (top 58) (He.ga K "_law_doors") d58)⟩ := c.def_ 59 (d := dF 58 "_law_doors") rfl
  have g58 : mg "_law_doors" = some (.ref (He.ga K "_law_doors")) := D (by decide +kernel)
  obtain ⟨d59, (F59 : Fd K "_law_spoilt" (top 59) (He.ga K "_law_spoilt") d59)⟩ := c.def_ 60 (d := dF 59 "_law_spoilt") rfl
  have g59 : mg "_law_spoilt" = some (.ref (He.ga K "_law_spoilt")) := D (by decide +kernel)
  obtain ⟨d60, (F60 : Fd K "_law_names_refused" (top 60) (He.ga K "_law_names_refused") d60)⟩ := c.def_ 61 (d := dF 60 "_law_names_refused") rfl
  have g60 : mg "_law_names_refused" = some (.ref (He.ga K "_law_names_refused")) := D (by decide +kernel)
  obtain ⟨d61, (F61 : Fd K "_law_right" (top 61) (He.ga K "_law_right") d61)⟩ := c.def_ 62 (d := dF 61 "_law_right") rfl
  have g61 : mg "_law_right" = some (.ref (He.ga K "_law_right")) := D (by decide +kernel)
  obtain ⟨d62, (F62 : Fd K "law" (top 62) (He.ga K "law") d62)⟩ := c.def_ 63 (d := dF 62 "law") rfl
  have g62 : mg "law" = some (.ref (He.ga K "law")) := D (by decide +kernel)
  have e := hfa.symm.trans g62
  cases e
  have b := FunD.bindsA (ps := ["script"]) F62 fun _ _ _ _ _ _ us hl => match us, hl with | [_], _ => rfl
  refine ⟨d62, fun s v => b s [v] rfl, fun base _ _ => ?_⟩
  have O2 : One P w K mg base "InvalidText" "given" := o2 FI2 (D (by decide +kernel)) (Bc (by decide +kernel)) (N ("InvalidText", "given") (by decide +kernel))
  have O3 : One P w K mg base "InvalidHouses" "given" := o3 FI3 (D (by decide +kernel)) (Bc (by decide +kernel)) (N ("InvalidHouses", "given") (by decide +kernel))
  have O4 : One P w K mg base "InvalidRoads" "given" := o4 FI4 (D (by decide +kernel)) (Bc (by decide +kernel)) (N ("InvalidRoads", "given") (by decide +kernel))
  have O5 : One P w K mg base "InvalidHouse" "given" := o5 FI5 (D (by decide +kernel)) (Bc (by decide +kernel)) (N ("InvalidHouse", "given") (by decide +kernel))
  have O6 : One P w K mg base "InvalidNames" "given" := o6 FI6 (D (by decide +kernel)) (Bc (by decide +kernel)) (N ("InvalidNames", "given") (by decide +kernel))
  have O7 : One P w K mg base "NotJoined" "house" := o7 FI7 (D (by decide +kernel)) (Bc (by decide +kernel)) (N ("NotJoined", "house") (by decide +kernel))
  have O8 : Two P w K mg base "NotARoad" "u" "v" := o8 FI8 (D (by decide +kernel)) (Bc (by decide +kernel)) (N ("NotARoad", "u") (by decide +kernel)) (N ("NotARoad", "v") (by decide +kernel))
  have O9 : One P w K mg base "Stopped" "house" := o9 FI9 (D (by decide +kernel)) (Bc (by decide +kernel)) (N ("Stopped", "house") (by decide +kernel))
  have O10 : Two P w K mg base "Twice" "house" "text" := o10 FI10 (D (by decide +kernel)) (Bc (by decide +kernel)) (N ("Twice", "house") (by decide +kernel)) (N ("Twice", "text") (by decide +kernel))
  have O11 : Two P w K mg base "NothingUnderWay" "u" "v" := o11 FI11 (D (by decide +kernel)) (Bc (by decide +kernel)) (N ("NothingUnderWay", "u") (by decide +kernel)) (N ("NothingUnderWay", "v") (by decide +kernel))
  have p13 := ok_is_int (P := P) (w := w) (base := base) F13 g13 B
  have p14 := ok_is_below (P := P) (w := w) (base := base) F14 g14 B
  have p15 := ok_is_list (P := P) (w := w) (base := base) F15 g15 B
  have p16 := ok_is_tuple (P := P) (w := w) (base := base) F16 g16 B
  have p17 := ok_diff (P := P) (w := w) (base := base) F17 g17 B
  have p18 := ok_is_ascending (P := P) (w := w) (base := base) F18 g18 B
  have p22 := ok_is_name (P := P) (w := w) (base := base) F22 g22 B hN
  have p23 := ok_is_text (P := P) (w := w) (base := base) F23 g23 B hT
  have p24 := ok_are_names F24 g24 B p15 p22 p17
  have p28 := ok_are_roads F28 g28 B p15 p16 p14 p18
  have p29 := ok_houses_near (P := P) (w := w) (base := base) F29 g29 B
  have p30 := ok_houses_from (P := P) (w := w) (base := base) F30 g30 B
  have pI := ok_init FM0 C B hM O3 O4 O7 p13 p28 p29 p30
  have pC := ok_cont FM2 C p14
  have pE := ok_eq (P := P) (w := w) (base := base) FM3 C B
  have p31 := ok_check_house F31 g31 C O5 pC
  have p32 := ok_check_road F32 g32 C O8 p31
  have p35 := ok_both (P := P) (w := w) (base := base) F35 g35 B C
  have pN := ok_ninit FN0 C CK B O6 (p24.mono (by decide)) p35
  have nT := ok_ntake FN9 CK O11
  have nA := ok_narr (P := P) (w := w) (base := base) FN10 C CK
  have MT' : MeOk P w K mg base (L2N.CX P w) 3 (CN K) "_take" ["self", "u", "v"] (spNTake K) := ⟨⟨_, _, Me "_take" (by decide +kernel), FN9.bindsN (fun _ _ _ _ _ _ us hl => match us, hl with | [_, _, _], _ => rfl), nT⟩⟩
  have MA : MeOk P w K mg base CX0 1 (CN K) "_arrive" ["self", "house", "line", "source"] (spNArr K) := ⟨⟨_, _, Me "_arrive" (by decide +kernel), FN10.bindsN (fun _ _ _ _ _ _ us hl => match us, hl with | [_, _, _, _], _ => rfl), nA⟩⟩
  have nL := ok_nlog FN7 C CK B p31
  have nU := ok_nunder FN8 C CK B p32
  have nS := ok_nstop FN6 C CK B O9 p31
  have nE := ok_nlose FN5 C CK B p32 MT'
  have nH := ok_nhand FN4 C CK B O9 p32 MT' MA
  have nM := ok_nmake FN3 C CK B O9 O2 O10 p31 p23 MA
  have PS : PrOk P w K mg base 1 (CN K) "stopped" (spNStp K) := ⟨_, _, _, prB_ok kp1, FN1.bindsN (fun _ _ _ _ _ _ us hl => match us, hl with | [_], _ => rfl), ok_nstp FN1 CK B⟩
  have PD : PrOk P w K mg base 1 (CN K) "script" (spNScr K) := ⟨_, _, _, prB_ok kp2, FN2.bindsN (fun _ _ _ _ _ _ us hl => match us, hl with | [_], _ => rfl), ok_nscr FN2 CK B⟩
  have NM : NetM P w K mg base := ⟨⟨⟨_, _, Me "make" (by decide +kernel), FN3.bindsN (fun _ _ _ _ _ _ us hl => match us, hl with | [_, _, _], _ => rfl), nM⟩⟩, ⟨⟨_, _, _, Me "make" (by decide +kernel), bk3 FN3 (fun _ _ _ _ _ _ us ws l1 l2 => match us, ws, l1, l2 with | [_], [_, _], _, _ => rfl), nM⟩⟩, ⟨⟨_, _, Me "hand" (by decide +kernel), FN4.bindsN (fun _ _ _ _ _ _ us hl => match us, hl with | [_, _, _], _ => rfl), nH⟩⟩, ⟨⟨_, _, _, Me "hand" (by decide +kernel), bk3 FN4 (fun _ _ _ _ _ _ us ws l1 l2 => match us, ws, l1, l2 with | [_], [_, _], _, _ => rfl), nH⟩⟩, ⟨⟨_, _, Me "lose" (by decide +kernel), FN5.bindsN (fun _ _ _ _ _ _ us hl => match us, hl with | [_, _, _], _ => rfl), nE⟩⟩, ⟨⟨_, _, _, Me "lose" (by decide +kernel), bk3 FN5 (fun _ _ _ _ _ _ us ws l1 l2 => match us, ws, l1, l2 with | [_], [_, _], _, _ => rfl), nE⟩⟩,
    ⟨⟨_, _, Me "under_way" (by decide +kernel), FN8.bindsN (fun _ _ _ _ _ _ us hl => match us, hl with | [_, _, _], _ => rfl), nU⟩⟩, ⟨⟨_, _, _, Me "under_way" (by decide +kernel), bk3 FN8 (fun _ _ _ _ _ _ us ws l1 l2 => match us, ws, l1, l2 with | [_], [_, _], _, _ => rfl), nU⟩⟩, ⟨⟨_, _, Me "stop" (by decide +kernel), FN6.bindsN (fun _ _ _ _ _ _ us hl => match us, hl with | [_, _], _ => rfl), nS⟩⟩, ⟨⟨_, _, _, Me "stop" (by decide +kernel), bk2 FN6 (fun _ _ _ _ _ _ us ws l1 l2 => match us, ws, l1, l2 with | [_], [_], _, _ => rfl), nS⟩⟩, ⟨⟨_, _, Me "log" (by decide +kernel), FN7.bindsN (fun _ _ _ _ _ _ us hl => match us, hl with | [_, _], _ => rfl), nL⟩⟩, ⟨⟨_, _, _, Me "log" (by decide +kernel), bk2 FN7 (fun _ _ _ _ _ _ us ws l1 l2 => match us, ws, l1, l2 with | [_], [_], _, _ => rfl), nL⟩⟩⟩
  have p37 := ok_cell (P := P) (w := w) (base := base) F37 g37 B
  have p38 := ok_box (P := P) (w := w) (base := base) F38 g38 B
  have p39 := (ok_take (P := P) (w := w) (base := base) F39 g39 B).imp (fun _ _ _ _ => take_draw)
  have p40 := ok_mixed F40 g40 B p39
  have p41 := ok_roads F41 g41 B p39 p40
  have p42 := ok_part F42 g42 B p39
  have p43 := ok_names F43 g43 B p39 p42 p40
  have p44 := ok_texts F44 g44 B p42
  have p45 := ok_start (P := P) (w := w) (base := base) F45 g45 B
  have p46 := ok_put (P := P) (w := w) (base := base) F46 g46 B
  have p47 := ok_lhouse (P := P) (w := w) (base := base) F47 g47 B T
  have p48 := ok_ltext (P := P) (w := w) (base := base) F48 g48 B T
  have p49 := ok_wrong F49 g49 B p47 p48
  have p50 := ok_done F50 g50 B p46
  have p51 := ok_call F51 g51 B CK NM
  have p52 := ok_asked F52 g52 B X6 p51
  have p53 := ok_same F53 g53 B hsy CK NM PS PD
  have p54 := ok_deed F54 g54 B p39
  have p55 := ok_noh F55 g55 B p39
  have p56 := ok_not F56 g56 B p39
  have p57 := ok_refd F57 g57 B T hsy p49 p52
  have p58 := ok_doors F58 g58 B p39 p55 p56 p49 p57 p53
  have p59 := ok_spoilt F59 g59 B p39
  have E6 : ErrK K mg "InvalidNames" := ⟨D (by decide +kernel), (Bc (x := "InvalidNames") (by decide +kernel)).X⟩
  have p60 := ok_nref F60 g60 B T CK hsy FN0 pN E6 m1 (N ("InvalidNames", "given") (by decide +kernel))
  have p61 := ok_right F61 g61 B C CK hsy FM0 FN0 pI pN pE p39 p41 p43 p44 p45 p54 p49 p52 p50 p53 p58 p59 p60
  exact ok_law F62 B p37 p38 p61
end
end K04

open PySem PySem.W PySem.Calls PyProof.Rows
theorem PySem.Challenge.cw_maplost_k04_whole_networks_by_queues_holds : PySem.Challenge.rw_maplost_k04_whole_networks_by_queues.Holds := by
  w_on; o_law
  refine HandSHeadRun.head_any (r := OpenLaw.row PySem.Challenge.rw_maplost_k04_whole_networks_by_queues) (q := view (OpenLaw.row PySem.Challenge.rw_maplost_k04_whole_networks_by_queues).prog [62]) (H := K04.hk) (ob := K04.ob) (M := 20000) (loose := K04.looseN)
    (d := HandSHeadRun.topDef (OpenLaw.row PySem.Challenge.rw_maplost_k04_whole_networks_by_queues).prog 62) (kwd := []) K04.ob_eq
    (by kernel_rfl) (fun s => by kernel_rfl) K04.run (by kernel_rfl) (by kernel_rfl) (by kernel_rfl) (by rfl) (by first | assumption | decide +kernel) (by decide +kernel) ⟨rfl, rfl, rfl, rfl, rfl, by decide +kernel⟩ ?hw ?hc
  case hw => w_witness2
  case hc =>
    refine L2.walk_G (l := PySem.Challenge.rw_maplost_k04_whole_networks_by_queues) (n := 63) (k := 11) (x := "script") rfl (by decide) (by kernel_rfl) ⟨by decide, by decide, by decide⟩ ?_
    intro w mg fx h Y G hmg0
    obtain ⟨K, KX, c⟩ := Y
    obtain ⟨c, ck, pg⟩ := Ml.seeP_ok c
    have hmg : mg ("law" : PySem.Str) = some (.ref fx) := by
      have e : (HandSHeadRun.topDef (OpenLaw.row PySem.Challenge.rw_maplost_k04_whole_networks_by_queues).prog 62).name = ("law" : PySem.Str) := by kernel_rfl
      rw [← e]
      exact hmg0
    obtain ⟨fd, hb, hF⟩ := K04.facts (P := (PySem.Challenge.rw_maplost_k04_whole_networks_by_queues).prog) (w := w) KX G hmg c ck pg
    exact ⟨K, fd, K04.spLaw K, KX, hb, fun H a ns hS => ⟨a, ns, rfl, hS, fun _ => rfl⟩, hF⟩

