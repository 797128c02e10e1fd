import PyProof.Rows.All
import Wide.All
import OpenK.AllK
import Wide.FinOn
import PyProof.EqAt
import PyProof.EqKinds
import PyProof.TupleCall
import HandS.ForMost
import HandS.Exc
import HandS.ExcInit
import HandS.Defaults
import KE.KIsAll
import KE.KTryMore
import HandS.ExcIs
import HandS.ExcField
import HandS.IsInst
import HandS.MakeKwOnly
import HandS.HotCalls
import HandS.OwnEq
import PyProof.InstNe
import HandS.Comp
import PyProof.ReprRoads
import HandS.ForExc
import HandS.ListEq
import HandS.DeepEq
import HandS.DictComp
import HandS.WordsList
import HandS.HeadHook1
import HandS.ExcCtx
import HandS.MakeKw
import HandS.CallSlots
import HandS.ExcInitHot
import HandS.Iter
import PyProof.StrLoop
import HandS.Walk
import HandS.NamedTupGet
import HandS.Text
import HandS.Flow
import HandS.More
import PyProof.StrLawsRepr
import PyProof.TypeEq
import HandS.Style
import HandS.SortInts
import HandS.SortRule
import HandS.NoneIn
import HandS.Conv
import KE.KIntText
import HandS.FStr
import KE.KUnpackStar
import HandS.SuiteRaise
import HandS.RaiseFrom
import HandS.ReplaceLit
import HandS.Ends
import HandS.Head0
import HandS.Head1
import HandS.Head2
import HandS.HeadHook2
import KE.KStateDown
import HandS.HeadEnd
import PySem.Challenge.RW_maplost_k03_tree_lines
set_option Elab.async false
set_option linter.all false
set_option maxRecDepth 100000
set_option maxHeartbeats 0
/-! exceptions with an own __init__, made by values and by keywords -/
namespace PySem
namespace MlE
open Builtin Builtin.ObjectAttr PySem.HandSPX
section
variable {M : Model} {A : Around} {E : Value → Shared → Prop} {hp : Heap} {gs : Array GenState} {dr : Drawn} {tk : Nat} {os : OsState}
variable {nm q : Str} {C N : Addr} {bs bm base : List Value} {hdct : Bool} {sn : List Str} {sub : List Value} {ab : Bool} {col : Option Bool} {dd : Option Addr}
variable {k0 k1 k2 k3 k5 : Option Value} {B nid iid : String}
theorem newCheckK (F : ExcBaseFacts B nid iid base) (hT : ∀ Y : String, bm.contains (.type Y) = base.contains (.type Y))
    {xs : List Value} {kw : List (Str × Value)} {Q : Unit → Shared → Prop}
    (hC : hp.get? C = some (excClassObj nm q C N bs bm hdct sn sub ab col dd k0 k1 k2 k3 k5 nid))
    (hq : Q () ⟨hp, gs, dr, tk, os⟩) :
    wpAny M A (checkBuiltinCall nid { pos := .ref C :: xs, kw := kw }) Q E ⟨hp, gs, dr, tk, os⟩ := by
  have inB : (Value.ref C :: bm).contains (.type B) = true := by
    rw [List.contains_cons, hT, F.hasB, Bool.or_true]
  have st := F.noStar
  simp only [checkBuiltinCall, F.newKind, F.newSplit, F.newRow]
  repeat (first
    | refine wpAny_loadPart_at hC ?_
    | (refine wpAny_isSubtype_exc hC ?_; rw [inB])
    | refine wpAny_staticBase_exc hC ?_
    | refine wpAny_madeBy_exc hC ?_
    | simp only [bne_self_eq_false, Bool.false_eq_true, if_false]
    | wp_step)
  exact hq
end
section
variable {P : Program} {w : World} {A : Around} {E : Value → Shared → Prop} {R : Result → Shared → Prop} {hp : Heap} {gs : Array GenState} {dr : Drawn} {tk : Nat} {os : OsState}
variable {nm q : Str} {C N : Addr} {bs bm base : List Value} {hdct : Bool} {sn : List Str} {sub : List Value} {ab : Bool} {col : Option Bool} {dd : Option Addr}
variable {k0 k1 k2 k3 k5 : Option Value} {B nid iid : String}
/-- the heap behind BaseException.__new__ -/
abbrev withNew (hp : Heap) (C : Addr) (xs : List Value) : Heap := (hp.push (PySem.W.kdv_tup xs)).push (excO C hp.objs.size)
theorem newK (F : ExcBaseFacts B nid iid base) (hT : ∀ Y : String, bm.contains (.type Y) = base.contains (.type Y))
    {xs : List Value} {kw : List (Str × Value)}
    (hC : hp.get? C = some (excClassObj nm q C N bs bm hdct sn sub ab col dd k0 k1 k2 k3 k5 nid)) (hl : xs.length ≤ sizeLine)
    (hq : R (.ok (.ret (.ref (hp.objs.size + 1)))) ⟨withNew hp C xs, gs, dr, tk, os⟩) :
    codeAny (model P w) A (.builtin nid { pos := .ref C :: xs, kw := kw }) R ⟨hp, gs, dr, tk, os⟩ := by
  have en := F.ends
  have inB : (Value.ref C :: bm).contains (.type B) = true := by
    rw [List.contains_cons, hT, F.hasB, Bool.or_true]
  have inA : (Value.ref C :: bm).contains (.type "AttributeError") = false := by
    rw [List.contains_cons, hT, F.noAttr] <;> rfl
  have inN : (Value.ref C :: bm).contains (.type "NameError") = false := by
    rw [List.contains_cons, hT, F.noName] <;> rfl
  refine codeAny_builtinAt F.entry ?_
  unfold Builtin.«BaseException.__new__»
  refine wpAt_bind ?_
  show wpAt _ _ _ (stack >>= _) _ _ _
  refine wpAt_bind (wpAt_stack fun p below => wpAt_of_wpAny ?_)
  wp_walk
  refine wpAt_of_wpAny ?_
  rw [F.owner]
  repeat (first
    | with_reducible refine wpAny_madeHere_exc F.canon hC ?_
    | with_reducible refine wpAny_loadPart_at hC ?_
    | (with_reducible refine wpAny_isSubtype_exc hC ?_; first | rw [inB] | rw [inA] | rw [inN])
    | wp_step)
  show R _ _
  rw [Heap.size_push]
  exact hq
/-- type.__call__ on such a class, with keywords -/
theorem typeCallK (F : ExcBaseFacts B nid iid base) (hT : ∀ Y : String, bm.contains (.type Y) = base.contains (.type Y))
    {xs : List Value} {kw : List (Str × Value)} {fI : Addr} {Q : Fin → Shared → Prop}
    (hC : hp.get? C = some (excClassObj nm q C N bs bm hdct sn sub ab col dd k0 k1 k2 k3 k5 nid))
    (hi : W.Looks (model P w) hp (typeLookup (.ref C) "__init__") (some (.ref fI)))
    (hb : ∀ self, W.Looks (model P w) hp (bindSpecial (.ref fI) self) (.ref fI, [self])) (hl : xs.length ≤ sizeLine)
    (hq : codeAny (model P w) A (.call (.ref fI) ⟨.ref (hp.objs.size + 1) :: xs, kw⟩)
      (fun r z => match r with
        | .ok (.ret v) => v = .none ∧ Q (.done (.ret (.ref (hp.objs.size + 1)))) z
        | .ok _ => False
        | .error e => E e z) ⟨withNew hp C xs, gs, dr, tk, os⟩) :
    wpAny (model P w) A (Builtin.«type.__call__» { pos := .ref C :: xs, kw := kw }) Q E ⟨hp, gs, dr, tk, os⟩ := by
  repeat (first
    | with_reducible refine wpAny_loadPart_at hC ?_
    | with_reducible refine wpAny_madeBy_exc hC ?_
    | wp_step)
  refine codeAny_call_builtin_code (Code.quiet_builtin _ F.quiet) (newCheckK F hT hC ?_)
  refine newK F hT hC hl ?_
  show wpAny _ _ _ _ _ _
  have up : ∀ b o, hp.get? b = some o → (withNew hp C xs).get? b = some o :=
    fun b o e => Heap.get?_push_of_some _ (Heap.get?_push_of_some _ e)
  have atC := up _ _ hC
  have atE : (withNew hp C xs).get? (hp.objs.size + 1) = some (excO C hp.objs.size) := by heap_get
  have self : (Value.ref C :: bm).contains (.ref C) = true := by simp
  have iK := hi.keeps up
  have bK := (hb (.ref (hp.objs.size + 1))).keeps up
  unfold isInstance
  repeat (first
    | with_reducible refine wpAny_loadPart_at atE ?_
    | (with_reducible refine wpAny_isSubtype_exc atC ?_; rw [self])
    | wp_step)
  show wpAny _ _ (typeLookup (.ref C) _) _ _ _
  refine iK.at ?_
  refine wpAny_holding (wpAny_bind (bK.at ?_))
  refine wpAny_bind (wpAny_call (codeAny_mono hq fun r z hz => ?_))
  cases r with
  | error e => exact hz
  | ok fl =>
    cases fl with
    | ret v =>
      obtain ⟨rfl, hz⟩ := hz
      first
        | exact wpAny_pure (wpAny_pure hz)
        | (wp_walk; exact hz)
    | next => exact hz.elim
    | brk => exact hz.elim
    | cont => exact hz.elim
theorem callK (F : ExcBaseFacts B nid iid base) (hT : ∀ Y : String, bm.contains (.type Y) = base.contains (.type Y))
    {xs : List Value} {kw : List (Str × Value)} {fI : Addr}
    (hC : hp.get? C = some (excClassObj nm q C N bs bm hdct sn sub ab col dd k0 k1 k2 k3 k5 nid))
    (hi : W.Looks (model P w) hp (typeLookup (.ref C) "__init__") (some (.ref fI)))
    (hb : ∀ self, W.Looks (model P w) hp (bindSpecial (.ref fI) self) (.ref fI, [self])) (hl : xs.length ≤ sizeLine)
    (hq : codeAny (model P w) (A.under (.builtin "type.__call__" ⟨.ref C :: xs, kw⟩))
      (.call (.ref fI) ⟨.ref (hp.objs.size + 1) :: xs, kw⟩) (W.InitBack (hp.objs.size + 1) R) ⟨withNew hp C xs, gs, dr, tk, os⟩) :
    codeAny (model P w) A (.call (.ref C) { pos := xs, kw := kw }) R ⟨hp, gs, dr, tk, os⟩ := by
  have g1 := tc_lookup
  have g2 := tc_bind (.ref C)
  have gT : (⟨hp, gs, dr, tk, os⟩ : Shared).TypeIs (.ref C) "type" := ⟨_, hC, rfl⟩
  refine codeAny_of_tree ?_
  show wpAny _ _ (callAny (.ref C) _) _ _ _
  repeat (any_goals (first
    | assumption
    | with_reducible refine wpAny_loadPart_at hC ?_
    | wp_step))
  refine ⟨rfl, ?_⟩
  refine codeAny_call_builtin_at (Code.quiet_builtin _ (by decide +kernel)) entry_typeCall ?_
  refine wpAny_check_type_call_sub hC (typeCallK F hT hC hi hb hl ?_)
  refine codeAny_mono hq fun r z hz => ?_
  cases r with
  | error e => exact hz
  | ok fl => cases fl <;> exact hz
end
end MlE
end PySem

/-! exceptions as values: isinstance, fields, whatever their dict -/
namespace PySem
namespace MlE
open PySem.W PySem.Spec PySem.Calls PyProof.Rows
section
variable {prog : Program} {w : World} {A : Around} {E : Value → Shared → Prop} {s : Shared} {K : Frag} {x D : Addr} {ox : Obj} {od : Option Obj}
theorem findObj_class {C : Addr} {name : Str} {a g : Value} (hc : (clsIn K C).isSome = true)
    (ha : findIn K (.ref C) name = some (some a)) (hg : specialIn K a "__get__" = some (some g)) (ht : takesIn K a = some true) :
    findObj K C od name = some (.bind g a) := by
  obtain ⟨cd, hcd⟩ := Option.isSome_iff_exists.mp hc
  unfold findObj
  simp [hcd, ha, hg, ht]
theorem class_of_exc {Q : Option Value → Shared → Prop} (T : L2.ExcC K D) (X : K.In s.heap) (I : InstAt s.heap x ox D od)
    (h : Q (some (.ref D)) { s with toks := s.toks + 1 }) : wpAny (model prog w) A (getAttr? (.ref x) "__class__") Q E s := by
  obtain ⟨hg, hk, hs, hd, ha, hn, ht, hm⟩ := T
  have cl : (clsIn K D).isSome = true := by
    obtain ⟨cd, hc, _⟩ := any_some hd
    rw [hc] <;> rfl
  have hf : findObj K D od "__class__" = some (.bind (.builtin "getset_descriptor.__get__") (.builtin "object.__class__")) :=
    findObj_class cl ha hn ht
  obtain ⟨hp, gs, dr, tk, os⟩ := s
  have l0 := I.type (M := model prog w)
  have l1 := looks_findIn (M := model prog w) X hg
  have l2 := looks_findIn (M := model prog w) X hk
  have l3 := looks_find (M := model prog w) X I hf
  have lb : Looks (model prog w) hp (isInstance (.ref x) (.type "BaseException")) true :=
    l0.andThen (looks_subIn X hs)
  have n0 : (false && onTheHeap (Value.builtin "BaseException.__getattribute__")) = false := rfl
  have n2 : (Value.builtin "BaseException.__getattribute__" == Value.builtin "object.__getattribute__") = false := by
    decide +kernel
  have n1 : (onTheHeap (Value.ref D) && Value.builtin "BaseException.__getattribute__" == Value.builtin "object.__getattribute__") = false := by
    rw [n2] <;> rfl
  unfold getAttr? getAttrBy? getAttrBy
  refine wpAny_bind (wpAny_mkText (wpAny_bind (wpAny_attempt ?_)))
  refine wpAny_holding (wpAny_bind (l0.at (wpAny_bind (l1.at ?_))))
  show wpAny _ _ (if (onTheHeap (Value.ref D) && Value.builtin "BaseException.__getattribute__" == Value.builtin "object.__getattribute__") = true then _
    else _) _ _ _
  rw [n1, if_neg Bool.false_ne_true]
  unfold getAttrByItsOwn hookBefore
  refine wpAny_bind ?_
  rw [if_pos (show onTheHeap (Value.ref D) = true from rfl)]
  refine l2.at ?_
  refine wpAny_bind (wpAny_attempt ?_)
  refine wpAny_holding ?_
  unfold callGetattribute
  rw [n0, if_neg Bool.false_ne_true]
  unfold boundAndCalled
  rw [PySem.F.excAttr_ValueError.ga.bind (.ref x)]
  refine wpAny_bind (wpAny_pure ?_)
  show wpAny _ _ (call (.builtin "BaseException.__getattribute__") [.ref x, .str "__class__" tk]) _ _ _
  refine wpAny_call ?_
  refine codeAny_call_builtin PySem.F.excAttr_ValueError.ga.plain PySem.F.entry_bexc_ga ?_
  refine @check_slot (model prog w) _ _ ⟨hp, gs, dr, tk + 1, os⟩ "BaseException.__getattribute__" "BaseException" "__getattribute__"
    (.ref x) [.str "__class__" tk] [] _ (by decide +kernel) (by decide +kernel) lb (PySem.F.args_bexc_ga (.ref x) (.str "__class__" tk)) ?_
  unfold Builtin.«object.__getattribute__»
  refine wpAny_bind ?_
  refine wpAny_of_eq (a := ((Value.ref x : Value), [Value.str "__class__" tk])) (by first | rfl | (simp only [slotArgs]; rfl)) ?_
  refine wpAny_bind (wpAny_pure ?_)
  refine wpAny_bind (l0.at (wpAny_bind (l3.at ?_)))
  show wpAny _ _ (holding [Value.builtin "object.__class__"] (call (.builtin "getset_descriptor.__get__")
    [.builtin "object.__class__", .ref x, .ref D]) >>= ret) _ _ _
  refine wpAny_bind (wpAny_holding (wpAny_call ?_))
  refine class_get (s := ⟨hp, gs, dr, tk + 1, os⟩) (ox := ox) (od := od) X I hm ?_
  refine wpAny_pure ?_
  show wpAny _ _ (handedOut (.ref D)) _ _ _
  rw [handedOut_of (v := .ref D) rfl]
  first
    | exact wpAny_pure (wpAny_pure h)
    | exact wpAny_pure h
    | exact wpAny_pure (wpAny_bind (wpAny_pure (wpAny_pure h)))
theorem kitx_excD (T : L2.ExcC K D) : KitX K (.ref x) (.ref D) (fun h => InstAt h x ox D od) where
  ty := fun _ _ _ I => I.type
  it := fun M h X _ => by
    obtain ⟨cd, hc, _⟩ := any_some T.hd
    unfold clsIn at hc
    split at hc
    · rename_i c1 d1 cd1 sl1 ho
      intro A1 Q1 E1 s1 k q
      unfold isType loadHead
      refine wpAny_bind ?_
      exact wpAny_loadPart (k _ _ (X _ _ ho)) (wpAny_pure q)
    · cases hc
  ne := fun h tp dd its n sl X htp => by
    obtain ⟨cd, hc, _⟩ := any_some T.hd
    rw [Bool.eq_false_iff]
    intro q
    obtain rfl : D = tp := Value.ref.inj (beq_iff_eq.mp q)
    unfold clsIn at hc
    split at hc
    · rename_i c1 d1 cd1 sl1 ho
      have z := (X _ _ ho).symm.trans htp
      cases z
    · cases hc
  ca := fun X I k => class_of_exc T X I k
end
end MlE
end PySem

namespace L2
open PySem PySem.Spec PyProof.Rows
/-! ### an exception that is held: tracked, or one of the pins ps -/
abbrev Pin := Addr × Obj
/-- the field table of an exception stands at d -/
def XdAt (H : Hp) (d : Addr) (fs : List (Str × V)) : Prop := H d = some (exd d fs) ∨ H d = some (.xd fs)
/-- at a: an exception of the class at C, its table at d with the fields fs -/
structure EvP (ps : List Pin) (H : Hp) (a C d : Addr) (fs : List (Str × V)) : Prop where
  at_ : H a = some (exo a C (some d)) ∨ ∃ oe : Obj, (a, oe) ∈ ps ∧ oe.cls = .ref C ∧ oe.dict = some d ∧ ∃ vs, oe.data = .fields vs
  tab : XdAt H d fs
theorem EvP.mono {ps qs : List Pin} {H H' : Hp} {a C d : Addr} {fs : List (Str × V)} (e : EvP ps H a C d fs)
    (hp : ∀ p ∈ ps, p ∈ qs) (k : ∀ b o, H b = some o → H' b = some o) : EvP qs H' a C d fs where
  at_ := e.at_.imp (k _ _) fun ⟨oe, h1, h2⟩ => ⟨oe, hp _ h1, h2⟩
  tab := e.tab.imp (k _ _) (k _ _)
section
variable {X : Cx} {pins : List Pin} {σ : St} {H : Hp} {s : Shared}
theorem XdAt.look (I : Inv X pins σ H s) {d : Addr} {fs : List (Str × V)} (x : XdAt H d fs) :
    ∃ mA, s.heap.Ns1 d mA ∧ ∀ f, RelO (fs.lookup f) (mA f) := by
  rcases x with x | x
  · exact exd_at I.hok x
  · exact I.hok d _ x
theorem EvP.look (I : Inv X pins σ H s) {ps : List Pin} (hps : ∀ p ∈ ps, p ∈ X.pn) {a C d : Addr} {fs : List (Str × V)} (e : EvP ps H a C d fs) :
    ∃ oe od mA, PySem.W.InstAt s.heap a oe C (some od) ∧ s.heap.Ns1 d mA ∧ (∀ f, RelO (fs.lookup f) (mA f)) ∧
      ∀ name, PySem.W.lookIn name od = some (mA name) := by
  obtain ⟨mA, hn, hr⟩ := e.tab.look I
  obtain ⟨od, ho, hl⟩ := lookIn_ns hn
  have key : ∃ oe : Obj, s.heap.get? a = some oe ∧ oe.cls = .ref C ∧ oe.dict = some d ∧ ∃ vs, oe.data = .fields vs := by
    rcases e.at_ with h | ⟨oe, hm, h1, h2, h3⟩
    · obtain ⟨t1, z⟩ := exo_at I.hok h
      exact ⟨_, z, rfl, rfl, _, rfl⟩
    · exact ⟨oe, (I.pin (a, oe) (List.mem_append_left _ (hps _ hm))).1, h1, h2, h3⟩
  obtain ⟨oe, z, hc, hd, vs, hv⟩ := key
  refine ⟨oe, od, mA, ⟨z, hc, ?_, ?_⟩, hn, hr, hl⟩
  · unfold PySem.W.notCls
    rw [hv] <;> rfl
  · rw [hd]
    exact ho
end

/-! ### isinstance -/
def rIsEv (K : PySem.W.Frag) (ps : List Pin) : List V → Hp → VK → Prop := fun xs H Q =>
  ∃ (a D d : Addr) (fs : List (Str × V)) (c : V) (u : Value) (b : Bool), xs = [.ref a, c] ∧ EvP ps H a D d fs ∧ ExcC K D ∧
    ClsV c u ∧ PySem.W.kitOne K (.ref D) u = some b ∧ Q (.bl b) H
def rIsEvT (K : PySem.W.Frag) (ps : List Pin) : List V → Hp → VK → Prop := fun xs H Q =>
  ∃ (a D d tp : Addr) (fs : List (Str × V)) (cs : List V) (us : List Value) (b : Bool), xs = [.ref a, .ref tp] ∧ EvP ps H a D d fs ∧
    ExcC K D ∧ H tp = some (.tup cs) ∧ Paired ClsV cs us ∧ PySem.W.kitAny K (.ref D) us = some b ∧ Q (.bl b) H
section
variable {X : Cx} {ps : List Pin}
theorem call_isEv (hps : ∀ p ∈ ps, p ∈ X.pn) : CallR X (.builtin "isinstance") (rIsEv X.K ps) := by
  intro pins s σ H xs us Q I r h
  obtain ⟨a, D, d, fs, c, u, b, rfl, ev, C, k, e, q⟩ := h
  obtain ⟨u1, u2, rfl, r1, r2⟩ := vals2 r
  have e2 := k.eq r2
  subst e2
  obtain rfl : u1 = Value.ref a := r1
  obtain ⟨oe, od, mA, J, _⟩ := ev.look I hps
  exact PySem.W.kia_one (PySem.MlE.kitx_excD C) I.kIn J e (fun z => nomatch z)
    fun tk => ⟨.bl b, H, I.tok tk, rfl, q⟩
theorem call_isEvT (hps : ∀ p ∈ ps, p ∈ X.pn) : CallR X (.builtin "isinstance") (rIsEvT X.K ps) := by
  intro pins s σ H xs us Q I r h
  obtain ⟨a, D, d, tp, fs, cs, ws, b, rfl, ev, C, hT, k, e, q⟩ := h
  obtain ⟨u1, u2, rfl, r1, r2⟩ := vals2 r
  obtain rfl : u2 = Value.ref tp := r2
  obtain rfl : u1 = Value.ref a := r1
  obtain ⟨oe, od, mA, J, _⟩ := ev.look I hps
  obtain ⟨_, its, rv, o, h1, h2, n, h3⟩ := (show ObjOk X.prog X.w H s.heap tp (.tup cs) from I.hok tp _ hT)
  have e3 := ClsV.all k rv
  subst e3
  obtain ⟨oc, od2, dt, sl⟩ := o
  simp only at h2 h3
  subst h2 h3
  exact PySem.W.kia_tup (PySem.MlE.kitx_excD C) I.kIn J h1 e (fun z => nomatch z)
    fun tk => ⟨.bl b, H, I.tok tk, rfl, q⟩
end

/-! ### a field -/
def tEvF (K : PySem.W.Frag) (ps : List Pin) (f : Str) (te : TE) : TE := fun σ H Q => te σ H fun x H1 =>
  ∃ (a D d : Addr) (fs : List (Str × V)) (v : V), x = .ref a ∧ EvP ps H1 a D d fs ∧ XfC K D ∧
    PySem.W.findIn K (.ref D) f = some none ∧ fs.lookup f = some v ∧ Q v H1
theorem pe_evF {X : Cx} {ps : List Pin} {e : Expr} {te : TE} {f : Str} {pos : Pos} (hps : ∀ p ∈ ps, p ∈ X.pn) (he : PE X e te)
    (hb : attributeBase e f X.env (eval e X.env) = eval e X.env := by rfl) : PE X (.Attribute e f pos) (tEvF X.K ps f te) := by
  refine ⟨fun pins s σ H Q I h => ?_⟩
  refine attr_of hb (thn (he.run pins s σ H _ I h) fun u s1 hh => ?_)
  obtain ⟨x, H1, I1, rx, a, D, d, fs, v, rfl, ev, T, hno, l, q⟩ := hh
  obtain rfl : u = Value.ref a := rx
  obtain ⟨oe, od, mA, J, _, hr, hl⟩ := ev.look I1 hps
  obtain ⟨y, hu, ru⟩ := RelO.some_of (v := v) (o := mA f) (by rw [← l]; exact hr f)
  exact HandSPX.exc_get I1.kIn J T.ga T.gg T.exC (PySem.W.findObj_own T.hdC hno rfl (by rw [hl, hu]))
    (handed_of ru) ⟨v, H1, I1.tok _, ru, q⟩

/-! ### C(e, .., k = v, ..) as a value -/
def tMkEv (C : Addr) (n m : Nat) (sp : Sp) (gV : List V → List V → List V) (t tk : TA) : TE := fun σ H Q =>
  t σ H fun vs H1 => tk σ H1 fun zs H2 => vs.length = n ∧ zs.length = m ∧
    ∀ a, H2 a = none → sp (gV (.ref a :: vs) zs) (upd H2 a (exo a C none)) (fun v H3 => v = .non ∧ Q (.ref a) H3) fun _ _ _ => False
section
variable {X : Cx} {CX : CXT} {k n : Nat} {C fI : Addr} {fd : FuncData} {ps ks : List Str} {sp : Sp} {x : Str} {p pos : Pos}
variable {e : Expr} {es : List Expr} {kws : List Keyword} {t tk : TA} {g : List Value → List Value → List Value} {gV : List V → List V → List V}
theorem run_mkEv {pins : List Pin} {σ : St} {H : Hp} {s : Shared} {Q : VK} {us ws : List Value} {vs zs : List V} (T : OexC X.K C)
    (iC : PySem.W.findIn X.K (.ref C) "__init__" = some (some (.ref fI))) (tI : PySem.W.typeIn X.K (.ref fI) = some (.type "function"))
    (F : FnOk X.prog X.w X.K X.mg X.base CX k fI fd ps sp) (hr : Room (k + 1) X.A) (hb : KBn X.K fd ps (n + 1) ks g gV)
    (hx : Passes CX X fun _ _ _ => False) (I : Inv X pins σ H s) (r : Vals vs us) (rz : Vals zs ws) (l1 : vs.length = n)
    (l2 : zs.length = ks.length) (hn : n ≤ 1000)
    (h : ∀ a, H a = none → sp (gV (.ref a :: vs) zs) (upd H a (exo a C none)) (fun v H2 => v = .non ∧ Q (.ref a) H2) fun _ _ _ => False) :
    wpAny (model X.prog X.w) X.A (call (.ref C) us (ks.zip ws)) (EP X pins σ Q) X.xe s := by
  obtain ⟨nm, q, N, bs, bm, sn, sub, ab, col, dd, k0, k1, k2, k3, k5, hC, hbm⟩ := T.cls
  obtain ⟨hp, gs, dr, tk0, os⟩ := s
  have le1 : hp.objs.size ≤ hp.objs.size + 1 := Nat.le_succ _
  have hq := h (hp.objs.size + 1) (I.hok.fresh le1)
  have up : ∀ b o, hp.get? b = some o → (PySem.MlE.withNew hp C us).get? b = some o :=
    fun b o e => Heap.get?_push_of_some _ (Heap.get?_push_of_some _ e)
  have atE : (PySem.MlE.withNew hp C us).get? (hp.objs.size + 1) = some (PySem.HandSPX.excO C hp.objs.size) := by heap_get
  have I2 : Inv X pins σ (upd H (hp.objs.size + 1) (exo (hp.objs.size + 1) C none)) ⟨PySem.MlE.withNew hp C us, gs, dr, tk0, os⟩ :=
    I.laid (t' := tk0) (a := hp.objs.size + 1) (o := exo (hp.objs.size + 1) C none) (h' := PySem.MlE.withNew hp C us) up le1 (exo_ok atE)
  have r1 : Vals (V.ref (hp.objs.size + 1) :: vs) (Value.ref (hp.objs.size + 1) :: us) := .cons rfl r
  have r2 := hb.rel r1 rz
  have e1 : (Value.ref (hp.objs.size + 1) :: us).length = n + 1 := r1.length.symm.trans (congrArg Nat.succ l1)
  have e2 : ws.length = ks.length := rz.length.symm.trans l2
  have hus : us.length ≤ sizeLine := by
    have z := r.length
    rw [sizeLine_eq]
    omega
  refine wpAny_call (PySem.MlE.callK PySem.F.excBase_ValueError (fun Y => PySem.HandSPX.refsVE_contains Y bm hbm)
    (I.kIn _ _ hC) (PySem.W.looks_findIn I.kIn iC) (fun self => PySem.W.bind_fn I.kIn self tI) hus ?_)
  refine codeAny_mono (F.run _ X.stack _ _ ⟨Value.ref (hp.objs.size + 1) :: us, ks.zip ws⟩ (g (Value.ref (hp.objs.size + 1) :: us) ws)
    _ _ (fun _ _ _ => False) (hr.make C us (ks.zip ws)) (I2.env0.make C us (ks.zip ws))
    (hb.to _ (Value.ref (hp.objs.size + 1) :: us) ws I2.kIn e1 e2) r2 hq) fun r s1 h1 => ?_
  cases r with
  | error er => exact hx pins σ _ _ er s1 I2 h1
  | ok fl =>
    cases fl with
    | ret u =>
      obtain ⟨v, H3, I3, rv, ev, q3⟩ := I2.after h1
      subst ev
      exact ⟨rv, ⟨V.ref (hp.objs.size + 1), H3, I3, rfl, q3⟩⟩
    | next => exact False.elim h1
    | brk => exact False.elim h1
    | cont => exact False.elim h1
/-- C(e, ..), values alone -/
theorem pe_mkEv (T : OexC X.K C) (iC : PySem.W.findIn X.K (.ref C) "__init__" = some (some (.ref fI)))
    (tI : PySem.W.typeIn X.K (.ref fI) = some (.type "function")) (FI : FnOk X.prog X.w X.K X.mg X.base CX k fI fd ps sp) (hr : Room (k + 1) X.A)
    (hb : KBn X.K fd ps (n + 1) [] g gV) (hx : Passes CX X fun _ _ _ => False) (hn : n ≤ 1000) (hg : Gl X x) (hm : X.mg x = some (.ref C)) (ha : PA X (e :: es) t)
    (hdb : (x == ("__debug__" : Str)) = false := by decide) (he : starEach (e :: es) X.env = (false, eval e X.env) :: starEach es X.env := by rfl)
    (hpl : (backTo pos (starEach es X.env)).any (·.1) = false := by rfl) : PE X (.Call (.Name x p) (e :: es) [] pos) (tMkEv C n 0 sp gV t tNil) := by
  refine ⟨fun pins s σ H Q I h => ?_⟩
  refine wpAny_Call_Name_kw (ld_glob I hg hm ?_ hdb)
  refine PySem.W.callWith_K (h₀ := X.base) I.ok.mod.kin T.kC ?_ he hpl
  refine thn (ha.run pos pins s σ H _ I h) fun us s1 ⟨vs, H1, I1, r, l1, l2, q⟩ => ⟨I1.kIn, ?_⟩
  exact run_mkEv (ks := []) (ws := []) (zs := []) T iC tI FI hr hb hx I1 r .nil l1 rfl hn q
/-- C(k = v, ..) -/
theorem pe_mkEvK (T : OexC X.K C) (iC : PySem.W.findIn X.K (.ref C) "__init__" = some (some (.ref fI)))
    (tI : PySem.W.typeIn X.K (.ref fI) = some (.type "function")) (FI : FnOk X.prog X.w X.K X.mg X.base CX k fI fd ps sp) (hr : Room (k + 1) X.A)
    (hb : KBn X.K fd ps 1 ks g gV) (hx : Passes CX X fun _ _ _ => False) (hg : Gl X x) (hm : X.mg x = some (.ref C)) (hkw : PK X kws tk)
    (hall : (backToKw pos (keywordEach kws X.env)).all (·.1.isSome) = true := by rfl)
    (hks : (backToKw pos (keywordEach kws X.env)).filterMap (·.1) = ks := by rfl) (hdb : (x == ("__debug__" : Str)) = false := by decide)
    (hpl : ((backTo pos (starEach [] X.env)).any (·.1) || (backToKw pos (keywordEach kws X.env)).any (·.1.isNone)) = false := by rfl) :
    PE X (.Call (.Name x p) [] kws pos) (tMkEv C 0 ks.length sp gV tNil tk) := by
  refine ⟨fun pins s σ H Q I h => ?_⟩
  refine wpAny_Call_Name_kw (ld_glob I hg hm ?_ hdb)
  refine PySem.W.callWith_KW0 (h₀ := X.base) I.ok.mod.kin T.kC hall ?_ hpl
  refine thn (hkw.run pos pins s σ H _ I h) fun ws s2 ⟨zs, H2, I2, rz, l1, l2, q2⟩ => ⟨I2.kIn, ?_⟩
  rw [hks]
  exact run_mkEv (us := []) (vs := []) T iC tI FI hr hb hx I2 .nil rz rfl l2 (Nat.zero_le _) q2
/-- C(e, .., k = v, ..) -/
theorem pe_mkEvM (T : OexC X.K C) (iC : PySem.W.findIn X.K (.ref C) "__init__" = some (some (.ref fI)))
    (tI : PySem.W.typeIn X.K (.ref fI) = some (.type "function")) (FI : FnOk X.prog X.w X.K X.mg X.base CX k fI fd ps sp) (hr : Room (k + 1) X.A)
    (hb : KBn X.K fd ps (n + 1) ks g gV) (hx : Passes CX X fun _ _ _ => False) (hn : n ≤ 1000) (hg : Gl X x) (hm : X.mg x = some (.ref C))
    (ha : PA X (e :: es) t) (hkw : PK X kws tk) (hall : (backToKw pos (keywordEach kws X.env)).all (·.1.isSome) = true := by rfl)
    (hks : (backToKw pos (keywordEach kws X.env)).filterMap (·.1) = ks := by rfl) (hdb : (x == ("__debug__" : Str)) = false := by decide)
    (he : starEach (e :: es) X.env = (false, eval e X.env) :: starEach es X.env := by rfl)
    (hpl : ((backTo pos (starEach (e :: es) X.env)).any (·.1) || (backToKw pos (keywordEach kws X.env)).any (·.1.isNone)) = false := by rfl) :
    PE X (.Call (.Name x p) (e :: es) kws pos) (tMkEv C n ks.length sp gV t tk) := by
  refine ⟨fun pins s σ H Q I h => ?_⟩
  refine wpAny_Call_Name_kw (ld_glob I hg hm ?_ hdb)
  refine PySem.W.callWith_KW (h₀ := X.base) I.ok.mod.kin T.kC hall ?_ hpl he
  refine thn (ha.run pos pins s σ H _ I h) fun us s1 ⟨vs, H1, I1, r, q⟩ => ?_
  refine thn (hkw.run pos pins s1 σ H1 _ I1 q) fun ws s2 ⟨zs, H2, I2, rz, l1, l2, q2⟩ => ⟨I2.kIn, ?_⟩
  rw [hks]
  exact run_mkEv T iC tI FI hr hb hx I2 r rz l1 l2 hn q2
end
end L2

namespace L2
open PySem PySem.Spec PyProof.Rows
theorem Vals.rev : ∀ {xs : List V} {us : List Value}, Vals xs us → Vals xs.reverse us.reverse
  | _, _, .nil => .nil
  | x :: xs, u :: us, .cons r t => by
    rw [List.reverse_cons, List.reverse_cons]
    exact (Vals.rev t).append (.cons r .nil)
section
variable {K : PySem.W.Frag} {x qual : Str} {params : Arguments} {body : List Stmt} {scope : Scope} {f : Addr} {fd : FuncData} {ps : List Str}
/-- a def without defaults, called by n values and the keywords ks -/
theorem FunD.kbn0 (F : FunD K x qual params body scope [] [] f fd) (n : Nat) (ks : List Str) (g : {α : Type} → List α → List α → List α)
    (hrel : ∀ {vs zs : List V} {us ws : List Value}, Vals vs us → Vals zs ws → Vals (g vs zs) (g us ws))
    (h : ∀ (kV doc pm : Value) (an : Option Addr) (cdv ct : Value) (us ws : List Value), us.length = n → ws.length = ks.length →
      bindArgs (PySem.W.fnOf x qual params body scope .none kV doc pm an cdv ct) ⟨us, ks.zip ws⟩ = pure (ps.zip (g us ws))) :
    KBn K fd ps n ks (fun us ws => g us ws) (fun vs zs => g vs zs) := by
  obtain ⟨oc, od, dV, kV, doc, pm, an, cdv, ct, osl, rfl, lk, hcd, hD, hK⟩ := F.ex
  rcases hD with ⟨_, rfl⟩ | ⟨e, _⟩
  · exact ⟨fun s us ws X l1 l2 => .of_eq (h kV doc pm an cdv ct us ws l1 l2), fun r1 r2 => hrel r1 r2⟩
  · exact absurd rfl e
end
theorem visP {N P : List Str} {sc : Scope} (S : FnScope N P sc) {y : Str} (hy : y ∈ P) : Vis sc y := by
  rcases S.par y hy with e | e
  · exact .inl e
  · exact .inr (.inl e)
/-- a name that means nothing to the machine -/
structure Plain (f : Str) : Prop where
  a : (f == ("__debug__" : Str)) = false
  b : (f == ("__classdict__" : Str)) = false
/-! ### self.f = f -/
abbrev iB1 (f : Str) (q1 q2 q3 q4 : Pos) : List Stmt := [.Assign [.Attribute (.Name "self" q1) f q2] (.Name f q3) q4]
abbrev iB2 (f g : Str) (q1 q2 q3 q4 r1 r2 r3 r4 : Pos) : List Stmt :=
  [.Assign [.Attribute (.Name "self" q1) f q2] (.Name f q3) q4, .Assign [.Attribute (.Name "self" r1) g r2] (.Name g r3) r4]
/-- the heap with a new exception at a, of the class at C, its table at d -/
def withEv (H : Hp) (a C d : Addr) (fs : List (Str × V)) : Hp := upd (upd H d (exd d fs)) a (exo a C (some d))
def spI1 (C : Addr) (f : Str) : Sp := fun vs H Q _ => ∃ (a : Addr) (v : V), vs = [.ref a, v] ∧ H a = some (exo a C none) ∧
  ∀ dx, H dx = none → dx ≠ a → Q .non (withEv H a C dx [(f, v)])
def spI2 (C : Addr) (f g : Str) : Sp := fun vs H Q _ => ∃ (a : Addr) (v w : V), vs = [.ref a, v, w] ∧ H a = some (exo a C none) ∧
  ∀ dx, H dx = none → dx ≠ a → Q .non (withEv H a C dx [(g, w), (f, v)])
section
variable {P : Program} {w : World} {K : PySem.W.Frag} {mg : Str → Option Value} {base : Heap} {C fI : Addr} {fd : FuncData} {qual f g : Str} {pa : Arguments} {bd : List Stmt} {sc : Scope}
theorem ok_init1 {q1 q2 q3 q4 : Pos} (F : FunD K "__init__" qual pa bd sc [] [] fI fd) (S : FnScope ["self", f] ["self", f] sc) (hb : bd = iB1 f q1 q2 q3 q4)
    (T : OexC K C) (no : PySem.W.findIn K (.ref C) f = some none) (pf : Plain f) : FnOk P w K mg base CX0 1 fI fd ["self", f] (spI1 C f) := by
  refine F.ok S (fun vs H Q E h => ?_) (fun cdv A outer s H vs Q E hr h => ?_)
  · obtain ⟨a, v, rfl, _⟩ := h
    rfl
  · subst hb
    refine ⟨_, pss_one (ps_ost (pe_var (i := 0) rfl (visP S List.mem_cons_self)) (pe_var (i := 1) rfl (visP S (List.mem_cons_of_mem _ List.mem_cons_self)) (hd := pf.a) (hcd := pf.b))), ?_⟩
    obtain ⟨a, v, rfl, ha, k⟩ := h
    exact ⟨_, rfl, _, rfl, a, C, rfl, T, no, .inl ⟨ha, fun dx n ne => k dx n ne⟩⟩
theorem ok_init2 {q1 q2 q3 q4 r1 r2 r3 r4 : Pos} (F : FunD K "__init__" qual pa bd sc [] [] fI fd) (S : FnScope ["self", f, g] ["self", f, g] sc) (hb : bd = iB2 f g q1 q2 q3 q4 r1 r2 r3 r4)
    (T : OexC K C) (no : PySem.W.findIn K (.ref C) f = some none) (no2 : PySem.W.findIn K (.ref C) g = some none) (pf : Plain f) (pg : Plain g) : FnOk P w K mg base CX0 1 fI fd ["self", f, g] (spI2 C f g) := by
  refine F.ok S (fun vs H Q E h => ?_) (fun cdv A outer s H vs Q E hr h => ?_)
  · obtain ⟨a, v, w, rfl, _⟩ := h
    rfl
  · subst hb
    have v0 := visP S (y := "self") List.mem_cons_self
    have v1 := visP S (y := f) (List.mem_cons_of_mem _ List.mem_cons_self)
    have v2 := visP S (y := g) (List.mem_cons_of_mem _ (List.mem_cons_of_mem _ List.mem_cons_self))
    refine ⟨_, pss_cons (ps_ost (pe_var (i := 0) rfl v0) (pe_var (i := 1) rfl v1 (hd := pf.a) (hcd := pf.b))) (pss_one (ps_ost (pe_var (i := 0) rfl v0) (pe_var (i := 2) rfl v2 (hd := pg.a) (hcd := pg.b)))), ?_⟩
    obtain ⟨a, v, w, rfl, ha, k⟩ := h
    refine ⟨_, rfl, _, rfl, a, C, rfl, T, no, .inl ⟨ha, fun dx n ne => ?_⟩⟩
    refine ⟨_, rfl, _, rfl, a, C, rfl, T, no2, .inr ⟨dx, [(f, v)], upd_same, ?_, by show 1 ≤ 900; decide, ?_⟩⟩
    · rw [upd_ne ne, upd_same]
    · have z := k dx n ne
      have e : upd (upd (upd H dx (exd dx [(f, v)])) a (exo a C (some dx))) dx (exd dx [(g, w), (f, v)]) = withEv H a C dx [(g, w), (f, v)] := by
        funext b
        unfold withEv
        by_cases h1 : b = dx
        · subst h1
          rw [upd_same, upd_ne ne, upd_same]
        · rw [upd_ne h1]
          by_cases h2 : b = a
          · rw [h2, upd_same, upd_same]
          · rw [upd_ne h2, upd_ne h1, upd_ne h2, upd_ne h1]
      exact e ▸ z
end
end L2

/-! defs that are called within an except suite and outside of one alike -/
namespace L2
open PySem PySem.Spec PyProof.Rows
open L2H (RoomH Hot1 PinOk)
/-- nothing is handled, or p is -/
def WarmA (A : Around) (p : Pin) : Prop := A.handled = none ∨ Hot1 A p
/-- no exception leaves -/
abbrev noE : XK := fun _ _ _ => False
structure FnP (P : Program) (w : World) (K : PySem.W.Frag) (mg : Str → Option Value) (base : Heap) (k : Nat) (f : Addr) (fd : FuncData)
    (ps : List Str) (p : Pin) (sp : Sp) : Prop where
  len : ∀ vs H Q E, sp vs H Q E → vs.length = ps.length
  run : ∀ (A : Around) (outer : List Env) (s : Shared) (H : Hp) (args : Args) (us : List Value) (vs : List V) (Q : VK), RoomH k A → A.guards = some [] → WarmA A p →
    PinOk outer H s p → Env0 P w K mg base A outer s H → BindsTo s fd args (ps.zip us) → Vals vs us → sp vs H Q noE →
    codeAny (model P w) A (.call (.ref f) args) (CR CX0 outer P w H s Q noE) s
/-- the body's context -/
abbrev cxP (P : Program) (w : World) (K : PySem.W.Frag) (mg : Str → Option Value) (base : Heap) (N : List Str) (qual : Str) (scope : Scope)
    (f : Addr) (cd : Value) (A : Around) (outer : List Env) (s : Shared) (H : Hp) (p : Pin) : Cx :=
  L2H.cxH CX0 P w K mg base N qual scope f cd A outer s H noE p
/-- what is known of a body's context -/
structure WarmC (X : Cx) (p : Pin) : Prop where
  mem : p ∈ X.pn
  gd : X.A.guards = some []
  warm : WarmA X.A p
section
variable {P : Program} {w : World} {K : PySem.W.Frag} {mg : Str → Option Value} {base : Heap} {k : Nat} {f : Addr} {fd : FuncData} {ps N : List Str}
variable {p : Pin} {sp : Sp} {x qual : Str} {pa : Arguments} {bd : List Stmt} {sc : Scope}
theorem FunD.okP (F : FunD K x qual pa bd sc [] [] f fd) (S : FnScope N ps sc) (len : ∀ vs H Q E, sp vs H Q E → vs.length = ps.length)
    (hbody : ∀ (cdv : Value) (A : Around) (outer : List Env) (s : Shared) (H : Hp) (vs : List V) (Q : VK), WarmC (cxP P w K mg base N qual sc f cdv A outer s H p) p →
      RoomH k (A.deeper (envOfC qual sc s.heap.objs.size f cdv)) → sp vs H Q noE →
      ∃ t, PSs (cxP P w K mg base N qual sc f cdv A outer s H p) bd t ∧ t { nx := fun _ H' => Q .non H', rt := Q } (start N vs) H) :
    FnP P w K mg base (k + 1) f fd ps p sp := by
  obtain ⟨oc, od, dV, kV, doc, pm, an, cdv, ct, osl, rfl, lk, hcd, _, _⟩ := F.ex
  refine ⟨len, fun A outer s H args us vs Q hr hgd hw hpin e0 hb r hsp => ?_⟩
  have hlen := len _ _ _ _ hsp
  have kin : K.In s.heap := e0.mod.kin.keeps fun b o e => (e0.bs b o e).1
  have lim : s.heap.NoLimit := e0.mod.nolimit.keeps fun b o e => (e0.bs b o e).1
  have kinds : ∀ y ∈ ps.zip us, sc.names.lookup y.1 = some .local ∨
      (sc.names.lookup y.1 = some .cell ∧ ((cellsFrom (s.heap.objs.size + 1) sc.names []).lookup y.1).isSome = true) := by
    rintro ⟨n, v⟩ hy
    rcases S.par n (List.of_mem_zip hy).1 with q | q
    · exact .inl q
    · exact .inr ⟨q, PySem.W.cellsFrom_some _ _ _ (.inl q)⟩
  refine codeAny_call_function hr.depth (kin _ _ lk) rfl S.co S.gen rfl (PySem.W.codeRec_of kin hcd) (hb _ _ _ _ ?_)
  refine wpAny_newFunctionEnv_cells S.kind kinds fun env he s1 z => ?_
  subst he
  refine ⟨lim.keeps z.toInCall.keep, codeAny_func ?_⟩
  have I : Inv (cxP P w K mg base N qual sc f cdv A outer s H p) [] (start N vs) H s1 := L2H.inv_startH S hpin e0 hlen r z
  have wc : WarmC (cxP P w K mg base N qual sc f cdv A outer s H p) p :=
    ⟨List.mem_cons_self, hgd, hw⟩
  obtain ⟨t, ht, hq⟩ := hbody cdv A outer s H vs Q wc (hr.deeper _) hsp
  have fin : ∀ {σ1 : St} {H1 : Hp} {v : V} {u : Value} {s2 : Shared}, Inv (cxP P w K mg base N qual sc f cdv A outer s H p) [] σ1 H1 s2 → RelV v u → Q v H1 →
      CE outer P w H s Q u s2 := fun {σ1 H1 v u s2} J rv q => ⟨v, H1, J.os, J.bare, J.base, J.hok, rv, q⟩
  refine wpAny_mono (ht.run [] s1 (start N vs) H _ I hq) (fun fl s2 hs => ?_) fun e s2 hs => hs
  cases fl with
  | ret u =>
    obtain ⟨v, σ1, H1, J, rv, q⟩ := hs
    exact fin J rv q
  | next =>
    obtain ⟨σ1, H1, J, q⟩ := hs
    exact fin (v := V.non) (u := Value.none) J rfl q
  | brk =>
    obtain ⟨_, _, _, q⟩ := hs
    exact q.elim
  | cont =>
    obtain ⟨_, _, _, q⟩ := hs
    exact q.elim
/-- a def that is called where no repr is under way -/
structure FnG (P : Program) (w : World) (K : PySem.W.Frag) (mg : Str → Option Value) (base : Heap) (k : Nat) (f : Addr) (fd : FuncData)
    (ps : List Str) (sp : Sp) : Prop where
  len : ∀ vs H Q E, sp vs H Q E → vs.length = ps.length
  run : ∀ (A : Around) (outer : List Env) (s : Shared) (H : Hp) (args : Args) (us : List Value) (vs : List V) (Q : VK), Room k A → A.guards = some [] →
    Env0 P w K mg base A outer s H → BindsTo s fd args (ps.zip us) → Vals vs us → sp vs H Q noE →
    codeAny (model P w) A (.call (.ref f) args) (CR CX0 outer P w H s Q noE) s
theorem FnG.mono {j : Nat} (F : FnG P w K mg base j f fd ps sp) (h : j ≤ k) : FnG P w K mg base k f fd ps sp :=
  ⟨F.len, fun A outer s H args us vs Q hr => F.run A outer s H args us vs Q (hr.mono h)⟩
/-- outside of a suite: any object of the written part may be the pin -/
theorem FnP.ok {a : Addr} {o : Obj} (F : FnP P w K mg base k f fd ps (a, o) sp) (ho : K.lookup a = some o) (hc : ∀ v, o.data ≠ .cell v) :
    FnG P w K mg base k f fd ps sp := by
  refine ⟨F.len, fun A outer s H args us vs Q hr hgd e0 hb r hsp => ?_⟩
  have hz : base.get? a = some o := e0.mod.kin _ _ ho
  have pin : PinOk outer H s (a, o) := by
    refine ⟨(e0.bs a o hz).1, (e0.bs a o hz).2, fun hm => ?_, hc⟩
    have z := (e0.funs.mem hm).1
    rw [hz] at z
    cases z
  exact F.run A outer s H args us vs Q (L2H.roomH_of hr) hgd (.inl hr.hd) pin e0 hb r hsp
theorem FunD.okG (F : FunD K x qual pa bd sc [] [] f fd) (S : FnScope N ps sc) (len : ∀ vs H Q E, sp vs H Q E → vs.length = ps.length)
    (hbody : ∀ (cdv : Value) (A : Around) (outer : List Env) (s : Shared) (H : Hp) (vs : List V) (Q : VK), (A.deeper (envOfC qual sc s.heap.objs.size f cdv)).guards = some [] →
      Room k (A.deeper (envOfC qual sc s.heap.objs.size f cdv)) → sp vs H Q noE →
      ∃ t, PSs (cxOf CX0 P w K mg base N qual sc f cdv A outer s H noE) bd t ∧ t { nx := fun _ H' => Q .non H', rt := Q } (start N vs) H) :
    FnG P w K mg base (k + 1) f fd ps sp := by
  obtain ⟨oc, od, dV, kV, doc, pm, an, cdv, ct, osl, rfl, lk, hcd, _, _⟩ := F.ex
  refine ⟨len, fun A outer s H args us vs Q hr hgd e0 hb r hsp => ?_⟩
  have hlen := len _ _ _ _ hsp
  have kin : K.In s.heap := e0.mod.kin.keeps fun b o e => (e0.bs b o e).1
  have lim : s.heap.NoLimit := e0.mod.nolimit.keeps fun b o e => (e0.bs b o e).1
  have kinds : ∀ y ∈ ps.zip us, sc.names.lookup y.1 = some .local ∨
      (sc.names.lookup y.1 = some .cell ∧ ((cellsFrom (s.heap.objs.size + 1) sc.names []).lookup y.1).isSome = true) := by
    rintro ⟨n, v⟩ hy
    rcases S.par n (List.of_mem_zip hy).1 with q | q
    · exact .inl q
    · exact .inr ⟨q, PySem.W.cellsFrom_some _ _ _ (.inl q)⟩
  refine codeAny_call_function hr.depth (kin _ _ lk) rfl S.co S.gen rfl (PySem.W.codeRec_of kin hcd) (hb _ _ _ _ ?_)
  refine wpAny_newFunctionEnv_cells S.kind kinds fun env he s1 z => ?_
  subst he
  refine ⟨lim.keeps z.toInCall.keep, codeAny_func ?_⟩
  have I : Inv (cxOf CX0 P w K mg base N qual sc f cdv A outer s H noE) [] (start N vs) H s1 := inv_start S hr.hd e0 hlen r z
  obtain ⟨t, ht, hq⟩ := hbody cdv A outer s H vs Q hgd (hr.deeper _) hsp
  have fin : ∀ {σ1 : St} {H1 : Hp} {v : V} {u : Value} {s2 : Shared}, Inv (cxOf CX0 P w K mg base N qual sc f cdv A outer s H noE) [] σ1 H1 s2 → RelV v u → Q v H1 →
      CE outer P w H s Q u s2 := fun {σ1 H1 v u s2} J rv q => ⟨v, H1, J.os, J.bare, J.base, J.hok, rv, q⟩
  refine wpAny_mono (ht.run [] s1 (start N vs) H _ I hq) (fun fl s2 hs => ?_) fun e s2 hs => hs
  cases fl with
  | ret u =>
    obtain ⟨v, σ1, H1, J, rv, q⟩ := hs
    exact fin J rv q
  | next =>
    obtain ⟨σ1, H1, J, q⟩ := hs
    exact fin (v := V.non) (u := Value.none) J rfl q
  | brk =>
    obtain ⟨_, _, _, q⟩ := hs
    exact q.elim
  | cont =>
    obtain ⟨_, _, _, q⟩ := hs
    exact q.elim
end
section
variable {X : Cx} {k : Nat} {f : Addr} {fd : FuncData} {ps : List Str} {p : Pin} {sp : Sp} {x : Str} {np pos : Pos} {e : Expr} {es : List Expr} {t : TA}
theorem pe_callP (F : FnP X.prog X.w X.K X.mg X.base k f fd ps p sp) (hw : WarmC X p) (hr : RoomH k X.A) (hg : Gl X x) (hm : X.mg x = some (.ref f))
    (hk : PySem.W.keepIn X.K (.ref f) = true) (hb : Binds X.K fd ps []) (ha : PA X (e :: es) t) (hdb : (x == ("__debug__" : Str)) = false := by decide)
    (he : starEach (e :: es) X.env = (false, eval e X.env) :: starEach es X.env := by rfl) (hpl : (backTo pos (starEach es X.env)).any (·.1) = false := by rfl) :
    PE X (.Call (.Name x np) (e :: es) [] pos) (tCall sp [] noE t) := by
  refine ⟨fun pins s σ H Q I h => ?_⟩
  refine wpAny_Call_Name_kw (ld_glob I hg hm ?_ hdb)
  refine PySem.W.callWith_K (h₀ := X.base) I.ok.mod.kin hk ?_ he hpl
  refine thn (ha.run pos pins s σ H _ I h) fun us s1 ⟨vs, H1, I1, r, q⟩ => ⟨I1.kIn, ?_⟩
  have q : sp vs H1 Q noE := by
    have z : sp (vs ++ []) H1 Q noE := q
    rwa [List.append_nil] at z
  have hl : (us ++ []).length = ps.length := by
    rw [List.append_nil, ← r.length]
    exact F.len _ _ _ _ q
  have bb := hb s1 us I1.kIn hl
  rw [List.append_nil] at bb
  obtain ⟨g1, g2, g3, g4, g5⟩ := I1.pin p (List.mem_append_left _ hw.mem)
  have pin : PinOk X.stack H1 s1 p := ⟨g1, g2, fun hm => by
    rcases List.mem_cons.mp (I1.stkSub _ hm) with z | z
    · exact g3 z
    · exact g4 z, g5⟩
  refine wpAny_call (codeAny_mono (F.run X.A X.stack s1 H1 ⟨us, []⟩ us vs Q hr hw.gd hw.warm pin I1.env0 bb r q) fun rs s2 h2 => ?_)
  cases rs with
  | error er => exact False.elim h2
  | ok fl =>
    cases fl with
    | ret u => exact I1.after h2
    | next => exact h2.elim
    | brk => exact h2.elim
    | cont => exact h2.elim
theorem pe_callG (F : FnG X.prog X.w X.K X.mg X.base k f fd ps sp) (hgd : X.A.guards = some []) (hr : Room k X.A) (hg : Gl X x) (hm : X.mg x = some (.ref f))
    (hk : PySem.W.keepIn X.K (.ref f) = true) (hb : Binds X.K fd ps []) (ha : PA X (e :: es) t) (hdb : (x == ("__debug__" : Str)) = false := by decide)
    (he : starEach (e :: es) X.env = (false, eval e X.env) :: starEach es X.env := by rfl) (hpl : (backTo pos (starEach es X.env)).any (·.1) = false := by rfl) :
    PE X (.Call (.Name x np) (e :: es) [] pos) (tCall sp [] noE t) := by
  refine ⟨fun pins s σ H Q I h => ?_⟩
  refine wpAny_Call_Name_kw (ld_glob I hg hm ?_ hdb)
  refine PySem.W.callWith_K (h₀ := X.base) I.ok.mod.kin hk ?_ he hpl
  refine thn (ha.run pos pins s σ H _ I h) fun us s1 ⟨vs, H1, I1, r, q⟩ => ⟨I1.kIn, ?_⟩
  have q : sp vs H1 Q noE := by
    have z : sp (vs ++ []) H1 Q noE := q
    rwa [List.append_nil] at z
  have hl : (us ++ []).length = ps.length := by
    rw [List.append_nil, ← r.length]
    exact F.len _ _ _ _ q
  have bb := hb s1 us I1.kIn hl
  rw [List.append_nil] at bb
  refine wpAny_call (codeAny_mono (F.run X.A X.stack s1 H1 ⟨us, []⟩ us vs Q hr hgd I1.env0 bb r q) fun rs s2 h2 => ?_)
  cases rs with
  | error er => exact False.elim h2
  | ok fl =>
    cases fl with
    | ret u => exact I1.after h2
    | next => exact h2.elim
    | brk => exact h2.elim
    | cont => exact h2.elim
end
end L2

/-! x in o, len(o), o == x, o != x: o an instance of a class of the text -/
namespace PySem.W
open PySem PySem.Calls PyProof.Rows Builtin
section
variable {prog : Program} {w : World} {A A₀ : Around} {E : Value → Shared → Prop} {s : Shared} {K : Frag} {x C L f : Addr} {h₀ : Heap} {m : Str → Option Value} {ox : Obj} {od : Option Obj} {name : Str} {b tb : Value}
/-- != by the text's own == -/
theorem ne_K {Q : Value → Shared → Prop} (hu : A.units + 8 < cLine) (X : K.In s.heap) (I : InstAt s.heap x ox C od) (hb : Looks (model prog w) s.heap (typeOf b) tb) (hn : notFirst K C tb = true)
    (hne : findIn K (.ref C) "__ne__" = some (some (.builtin "object.__ne__"))) (hob : subIn K (.ref C) (.type "object") = some true)
    (hs : findIn K (.ref C) "__eq__" = some (some (.ref f))) (hf : isFn K (.ref f) = true)
    (h : wpAny (model prog w) A.in1 (call (.ref f) [.ref x, b]) (fun v s' => ∃ c, v = .bool c ∧ Q (.bool (!c)) s') E s) : wpAny (model prog w) A (richCompare .NotEq (.ref x) b) Q E s := by
  have sub : Looks (model prog w) s.heap (isInstance (.ref x) (.type "object")) true := I.type.andThen (looks_subIn X hob)
  have body : ∀ {R : Fin → Shared → Prop}, wpAny (model prog w) A.in1 (call (.ref f) [.ref x, b]) (fun v s' => ∃ c, v = .bool c ∧ R (.done (.ret (.bool (!c)))) s') E s →
      wpAny (model prog w) A.in1 (Builtin.«object.__ne__» ⟨[.ref x, b], []⟩) R E s := by
    intro R h
    unfold Builtin.«object.__ne__»
    refine wpAny_bind (wpAny_of_eq (a := ((Value.ref x : Value), [b])) (by first | rfl | (simp only [slotArgs]; rfl)) ?_)
    show wpAny _ _ (cRoomFor _ _ >>= _) _ _ _
    refine wpAny_bind (wpAny_cRoomFor (by show A.units + 1 < cLine; omega) ?_)
    refine wpAny_bind (m := callSpecialIfBound? (.ref x) (Str.ofString "__eq__") [b]) (ifBound_K X I hs hf (wpAny_mono h (fun v s' hv => ?_) fun _ _ e => e))
    obtain ⟨c, rfl, q⟩ := hv
    show wpAny _ _ (truthy (.bool c) >>= _) _ _ _
    exact wpAny_bind (wpAny_truthy_bool (by first | exact wpAny_pure q | exact q))
  have slot : wpAny (model prog w) A (call (.builtin "object.__ne__") [.ref x, b]) (fun v s' => ∃ c, v = .bool c ∧ Q (.bool c) s') E s := by
    refine wpAny_call (codeAny_call_builtin (by decide +kernel) F.cmpEntry_ne (@check_slot (model prog w) _ _ s "object.__ne__" "object" "__ne__" (.ref x) [b] [] _ F.cmpKind_ne F.cmpSplit_ne sub (F.cmpArgs_ne _ _) (body (wpAny_mono h (fun v s' hv => ?_) fun _ _ e => e))))
    obtain ⟨c, rfl, q⟩ := hv
    exact ⟨c, rfl, _, rfl, q⟩
  have one : wpAny (model prog w) A (tryCompare (.ref x) "__ne__" b) (fun r s' => ∃ v, r = some v ∧ Q v s') E s := by
    unfold tryCompare
    refine wpAny_bind (m := callSpecialIfBound? (.ref x) _ [b]) ?_
    simp only [callSpecialIfBound?, bindSpecialIfBound?]
    refine wpAny_holding (wpAny_bind (wpAny_bind (wpAny_bind (I.type.here ((looks_findIn X hne).here ?_)))))
    have bnd : bindSpecial (.builtin "object.__ne__") (.ref x) = pure (.builtin "object.__ne__", [.ref x]) := by kernel_rfl
    have fin : wpAny (model prog w) A (call (.builtin "object.__ne__") ([.ref x] ++ [b]) >>= fun v => pure (some v)) (fun r s' => wpAny (model prog w) A (match r with | some .notImplemented | none => pure none | some v => pure (some v)) (fun r s' => ∃ v, r = some v ∧ Q v s') E s') E s := by
      refine wpAny_bind (wpAny_mono slot (fun v s' hv => ?_) fun _ _ e => e)
      obtain ⟨c, rfl, q⟩ := hv
      exact wpAny_pure (wpAny_pure ⟨_, rfl, q⟩)
    simp only [bnd]
    refine wpAny_bind (wpAny_askSetting (wpAny_ite ?_))
    split
    · exact wpAny_bind (wpAny_pure (wpAny_pure (by exact fin)))
    · exact wpAny_tryCatch (wpAny_bind (wpAny_pure (wpAny_pure (by exact fin))))
  unfold richCompare
  simp only [oneThing_ref]
  refine wpAny_holding (wpAny_bind (wpAny_cRoomFor (by omega) ?_))
  refine wpAny_bind (I.type.here (wpAny_bind (hb.here ?_)))
  split
  · rename_i q
    have e : subIn K tb (.ref C) = some false := by
      rcases Bool.or_eq_true_iff.mp hn with e | e
      · rw [beq_iff_eq.mp e] at q; simp at q
      · exact beq_iff_eq.mp e
    refine wpAny_bind ((looks_subIn X e).here ?_)
    simp only [Bool.false_eq_true, if_false]
    refine wpAny_bind (wpAny_mono one (fun r s' z => ?_) fun _ _ e => e)
    obtain ⟨v, rfl, hq⟩ := z
    exact wpAny_pure hq
  · refine wpAny_bind (wpAny_pure ?_)
    simp only [Bool.false_eq_true, if_false]
    refine wpAny_bind (wpAny_mono one (fun r s' z => ?_) fun _ _ e => e)
    obtain ⟨v, rfl, hq⟩ := z
    exact wpAny_pure hq
end
end PySem.W
namespace L2
open PySem PySem.Spec PyProof.Rows
section
variable {X : Cx} {CX : CXT} {k : Nat} {f C : Addr} {fd : FuncData} {ps : List Str} {sp : Sp}
theorem call_vals (F : FnOk X.prog X.w X.K X.mg X.base CX k f fd ps sp) (hb : Binds X.K fd ps []) (hx : Passes CX X noE) {A : Around} (hr : Room k A) (hA : A.frames = X.A.frames)
    {pins : List (Addr × Obj)} {s : Shared} {σ : St} {H : Hp} {vs : List V} {us : List Value} {Q : VK} (I : Inv X pins σ H s) (r : Vals vs us) (h : sp vs H Q noE) :
    wpAny (model X.prog X.w) A (call (.ref f) us) (EP X pins σ Q) X.xe s := by
  have e0 : Env0 X.prog X.w X.K X.mg X.base A X.stack s H := by
    have e := I.env0
    exact ⟨by rw [hA]; exact e.frames, e.mod, e.bs, e.bsz, e.funs, e.frf, e.hok, e.bare⟩
  have hl := F.len _ _ _ _ h
  refine wpAny_call (codeAny_mono (F.run A X.stack s H ⟨us, []⟩ us vs Q noE hr e0 (by
    have := hb s us I.kIn (by rw [List.append_nil, ← r.length]; exact hl)
    rwa [List.append_nil] at this) r h) fun r s' hq => ?_)
  cases r with
  | error e => exact hx pins σ H s e s' I hq
  | ok fl =>
    cases fl with
    | ret w => exact I.after hq
    | next => exact False.elim hq
    | brk => exact False.elim hq
    | cont => exact False.elim hq
/-- what answers a bool -/
abbrev blQ (Q : VK) (g : Bool → Bool) : VK := fun r H' => ∃ b, r = .bl b ∧ Q (.bl (g b)) H'
def rInO (C : Addr) (sp : Sp) (g : Bool → Bool) : R2 := fun x y H Q => ∃ o dx fs, y = .ref o ∧ H o = some (.ins C dx fs) ∧ sp [.ref o, x] H (blQ Q g) noE
theorem op_inO (F : FnOk X.prog X.w X.K X.mg X.base CX k f fd ps sp) (hb : Binds X.K fd ps []) (hx : Passes CX X noE) (hr : Room k X.A)
    (hs : PySem.W.findIn X.K (.ref C) "__contains__" = some (some (.ref f))) (hf : PySem.W.isFn X.K (.ref f) = true) : OpR X (compareOp .In) (rInO C sp id) := by
  intro pins s σ H x y v u Q I rx ry h
  obtain ⟨o, dx, fs, rfl, ho, q⟩ := h
  obtain rfl : u = Value.ref o := ry
  obtain ⟨mA, J, _⟩ := ins_get I.hok ho
  obtain ⟨od, J, _⟩ := J.look
  obtain ⟨m, hF⟩ := I.fr
  refine PySem.W.in_K hF I.ok.mod.kin J hs hf (wpAny_mono (call_vals F hb hx hr rfl I (.cons (F := RelV) (a := V.ref o) rfl (.cons rx .nil)) q) (fun r s' z => ?_) fun _ _ z => z)
  obtain ⟨v, H', I', rv, b, rfl, q⟩ := z
  obtain rfl : r = Value.bool b := rv
  exact wpAny_truthy_bool ⟨.bl b, H', I', rfl, q⟩
theorem op_notInO (F : FnOk X.prog X.w X.K X.mg X.base CX k f fd ps sp) (hb : Binds X.K fd ps []) (hx : Passes CX X noE) (hr : Room k X.A)
    (hs : PySem.W.findIn X.K (.ref C) "__contains__" = some (some (.ref f))) (hf : PySem.W.isFn X.K (.ref f) = true) : OpR X (compareOp .NotIn) (rInO C sp not) := by
  intro pins s σ H x y v u Q I rx ry h
  obtain ⟨o, dx, fs, rfl, ho, q⟩ := h
  obtain rfl : u = Value.ref o := ry
  obtain ⟨mA, J, _⟩ := ins_get I.hok ho
  obtain ⟨od, J, _⟩ := J.look
  obtain ⟨m, hF⟩ := I.fr
  refine PySem.W.notIn_K hF I.ok.mod.kin J hs hf (wpAny_mono (call_vals F hb hx hr rfl I (.cons (F := RelV) (a := V.ref o) rfl (.cons rx .nil)) q) (fun r s' z => ?_) fun _ _ z => z)
  obtain ⟨v, H', I', rv, b, rfl, q⟩ := z
  obtain rfl : r = Value.bool b := rv
  exact wpAny_truthy_bool ⟨.bl (!b), H', I', rfl, q⟩
/-- len(o) -/
theorem call_lenO (F : FnOk X.prog X.w X.K X.mg X.base CX k f fd ps sp) (hb : Binds X.K fd ps []) (hx : Passes CX X noE) (hr : Room (k + 1) X.A)
    (hs : PySem.W.findIn X.K (.ref C) "__len__" = some (some (.ref f))) (hf : PySem.W.isFn X.K (.ref f) = true) :
    CallR X (.builtin "len") (fun xs H Q => ∃ o dx fs, xs = [.ref o] ∧ H o = some (.ins C dx fs) ∧ sp [.ref o] H (fun r H' => ∃ n : Int, r = .int n ∧ 0 ≤ n ∧ n < 2 ^ 63 ∧ Q (.int n) H') noE) := by
  intro pins s σ H xs us Q I r h
  obtain ⟨o, dx, fs, rfl, ho, q⟩ := h
  obtain ⟨u, rfl, ru⟩ := vals1 r
  obtain rfl : u = Value.ref o := ru
  obtain ⟨mA, J, _⟩ := ins_get I.hok ho
  obtain ⟨od, J, _⟩ := J.look
  obtain ⟨m, hF⟩ := I.fr
  refine PySem.W.len_K hF I.ok.mod.kin J hs hf (wpAny_mono (call_vals F hb hx hr.in1 rfl I (.cons (F := RelV) (a := V.ref o) rfl .nil) q) (fun r s' z => ?_) fun _ _ z => z)
  obtain ⟨v, H', I', rv, n, rfl, h0, h1, q⟩ := z
  obtain ⟨t, rfl⟩ : ∃ t, r = Value.int n t := rv
  exact ⟨⟨h0, h1⟩, .int n, H', I'.tok _, ⟨_, rfl⟩, q⟩
/-- == and != of such an object and anything whose class is known -/
def rEqO (K : PySem.W.Frag) (C : Addr) (sp : Sp) (g : Bool → Bool) : R2 := fun x y H Q => ∃ o dx fs, x = .ref o ∧ H o = some (.ins C dx fs) ∧
  ((∃ t, TyX K H y t ∧ PySem.W.notFirst K C t = true) ∨ ∃ o' dx' fs', y = .ref o' ∧ H o' = some (.ins C dx' fs')) ∧ sp [.ref o, y] H (blQ Q g) noE
theorem eq_looks {pins : List (Addr × Obj)} {s : Shared} {σ : St} {H : Hp} {y : V} {u : Value} (I : Inv X pins σ H s) (ry : RelV y u)
    (h : (∃ t, TyX X.K H y t ∧ PySem.W.notFirst X.K C t = true) ∨ ∃ o' dx' fs', y = .ref o' ∧ H o' = some (.ins C dx' fs')) :
    ∃ t, PySem.W.Looks (model X.prog X.w) s.heap (typeOf u) t ∧ PySem.W.notFirst X.K C t = true := by
  rcases h with ⟨t, ty, n⟩ | ⟨o', dx', fs', rfl, ho'⟩
  · obtain ⟨P, kx, hp, _⟩ := kit_of I ry ty
    exact ⟨t, kx.ty _ _ I.kIn hp, n⟩
  · obtain rfl : u = Value.ref o' := ry
    obtain ⟨mA, J, _⟩ := ins_get I.hok ho'
    obtain ⟨od, J, _⟩ := J.look
    exact ⟨_, J.type, by simp [PySem.W.notFirst]⟩
theorem op_eqO (F : FnOk X.prog X.w X.K X.mg X.base CX k f fd ps sp) (hb : Binds X.K fd ps []) (hx : Passes CX X noE) (hr : Room (k + 1) X.A)
    (hs : PySem.W.findIn X.K (.ref C) "__eq__" = some (some (.ref f))) (hf : PySem.W.isFn X.K (.ref f) = true) : OpR X (compareOp .Eq) (rEqO X.K C sp id) := by
  intro pins s σ H x y v u Q I rx ry h
  obtain ⟨o, dx, fs, rfl, ho, hy, q⟩ := h
  obtain rfl : v = Value.ref o := rx
  obtain ⟨t, L, n⟩ := eq_looks I ry hy
  obtain ⟨mA, J, _⟩ := ins_get I.hok ho
  obtain ⟨od, J, _⟩ := J.look
  obtain ⟨m, hF⟩ := I.fr
  refine PySem.W.cmp_K (op := .Eq) hr.units0 hF I.ok.mod.kin J L n hs hf (wpAny_mono (call_vals F hb hx (hr.mono (Nat.le_succ _)) rfl I (.cons (F := RelV) (a := V.ref o) rfl (.cons ry .nil)) q) (fun r s' z => ?_) fun _ _ z => z)
  obtain ⟨v, H', I', rv, b, rfl, q⟩ := z
  obtain rfl : r = Value.bool b := rv
  exact ⟨.bl b, H', I', rfl, q⟩
theorem op_neO (F : FnOk X.prog X.w X.K X.mg X.base CX k f fd ps sp) (hb : Binds X.K fd ps []) (hx : Passes CX X noE) (hr : Room (k + 1) X.A)
    (hs : PySem.W.findIn X.K (.ref C) "__eq__" = some (some (.ref f))) (hf : PySem.W.isFn X.K (.ref f) = true)
    (hne : PySem.W.findIn X.K (.ref C) "__ne__" = some (some (.builtin "object.__ne__"))) (hob : PySem.W.subIn X.K (.ref C) (.type "object") = some true) : OpR X (compareOp .NotEq) (rEqO X.K C sp not) := by
  intro pins s σ H x y v u Q I rx ry h
  obtain ⟨o, dx, fs, rfl, ho, hy, q⟩ := h
  obtain rfl : v = Value.ref o := rx
  obtain ⟨t, L, n⟩ := eq_looks I ry hy
  obtain ⟨mA, J, _⟩ := ins_get I.hok ho
  obtain ⟨od, J, _⟩ := J.look
  refine PySem.W.ne_K (by have := hr.un; omega) I.kIn J L n hne hob hs hf (wpAny_mono (call_vals F hb hx hr.in1 rfl I (.cons (F := RelV) (a := V.ref o) rfl (.cons ry .nil)) q) (fun r s' z => ?_) fun _ _ z => z)
  obtain ⟨v, H', I', rv, b, rfl, q⟩ := z
  obtain rfl : r = Value.bool b := rv
  exact ⟨b, rfl, .bl (!b), H', I', rfl, q⟩
end
end L2

/-! list comprehensions, whether or not an exception is handled -/
namespace L2
open PySem PySem.Spec PyProof.Rows
open L2H (RoomH Hot1 PinOk)
open HotX (HotAt)
/-- at a heap: nothing is handled, or an exception without a context -/
def WarmH (A : Around) (h : Heap) : Prop := A.handled = none ∨ ∃ x1, HotAt A x1 h
/-- an iterator that goes and ends so -/
structure TurnW (P : Program) (w : World) (K : PySem.W.Frag) (tg : Expr) (J : It) (fp : List Addr) (it : Addr) (tn : Nat → Heap → Prop) : Prop where
  obj : ∀ i h, tn i h → ∀ b ∈ fp, ∃ o, h.get? b = some o ∧ ∀ v, o.data ≠ .cell v
  keep : ∀ i h h', tn i h → (∀ b ∈ fp, ∀ o, h.get? b = some o → h'.get? b = some o) → tn i h'
  item : ∀ (X : Cx), X.prog = P → X.w = w → X.K = K → ∀ (i : Nat) (pins : List Pin) (s : Shared) (σ : St) (H : Hp) (E : Value → Shared → Prop),
    WarmH X.A s.heap → Inv X pins σ H s → (∀ b ∈ fp, FpOk X pins H b) → tn i s.heap → J.go i H →
    wpAny (model P w) X.A (pyNext (.ref it)) (fun r s1 => ∃ u, r = some u ∧ wpAny (model P w) X.A (letOwnedTupleGo tg (.ref it) u)
      (fun _ s2 => ∃ x H', Inv X pins σ H' s2 ∧ RelV x u ∧ J.yld i H x H' ∧ tn (i + 1) s2.heap ∧ ∀ b ∈ fp, H' b = none) E s1) E s
  done : ∀ (X : Cx), X.prog = P → X.w = w → X.K = K → ∀ (i : Nat) (pins : List Pin) (s : Shared) (σ : St) (H : Hp) (E : Value → Shared → Prop),
    WarmH X.A s.heap → Inv X pins σ H s → (∀ b ∈ fp, FpOk X pins H b) → tn i s.heap → J.stop i H →
    wpAny (model P w) X.A (pyNext (.ref it)) (fun r s1 => r = none ∧ Inv X pins σ H s1) E s
  self : ∀ (A : Around) (i : Nat) (s : Shared) (Q : Value → Shared → Prop) (E : Value → Shared → Prop), tn i s.heap → Q (.ref it) s → wpAny (model P w) A (pyIter (.ref it)) Q E s
theorem turn_rangeW {P : Program} {w : World} {K : PySem.W.Frag} {tg : Expr} (it : Addr) (lo : Int) (n : Nat) :
    TurnW P w K tg (Itr lo n) [it] it (fun i h => IsRangeIter h it (lo + (i : Nat) * 1) ((n : Int) - (i : Nat)) 1) where
  obj := fun i h st b hb => by
    obtain rfl : b = it := by simpa using hb
    refine ⟨_, st, fun v z => ?_⟩
    have z1 : Data.fields _ = Data.cell v := z
    cases z1
  keep := fun i h h1 st k => k it (by simp) _ st
  item := by
    rintro X rfl rfl rfl i pins s σ H E hw I hf st hg
    obtain ⟨f0, f1, f2, f3, f4, f5⟩ := hf it (by simp)
    have lt : i < n := hg
    refine wpAny_pyNext_range_item st (by omega) fun h1 st1 sb => ?_
    have st2 : IsRangeIter h1 it (lo + ((i + 1 : Nat) : Int) * 1) ((n : Int) - ((i + 1 : Nat) : Int)) 1 := by
      have a1 : lo + ((i + 1 : Nat) : Int) * 1 = lo + ((i : Nat) : Int) * 1 + 1 := by omega
      have a2 : (n : Int) - ((i + 1 : Nat) : Int) = (n : Int) - ((i : Nat) : Int) - 1 := by omega
      rw [a1, a2]
      exact st1
    have I1 : Inv X pins σ H { s with heap := h1, toks := s.toks + 1 } :=
      I.turned (fun b o hb e => (sb.2 b hb).trans e) f0 f1 f3 f4 f5
    refine ⟨_, rfl, go_of (s := { s with heap := h1, toks := s.toks + 1 }) (n := "range_iterator") st2 rfl rfl (by decide) ?_⟩
    refine ⟨.int (lo + i), H, I1, ⟨s.toks, ?_⟩, ⟨rfl, rfl⟩, st2, fun b hb => (hf b hb).1⟩
    rw [Int.mul_one]
  done := by
    rintro X rfl rfl rfl i pins s σ H E hw I hf st hg
    obtain ⟨f0, f1, f2, f3, f4, f5⟩ := hf it (by simp)
    have le : n ≤ i := hg
    have z : (n : Int) - (i : Nat) ≤ 0 := by omega
    rcases hw with hw | ⟨x1, hot⟩
    · exact wpAny_pyNext_range_end hw st z fun h1 eb => ⟨rfl, I.turned (t' := s.toks) (fun b o hb e => eb b o hb e) f0 f1 f3 f4 f5⟩
    · exact HotX.pyNext_range_end_hot hot st z fun h1 eb => ⟨rfl, I.turned (t' := s.toks) (fun b o _ e => eb b o e) f0 f1 f3 f4 f5⟩
  self := fun _ _ _ _ _ st h => wpAny_pyIter_rangeiter st h
def PIEW (X : Cx) (pins : List Pin) (σ : St) (tg : Expr) (R : It → Hp → Prop) (itv : Value) (s2 : Shared) : Prop :=
  ∃ (it : Addr) (fp : List Addr) (tn : Nat → Heap → Prop) (J : It) (H' : Hp), itv = .ref it ∧ Inv X pins σ H' s2 ∧
    TurnW X.prog X.w X.K tg J fp it tn ∧ tn 0 s2.heap ∧ (∀ b ∈ fp, FpOk X pins H' b) ∧ R J H'
structure PIW (X : Cx) (tg iter : Expr) (wi : TI) : Prop where
  run : ∀ (pins : List Pin) (s : Shared) (σ : St) (H : Hp) (R : It → Hp → Prop), Inv X pins σ H s → wi σ H R →
    wpAny (model X.prog X.w) X.A (eval iter X.env) (fun v s1 => wpAny (model X.prog X.w) X.A (pyIter v) (PIEW X pins σ tg R) X.xe s1) X.xe s
section
variable {X : Cx} {tg : Expr}
theorem range_itW {pins : List Pin} {σ : St} {H : Hp} {s : Shared} {R : It → Hp → Prop} {E : Value → Shared → Prop} {lo hi : Int} {t u v : Tok} {tk : Nat}
    (I : Inv X pins σ H s) (h1 : -(2 ^ 62) ≤ lo) (h2 : lo < 2 ^ 62) (h3 : -(2 ^ 62) ≤ hi) (h4 : hi < 2 ^ 62) (q : R (Itr lo (hi - lo).toNat) H) :
    wpAny (model X.prog X.w) X.A (pyIter (.ref s.heap.objs.size)) (PIEW X pins σ tg R) E
      { s with heap := s.heap.push { cls := .type "range", data := .fields #[.int lo t, .int hi u, .int 1 v] }, toks := tk } := by
  generalize hro : ({ cls := .type "range", data := .fields #[.int lo t, .int hi u, .int 1 v] } : Obj) = ro
  have isR : IsRange (s.heap.push ro) s.heap.objs.size lo hi 1 t u v := by
    rw [← hro]
    exact IsRange.new ..
  refine wpAny_pyIter_range isR (small_one h1 h2 h3 h4) ?_
  have I1 : Inv X pins σ H { s with heap := s.heap.push ro, toks := tk } := I.kept fun b o e => Heap.get?_push_of_some _ e
  refine ⟨(s.heap.push ro).objs.size, [(s.heap.push ro).objs.size], _, _, H, rfl, I1.kept (t' := tk) fun b o e => Heap.get?_push_of_some _ e,
    turn_rangeW _ lo (hi - lo).toNat, ?_, fun b hb => ?_, q⟩
  · have a1 : lo + ((0 : Nat) : Int) * 1 = lo := by simp
    have a2 : (((hi - lo).toNat : Nat) : Int) - ((0 : Nat) : Int) = Builtin.Range.rangeSize lo hi 1 := by
      rw [rangeSize_one]
      split <;> omega
    show IsRangeIter _ _ (lo + ((0 : Nat) : Int) * 1) ((((hi - lo).toNat : Nat) : Int) - ((0 : Nat) : Int)) 1
    rw [a1, a2]
    exact Heap.get?_push_size _ rfl
  · obtain rfl : b = (s.heap.push ro).objs.size := by simpa using hb
    exact I1.fpOk (Nat.le_refl _) (I1.hok.fresh (Nat.le_refl _))
theorem pi_range1W {a : Expr} {ta : TA} {p pos : Pos} (hg : Gl X "range") (hm : X.mg "range" = none) (ha : PA X [a] ta)
    (hs : starEach [a] X.env = [(false, eval a X.env)] := by rfl) : PIW X tg (.Call (.Name "range" p) [a] [] pos) (iRng1 ta) := by
  refine ⟨fun pins s σ H R I h => ?_⟩
  refine Call_ (ld_blt I hg hm boot_range (PyProof.Rows.callWith_type1 ?_ hs rfl))
  refine thn (ha.run pos pins s σ H _ I h) fun us s1 ⟨vs, H1, I1, r1, j, e, q1, q2, q⟩ => ?_
  subst e
  obtain ⟨y, rfl, ry⟩ := vals1 r1
  obtain ⟨tk, rfl⟩ : ∃ tk, y = Value.int j tk := ry
  exact call_range_1 (range_itW I1 (by omega) (by omega) q1 q2 (by simpa using q))
end
end L2

namespace L2
open PySem PySem.Spec PyProof.Rows
open L2H (RoomH Hot1 PinOk)
section
variable {X : Cx} {p : Pin}
theorem WarmC.at (c : WarmC X p) {h : Heap} (g : h.get? p.1 = some p.2) : WarmH X.A h := by
  rcases c.warm with z | ⟨z, vs, h1, h2⟩
  · exact .inl z
  · exact .inr ⟨p.1, z, p.2, vs, g, h1, h2⟩
theorem lcW_core {pins : List Pin} {s : Shared} {σ : St} {H : Hp} {Q : VK} {elt tg iter : Expr} {ifs : List Expr} {scope : Scope} {own : List (Str × Nat)}
    {pos pos1 : Pos} {wi : TI} {g : TG} {tt : TT} {te : TE} {use : Option (Value → Sem Unit)} {Qf : Value → Shared → Prop} (wc : WarmC X p)
    (hN : X.N.Nodup) (I : Inv X pins σ H s) (hi : PIW X tg iter wi) (ok : BlkOk X.N X.env.scope scope own)
    (hg : ∀ (s : Shared) (H : Hp) (C : Addr) (cl : List (Str × Addr)) (fp : List Addr), PG (X.blk s H scope (compEnvC scope cl C X.env) fp) tg g)
    (ht : ∀ (s : Shared) (H : Hp) (C : Addr) (cl : List (Str × Addr)) (fp : List Addr), PTs (X.blk s H scope (compEnvC scope cl C X.env) fp) ifs tt)
    (he : ∀ (s : Shared) (H : Hp) (C : Addr) (cl : List (Str × Addr)) (fp : List Addr), PE (X.blk s H scope (compEnvC scope cl C X.env) fp) elt te)
    (hs : ∀ x, foldedSetIterable iter X.env x = pure x) (h : tLc wi g tt te (own.map (·.2)) σ H Q)
    (back : ∀ D C s1 m H1, Inv X pins σ H1 s1 → Q (.ref D) H1 → s1.heap.Ns C m → FpOk X pins H1 C →
      compPost (model X.prog X.w) X.A X.xe use Qf (.ref D) C (.ok .next) s1) :
    wpAny (model X.prog X.w) X.A (comprehension (.ListComp elt [⟨tg, iter, ifs, 0⟩] scope pos) scope X.env pos1 (newList []) false (eval iter X.env) use) Qf X.xe s := by
  have frees : ∀ y ∈ scope.names, y.2 = .free → ∃ c, X.env.cells.lookup y.1 = some c := by
    intro y hy e
    exact (ok.free y hy e).elim (fun k => I.ok.has _ (.inl k)) fun k => I.ok.has _ (.inr k)
  refine wpAny_comprehension_free (use := use) rfl hs (closure_ok frees) ok.kind (fun y hy e => by rw [ok.uniq y hy, e]) ?_
  refine thn (hi.run pins s σ H _ I h) fun xv s1 hx => thn hx fun itv s2 h2 => ?_
  obtain ⟨it, fp, tn, J, H2, e, I2, T, st2, f2, q⟩ := h2
  subst e
  refine wpAny_newObj_type (newEnv_comp ?_) (by show 0 ≤ sizeLine; decide)
  generalize hD : s2.heap.objs.size = D
  have freeD : H2 D = none := I2.hok.fresh (Nat.le_of_eq hD)
  obtain ⟨W, ⟨m0, w0⟩, turn⟩ := q D freeD
  generalize hs3 : ({ s2 with heap := s2.heap.push { cls := .type "list", data := .seq ([] : List Value).toArray } } : Shared) = s3
  have heap3 : s3.heap = s2.heap.push { cls := .type "list", data := .seq ([] : List Value).toArray } := by
    rw [← hs3]
  have I3 : Inv X pins σ (upd H2 D (.lst [])) s3 := by
    rw [← hs3]
    refine I2.laid (t' := s2.toks) (fun b o e => Heap.get?_push_of_some _ e) (Nat.le_of_eq hD) ?_
    refine ⟨Nat.zero_le _, [], 0, .nil, ?_⟩
    rw [← hD]
    exact Heap.get?_push_size _ rfl
  have lts : ∀ b ∈ fp, b < s2.heap.objs.size := by
    intro b hb
    obtain ⟨o, e, _⟩ := T.obj _ _ st2 b hb
    exact Heap.lt_size e
  have f3 : ∀ b ∈ fp, FpOk X pins (upd H2 D (.lst [])) b ∧ b < s3.heap.objs.size := by
    intro b hb
    have lt := lts b hb
    refine ⟨⟨?_, (f2 b hb).2⟩, ?_⟩
    · rw [upd_ne (by rw [← hD]; exact Nat.ne_of_lt lt)]
      exact (f2 b hb).1
    · rw [heap3, Heap.size_push]
      exact Nat.lt_succ_of_lt lt
  have st3 : tn 0 s3.heap := T.keep _ _ _ st2 fun b _ o e => by
    rw [heap3]
    exact Heap.get?_push_of_some _ e
  have I4 := block_start I3 ok hN f3
  generalize hcl : cellsFrom (s3.heap.objs.size + 1) scope.names (cloFrom X.env.cells scope.names []) = cl at I4
  have pg := hg s3 (upd H2 D (.lst [])) s3.heap.objs.size cl fp
  have pt := ht s3 (upd H2 D (.lst [])) s3.heap.objs.size cl fp
  have pe := he s3 (upd H2 D (.lst [])) s3.heap.objs.size cl fp
  show codeAny _ _ (.compStart (.ListComp elt [⟨tg, iter, ifs, 0⟩] scope pos) 0 (.ref it) (.ref D) (compEnvC scope cl s3.heap.objs.size X.env))
    (compPost (model X.prog X.w) X.A X.xe use Qf (.ref D) s3.heap.objs.size)
    { s3 with heap := pushCells (s3.heap.push { cls := .type "dict", data := .dict #[] }) scope.names }
  have nofp : ∀ b ∈ fp, (upd H2 D (.lst [])) b = none := fun b hb => (f3 b hb).1.1
  generalize hce : compEnvC scope cl s3.heap.objs.size X.env = ce at I4 pg pt pe ⊢
  have locC : ce.locals = s3.heap.objs.size := by
    subst hce
    rfl
  generalize hH3 : upd H2 D (.lst []) = H3 at I3 I4 pg pt pe w0 nofp f3
  generalize hs4 : ({ s3 with heap := pushCells (s3.heap.push { cls := .type "dict", data := .dict #[] }) scope.names } : Shared) = s4 at I4 ⊢
  have st4 : tn 0 s4.heap := T.keep _ _ _ st3 fun b _ o e => by
    rw [← hs4]
    exact pushCells_keeps _ _ _ _ (Heap.get?_push_of_some _ e)
  -- the handled exception stays within the block
  obtain ⟨g1, g2, g3, g4, g5⟩ := I3.pin p (List.mem_append_left _ wc.mem)
  have ns : p.1 ∉ frs X.stack := fun hm => by
    rcases List.mem_cons.mp (I3.stkSub _ hm) with z | z
    · exact g3 z
    · exact g4 z
  have nf : p.1 ∉ fp := fun hm => (f3 _ hm).1.2.2.2.2.2 p (List.mem_append_left _ wc.mem) rfl
  have warm : ∀ {pn1 : List Pin} {σ1 : St} {H1 : Hp} {s1 : Shared}, Inv (X.blk s3 H3 scope ce fp) pn1 σ1 H1 s1 → WarmH (X.blk s3 H3 scope ce fp).A s1.heap := by
    intro pn1 σ1 H1 s1 J
    exact wc.at (J.base.keep p.1 p.2 g1 g2 ns nf)
  have stat : ∀ {σ1 : St} {H1 : Hp} {s1 : Shared}, Inv (X.blk s3 H3 scope ce fp) [] σ1 H1 s1 → (∀ b ∈ fp, H1 b = none) →
      ∀ b ∈ fp, FpOk (X.blk s3 H3 scope ce fp) [] H1 b := by
    intro σ1 H1 s1 J hn b hb
    refine ⟨hn b hb, (J.ok.exf b hb).1, J.ok.exfs b hb, .inl hb, fun x c e => (J.ok.exf b hb).2 x c e, fun q hq => ?_⟩
    have z : q ∈ ([] : List Pin) ++ [] := hq
    simp at z
  refine codeAny_compStart_list ?loop (T.self X.A 0 _ _ _ st4 ?loop2)
  case loop2 => exact ?loop
  refine compLoop_any (fun n s1 => ∃ i H1, Inv (X.blk s3 H3 scope ce fp) [] (wipe σ (own.map (·.2))) H1 s1 ∧ tn i s1.heap ∧ (∀ b ∈ fp, H1 b = none) ∧ W i n H1)
    ?_ m0 ⟨0, H3, I4, st4, nofp, w0⟩
  rintro n s5 ⟨i, H5, I5, st5, n5, w5⟩
  rcases turn i n H5 w5 with ⟨stop, qq⟩ | ⟨go, Nx, hNx, step⟩
  · refine thnF (T.done (X.blk s3 H3 scope ce fp) rfl rfl rfl i [] s5 _ H5 (fun _ _ => False) (warm I5) I5 (stat I5 n5) st5 stop) fun r s6 ⟨hr, I6⟩ => ?_
    subst hr
    have I7 : Inv X pins σ H5 s6 := I3.call' (ch := fp) I6.os I6.base I6.hok I6.bare fun b hb =>
      ⟨(f3 b hb).1.2.2.2.1, (f3 b hb).1.2.1, (f3 b hb).1.2.2.2.2.1, (f3 b hb).1.2.2.2.2.2⟩
    have nC : H5 s3.heap.objs.size = none := by
      have z : H5 ce.locals = none := I6.free
      rwa [locC] at z
    obtain ⟨m, hn, _⟩ := I6.loc
    have hn1 : s6.heap.Ns ce.locals m := hn
    rw [locC] at hn1
    exact back D s3.heap.objs.size s6 m H5 I7 qq hn1 (I3.fpOk (Nat.le_refl _) nC)
  · refine thnF (T.item (X.blk s3 H3 scope ce fp) rfl rfl rfl i [] s5 _ H5 (fun _ _ => False) (warm I5) I5 (stat I5 n5) st5 go) fun r s6 ⟨u, hr, h6⟩ => ?_
    subst hr
    refine thnF h6 fun _ s7 ⟨x, H7, I7, r7, y7, st7, n7⟩ => ?_
    have P7 := I7.pinned (stat I7 n7) (T.obj _ _ st7)
    refine thnF (pg.run _ s7 _ H7 x u _ P7 r7 (step x H7 y7)) fun _ s8 ⟨σ8, H8, I8, hw8, q8⟩ => ?_
    refine thnF (pt.run _ s8 σ8 H8 _ I8 q8) fun b s9 ⟨H9, I9, q9⟩ => ?_
    have fin : ∀ {s1 : Shared} {H1 : Hp}, Inv (X.blk s3 H3 scope ce fp) ([] ++ pinsAt fp s7.heap) σ8 H1 s1 → Nx H1 → ∃ m, m < n ∧
        ∃ i H1, Inv (X.blk s3 H3 scope ce fp) [] (wipe σ (own.map (·.2))) H1 s1 ∧ tn i s1.heap ∧ (∀ b ∈ fp, H1 b = none) ∧ W i m H1 := by
      intro s1 H1 J nx
      obtain ⟨m1, hm, w1⟩ := hNx H1 nx
      have kept : ∀ b ∈ fp, ∀ o, s7.heap.get? b = some o → s1.heap.get? b = some o ∧ H1 b = none := by
        intro b hb o e
        have z := J.pin (b, o) (List.mem_append_right _ (List.mem_append_right _ (mem_pinsAt hb e)))
        exact ⟨z.1, z.2.1⟩
      have hl : (wipe σ (own.map (·.2))).length = σ8.length := by
        rw [← hw8, wipe_length]
      refine ⟨m1, hm, i + 1, H1, (J.unpinned (pins := [])).weak hl (fun j v e => ?_), ?_, fun b hb => ?_, w1⟩
      · rw [← hw8] at e
        exact (wipe_some e).1
      · exact T.keep _ _ _ st7 fun b hb o e => (kept b hb o e).1
      · obtain ⟨o, e, _⟩ := T.obj _ _ st7 b hb
        exact (kept b hb o e).2
    cases b with
    | false =>
      simp only [Bool.false_eq_true, if_false] at q9 ⊢
      exact fin I9 q9
    | true =>
      simp only [if_true] at q9 ⊢
      refine thnF (pe.run _ s9 σ8 H9 _ I9 q9) fun z s10 ⟨yv, H10, I10, r10, acc, hD10, hz10, nx⟩ => ?_
      exact app_ok (X := X.blk s3 H3 scope ce fp) I10 hD10 hz10 r10 fun s11 I11 => fin I11 nx
/-- as a value -/
theorem pe_lcW {elt tg iter : Expr} {ifs : List Expr} {scope : Scope} {own : List (Str × Nat)} {pos : Pos} {wi : TI} {g : TG} {tt : TT} {te : TE} (wc : WarmC X p)
    (hN : X.N.Nodup) (hi : PIW X tg iter wi) (ok : BlkOk X.N X.env.scope scope own)
    (hg : ∀ (s : Shared) (H : Hp) (C : Addr) (cl : List (Str × Addr)) (fp : List Addr), PG (X.blk s H scope (compEnvC scope cl C X.env) fp) tg g)
    (ht : ∀ (s : Shared) (H : Hp) (C : Addr) (cl : List (Str × Addr)) (fp : List Addr), PTs (X.blk s H scope (compEnvC scope cl C X.env) fp) ifs tt)
    (he : ∀ (s : Shared) (H : Hp) (C : Addr) (cl : List (Str × Addr)) (fp : List Addr), PE (X.blk s H scope (compEnvC scope cl C X.env) fp) elt te)
    (hs : ∀ x, foldedSetIterable iter X.env x = pure x := by intro _; rfl) :
    PE X (.ListComp elt [⟨tg, iter, ifs, 0⟩] scope pos) (tLc wi g tt te (own.map (·.2))) := by
  refine ⟨fun pins s σ H Q I h => ?_⟩
  rw [eval_ListComp]
  refine lcW_core wc hN I hi ok hg ht he hs h fun D C s1 m H1 J q hn f => ⟨m, hn, fun h2 sb => ?_⟩
  obtain ⟨f0, f1, f2, f3, f4, f5⟩ := f
  exact ⟨.ref D, H1, J.turned (t' := s1.toks) (fun b o hb e => (sb.2 b hb).trans e) f0 f1 f3 f4 f5, rfl, q⟩
end
end L2

/-! repr of what is made of None, bools, ints, texts, lists, tuples, dicts -/
namespace L2
open PySem PySem.Spec PyProof.Rows
mutual
/-- the value v is the data d, all of whose objects are tracked -/
inductive Rdd (H : Hp) : V → PyData → Prop
  | non : Rdd H .non .none
  | bl (b) : Rdd H (.bl b) (.bool b)
  | int (i) : Rdd H (.int i) (.int i)
  | str (x) : Rdd H (.str x) (.str x)
  | lst {a xs ds} : H a = some (.lst xs) → RddAll H xs ds → Rdd H (.ref a) (.list ds)
  | tup {a xs ds} : H a = some (.tup xs) → RddAll H xs ds → Rdd H (.ref a) (.tuple ds)
  | dK {a kvs ds} : H a = some (.dK kvs) → RddAll H (kvs.map fun p => kV p.1) (ds.map (·.1)) → RddAll H (kvs.map (·.2)) (ds.map (·.2)) → Rdd H (.ref a) (.dict ds)
inductive RddAll (H : Hp) : List V → List PyData → Prop
  | nil : RddAll H [] []
  | cons {v d vs ds} : Rdd H v d → RddAll H vs ds → RddAll H (v :: vs) (d :: ds)
end
mutual
theorem Rdd.mono {H H' : Hp} (k : ∀ b o, H b = some o → H' b = some o) : ∀ {v : V} {d : PyData}, Rdd H v d → Rdd H' v d
  | _, _, .non => .non
  | _, _, .bl b => .bl b
  | _, _, .int i => .int i
  | _, _, .str x => .str x
  | _, _, .lst h r => .lst (k _ _ h) (RddAll.mono k r)
  | _, _, .tup h r => .tup (k _ _ h) (RddAll.mono k r)
  | _, _, .dK h r q => .dK (k _ _ h) (RddAll.mono k r) (RddAll.mono k q)
theorem RddAll.mono {H H' : Hp} (k : ∀ b o, H b = some o → H' b = some o) : ∀ {vs : List V} {ds : List PyData}, RddAll H vs ds → RddAll H' vs ds
  | _, _, .nil => .nil
  | _, _, .cons r t => .cons (Rdd.mono k r) (RddAll.mono k t)
end
section
variable {P : Program} {w : World} {H : Hp} {h : Heap}
theorem kv_rel {k : Key} {u : Value} (e : keyIs k u = true) : RelV (kV k) u := by
  rcases keyIs_shape e with ⟨i, t, rfl, rfl⟩ | ⟨x, t, rfl, rfl⟩
  · exact ⟨t, rfl⟩
  · exact ⟨t, rfl⟩
theorem pairs_keys {es : List DictEntry} {vs : List (Key × Value)} (h : Pairs (mixKind P w) es vs) :
    Vals (vs.map fun p => kV p.1) (es.map (·.key)) ∧ es.map (·.val) = vs.map (·.2) := by
  induction h with
  | nil => exact ⟨.nil, rfl⟩
  | cons h1 h2 _ ih =>
    refine ⟨.cons (kv_rel h1) ih.1, ?_⟩
    rw [List.map_cons, List.map_cons, h2, ih.2]
theorem kv_keys : ∀ {kvs : List (Key × V)} {vs : List (Key × Value)}, KV kvs vs → (kvs.map fun p => kV p.1) = (vs.map fun p => kV p.1) ∧ Vals (kvs.map (·.2)) (vs.map (·.2))
  | _, _, .nil => ⟨rfl, .nil⟩
  | _, _, .cons r t => by
    obtain ⟨h1, h2⟩ := kv_keys t
    refine ⟨?_, .cons r.2 h2⟩
    rw [List.map_cons, List.map_cons, h1, r.1]
mutual
theorem Rdd.reads (ok : HOk P w H h) : ∀ {v : V} {d : PyData} {u : Value}, Rdd H v d → RelV v u → ∃ as, Reads h u d as ∧ ∀ a ∈ as, ∃ o, H a = some o
  | _, _, u, .non, r => by
    obtain rfl : u = Value.none := r
    exact ⟨[], .none, fun a z => nomatch z⟩
  | _, _, u, .bl b, r => by
    obtain rfl : u = Value.bool b := r
    exact ⟨[], .bool b, fun a z => nomatch z⟩
  | _, _, u, .int i, r => by
    obtain ⟨t, rfl⟩ : ∃ t, u = Value.int i t := r
    exact ⟨[], .int i t, fun a z => nomatch z⟩
  | _, _, u, .str x, r => by
    obtain ⟨t, rfl⟩ : ∃ t, u = Value.str x t := r
    exact ⟨[], .str x t, fun a z => nomatch z⟩
  | _, _, u, .lst (a := a) (xs := xs) e q, r => by
    obtain rfl : u = Value.ref a := r
    obtain ⟨_, its, n, rv, g⟩ := (show ObjOk P w H h a (.lst xs) from ok a _ e)
    obtain ⟨as, z, k⟩ := RddAll.reads ok q rv
    refine ⟨a :: as, .list g rfl rfl z, fun b hb => ?_⟩
    rcases List.mem_cons.mp hb with rfl | hb
    · exact ⟨_, e⟩
    · exact k b hb
  | _, _, u, .tup (a := a) (xs := xs) e q, r => by
    obtain rfl : u = Value.ref a := r
    obtain ⟨_, its, rv, o, g, c, n, hd⟩ := (show ObjOk P w H h a (.tup xs) from ok a _ e)
    obtain ⟨as, z, k⟩ := RddAll.reads ok q rv
    exact ⟨as, .tuple g c hd z, k⟩
  | _, _, u, .dK (a := a) (kvs := kvs) e q1 q2, r => by
    obtain rfl : u = Value.ref a := r
    obtain ⟨_, _, vs, rk, o, es, ep, g, ex, hd, _, pr, _⟩ := (show ObjOk P w H h a (.dK kvs) from ok a _ e)
    obtain ⟨k1, k2⟩ := pairs_keys pr
    obtain ⟨k3, k4⟩ := kv_keys rk
    rw [← k3] at k1
    obtain ⟨as, z1, t1⟩ := RddAll.reads ok q1 k1
    rw [← k2] at k4
    obtain ⟨bs, z2, t2⟩ := RddAll.reads ok q2 k4
    refine ⟨a :: as ++ bs, .dict g ex.1 hd z1 z2, fun b hb => ?_⟩
    rcases List.mem_append.mp hb with hb | hb
    · rcases List.mem_cons.mp hb with rfl | hb
      · exact ⟨_, e⟩
      · exact t1 b hb
    · exact t2 b hb
theorem RddAll.reads (ok : HOk P w H h) : ∀ {vs : List V} {ds : List PyData} {us : List Value}, RddAll H vs ds → Vals vs us →
    ∃ as, ReadsAll h us ds as ∧ ∀ a ∈ as, ∃ o, H a = some o
  | _, _, _, .nil, r => by
    cases r
    exact ⟨[], .nil, fun a z => nomatch z⟩
  | _, _, _, .cons q t, r => by
    cases r with
    | cons r1 r2 =>
      obtain ⟨as, z, k⟩ := Rdd.reads ok q r1
      obtain ⟨bs, z2, k2⟩ := RddAll.reads ok t r2
      refine ⟨as ++ bs, .cons z z2, fun b hb => ?_⟩
      rcases List.mem_append.mp hb with hb | hb
      · exact k b hb
      · exact k2 b hb
end
end
def rRepr : List V → Hp → VK → Prop := fun xs H Q => ∃ (v : V) (d : PyData), xs = [v] ∧ Rdd H v d ∧ d.showable = true ∧ d.depth ≤ 32 ∧
  d.shown.length ≤ sizeLine ∧ Q (.str d.shown) H
theorem call_repr {X : Cx} (hgd : X.A.guards = some []) (hu : X.A.units + 64 < cLine) (hsy : ∃ o, X.K.lookup sysModules = some o) :
    CallR X (.builtin "repr") rRepr := by
  intro pins s σ H xs us Q I r h
  obtain ⟨v, d, rfl, q, hs, hd, hz, hq⟩ := h
  obtain ⟨u, rfl, ru⟩ := vals1 r
  obtain ⟨o, ho⟩ := hsy
  have free : H sysModules = none := (I.bs _ _ (I.ok.mod.kin _ _ ho)).2
  have ref : ∀ a as, Reads s.heap (.ref a) d as → (∀ b ∈ as, ∃ o, H b = some o) → wpAny (model X.prog X.w) X.A (call (.builtin "repr") [.ref a]) (EP X pins σ Q) X.xe s := by
    intro a as z k
    refine repr_of_reads' z hs (fun _ hm => ?_) hgd (by omega) (fun _ _ e => e) (fun h1 u1 tk hk => ?_) hz
    · obtain ⟨o1, e1⟩ := k _ hm
      rw [free] at e1
      cases e1
    · exact ⟨.str d.shown, H, I.kept (t' := tk) hk, ⟨_, rfl⟩, hq⟩
  have val : ∀ tk, EP X pins σ Q (.str d.shown s.toks) { s with toks := tk } := fun tk => ⟨.str d.shown, H, I.tok _, ⟨_, rfl⟩, hq⟩
  obtain ⟨as, z, k⟩ := q.reads I.hok ru
  cases q with
  | non =>
    obtain rfl : u = Value.none := ru
    exact PySem.P.repr_of_none (val _)
  | bl b =>
    obtain rfl : u = Value.bool b := ru
    exact PySem.P.repr_of_bool (val _)
  | int i =>
    obtain ⟨t, rfl⟩ : ∃ t, u = Value.int i t := ru
    exact PySem.P.repr_of_int (of_decide_eq_true hs) (val _)
  | str x =>
    obtain ⟨t, rfl⟩ : ∃ t, u = Value.str x t := ru
    exact PySem.P.repr_of_str (val _) hz
  | lst e _ =>
    obtain rfl : u = _ := ru
    exact ref _ _ z k
  | tup e _ =>
    obtain rfl : u = _ := ru
    exact ref _ _ z k
  | dK e _ _ =>
    obtain rfl : u = _ := ru
    exact ref _ _ z k
end L2

namespace L2
open PySem PySem.Spec PyProof.Rows
theorem PE.mono {X : Cx} {e : Expr} {t t1 : TE} (h : PE X e t) (k : ∀ σ H Q, t1 σ H Q → t σ H Q) : PE X e t1 :=
  ⟨fun pins s σ H Q I q => h.run pins s σ H Q I (k σ H Q q)⟩
theorem PA.mono {X : Cx} {es : List Expr} {t t1 : TA} (h : PA X es t) (k : ∀ σ H Q, t1 σ H Q → t σ H Q) : PA X es t1 :=
  ⟨fun pos pins s σ H Q I q => h.run pos pins s σ H Q I (k σ H Q q)⟩
/-- exceptions, one a class, with the fields f alike v -/
inductive Evs (H : Hp) (v : V) : List V → List (Addr × Str) → Prop
  | nil : Evs H v [] []
  | cons {a C d : Addr} {f : Str} {xs : List V} {cs : List (Addr × Str)} : EvP [] H a C d [(f, v)] → Evs H v xs cs → Evs H v (.ref a :: xs) ((C, f) :: cs)
theorem Evs.mono {H H' : Hp} (k : Same H H') {v : V} {xs : List V} {cs : List (Addr × Str)} (e : Evs H v xs cs) : Evs H' v xs cs := by
  induction e with
  | nil => exact .nil
  | cons h _ ih => exact .cons (h.mono (fun _ z => z) k) ih
theorem Evs.append {H : Hp} {v : V} {xs ys : List V} {cs ds : List (Addr × Str)} (e : Evs H v xs cs) (g : Evs H v ys ds) : Evs H v (xs ++ ys) (cs ++ ds) := by
  induction e with
  | nil => exact g
  | cons h _ ih => exact .cons h ih
theorem Evs.length {H : Hp} {v : V} {xs : List V} {cs : List (Addr × Str)} (e : Evs H v xs cs) : xs.length = cs.length := by
  induction e with
  | nil => rfl
  | cons _ _ ih => rw [List.length_cons, List.length_cons, ih]
theorem Evs.get {H : Hp} {v : V} {xs : List V} {cs : List (Addr × Str)} (e : Evs H v xs cs) : ∀ {i : Nat} {C : Addr} {f : Str}, cs[i]? = some (C, f) →
    ∃ a d, xs[i]? = some (.ref a) ∧ EvP [] H a C d [(f, v)] := by
  induction e with
  | nil => intro i C f h; simp at h
  | cons h _ ih =>
    intro i C f hi
    cases i with
    | zero =>
      simp at hi
      obtain ⟨rfl, rfl⟩ := hi
      exact ⟨_, _, rfl, h⟩
    | succ i => exact ih (by simpa using hi)
/-- with two fields -/
inductive Evs2 (H : Hp) (v w : V) : List V → List (Addr × Str × Str) → Prop
  | nil : Evs2 H v w [] []
  | cons {a C d : Addr} {f g : Str} {xs : List V} {cs : List (Addr × Str × Str)} : EvP [] H a C d [(g, w), (f, v)] → Evs2 H v w xs cs → Evs2 H v w (.ref a :: xs) ((C, f, g) :: cs)
theorem Evs2.mono {H H' : Hp} (k : Same H H') {v w : V} {xs : List V} {cs : List (Addr × Str × Str)} (e : Evs2 H v w xs cs) : Evs2 H' v w xs cs := by
  induction e with
  | nil => exact .nil
  | cons h _ ih => exact .cons (h.mono (fun _ z => z) k) ih
theorem Evs2.append {H : Hp} {v w : V} {xs ys : List V} {cs ds : List (Addr × Str × Str)} (e : Evs2 H v w xs cs) (g : Evs2 H v w ys ds) : Evs2 H v w (xs ++ ys) (cs ++ ds) := by
  induction e with
  | nil => exact g
  | cons h _ ih => exact .cons h ih
theorem Evs2.length {H : Hp} {v w : V} {xs : List V} {cs : List (Addr × Str × Str)} (e : Evs2 H v w xs cs) : xs.length = cs.length := by
  induction e with
  | nil => rfl
  | cons _ _ ih => rw [List.length_cons, List.length_cons, ih]
theorem Evs2.get {H : Hp} {v w : V} {xs : List V} {cs : List (Addr × Str × Str)} (e : Evs2 H v w xs cs) : ∀ {i : Nat} {C : Addr} {f g : Str}, cs[i]? = some (C, f, g) →
    ∃ a d, xs[i]? = some (.ref a) ∧ EvP [] H a C d [(g, w), (f, v)] := by
  induction e with
  | nil => intro i C f g h; simp at h
  | cons h _ ih =>
    intro i C f g hi
    cases i with
    | zero =>
      simp at hi
      obtain ⟨rfl, rfl, rfl⟩ := hi
      exact ⟨_, _, rfl, h⟩
    | succ i => exact ih (by simpa using hi)
theorem withEv_same {H : Hp} {a C d : Addr} {fs : List (Str × V)} (ha : H a = none) (hd : H d = none) : Same H (withEv H a C d fs) := fun b o e => by
  unfold withEv
  rw [upd_ne (ne_of_none e ha), upd_ne (ne_of_none e hd)]
  exact e
theorem withEv_ev {H : Hp} {a C d : Addr} {fs : List (Str × V)} (h : d ≠ a) : EvP [] (withEv H a C d fs) a C d fs where
  at_ := .inl upd_same
  tab := .inl (by unfold withEv; rw [upd_ne h, upd_same])
theorem upd_withEv {H : Hp} {a C d : Addr} {o : HO} {fs : List (Str × V)} : withEv (upd H a o) a C d fs = withEv H a C d fs := by
  funext b
  unfold withEv
  by_cases h : b = a
  · rw [h, upd_same, upd_same]
  · rw [upd_ne h, upd_ne h]
    by_cases h2 : b = d
    · rw [h2, upd_same, upd_same]
    · rw [upd_ne h2, upd_ne h2, upd_ne h]
/-! ### the classes -/
structure One (P : Program) (w : World) (K : PySem.W.Frag) (mg : Str → Option Value) (base : Heap) (x f : Str) : Prop where
  mgx : mg x = some (.ref (He.ga K x))
  T : OexC K (He.ga K x)
  iC : PySem.W.findIn K (.ref (He.ga K x)) "__init__" = some (some (.ref (He.ma K (He.ga K x) "__init__")))
  tI : PySem.W.typeIn K (.ref (He.ma K (He.ga K x) "__init__")) = some (.type "function")
  ini : ∃ fd, FnOk P w K mg base CX0 1 (He.ma K (He.ga K x) "__init__") fd ["self", f] (spI1 (He.ga K x) f) ∧
    KBn K fd ["self", f] 2 [] (fun us _ => us) (fun vs _ => vs) ∧ KBn K fd ["self", f] 1 [f] (fun us ws => us ++ ws) (fun vs zs => vs ++ zs)
structure Two (P : Program) (w : World) (K : PySem.W.Frag) (mg : Str → Option Value) (base : Heap) (x f g : Str) : Prop where
  mgx : mg x = some (.ref (He.ga K x))
  T : OexC K (He.ga K x)
  iC : PySem.W.findIn K (.ref (He.ga K x)) "__init__" = some (some (.ref (He.ma K (He.ga K x) "__init__")))
  tI : PySem.W.typeIn K (.ref (He.ma K (He.ga K x) "__init__")) = some (.type "function")
  ini : ∃ fd, FnOk P w K mg base CX0 1 (He.ma K (He.ga K x) "__init__") fd ["self", f, g] (spI2 (He.ga K x) f g) ∧
    KBn K fd ["self", f, g] 3 [] (fun us _ => us) (fun vs _ => vs) ∧ KBn K fd ["self", f, g] 1 [f, g] (fun us ws => us ++ ws) (fun vs zs => vs ++ zs) ∧
    KBn K fd ["self", f, g] 1 [g, f] (fun us ws => us ++ ws.reverse) (fun vs zs => vs ++ zs.reverse) ∧
    KBn K fd ["self", f, g] 2 [g] (fun us ws => us ++ ws) (fun vs zs => vs ++ zs)
/-- X(v), v in slot i: the new exception -/
def tMk1 (i : Nat) (C : Addr) (f : Str) : TE := fun σ H Q => ∃ v, σ[i]? = some (some v) ∧ ∀ a d H', Same H H' → EvP [] H' a C d [(f, v)] → Q (.ref a) H'
def tMk2 (i j : Nat) (C : Addr) (f g : Str) : TE := fun σ H Q => ∃ v w, σ[i]? = some (some v) ∧ σ[j]? = some (some w) ∧ ∀ a d H', Same H H' → EvP [] H' a C d [(g, w), (f, v)] → Q (.ref a) H'
section
variable {X : Cx} {x f g : Str} {i j : Nat} {v u : Expr} {p pos kp kp2 : Pos}
theorem pe_e1 (O : One X.prog X.w X.K X.mg X.base x f) (hr : Room 2 X.A) (hv : PE X v (tVar i)) (hg : Gl X x) (hdb : (x == ("__debug__" : Str)) = false := by decide)
    (he : starEach [v] X.env = (false, eval v X.env) :: starEach [] X.env := by rfl) (hpl : (backTo pos (starEach [] X.env)).any (·.1) = false := by rfl) :
    PE X (.Call (.Name x p) [v] [] pos) (tMk1 i (He.ga X.K x) f) := by
  obtain ⟨fd, F, b1, b2⟩ := O.ini
  refine (pe_mkEv O.T O.iC O.tI F hr b1 pass0 (by decide) hg O.mgx (pa_cons hv pa_nil he) hdb he hpl).mono fun σ H Q h => ?_
  obtain ⟨y, hy, q⟩ := h
  refine ⟨y, hy, rfl, rfl, fun a ha => ⟨a, y, rfl, upd_same, fun dx n ne => ⟨rfl, ?_⟩⟩⟩
  rw [upd_withEv]
  exact q a dx _ (withEv_same ha (by rwa [upd_ne ne] at n)) (withEv_ev ne)
theorem pe_e1K (O : One X.prog X.w X.K X.mg X.base x f) (hr : Room 2 X.A) (hv : PE X v (tVar i)) (hg : Gl X x) (hdb : (x == ("__debug__" : Str)) = false := by decide)
    (hall : (backToKw pos (keywordEach [⟨some f, v, kp⟩] X.env)).all (·.1.isSome) = true := by rfl)
    (hks : (backToKw pos (keywordEach [⟨some f, v, kp⟩] X.env)).filterMap (·.1) = [f] := by rfl)
    (hpl : ((backTo pos (starEach [] X.env)).any (·.1) || (backToKw pos (keywordEach [⟨some f, v, kp⟩] X.env)).any (·.1.isNone)) = false := by rfl) :
    PE X (.Call (.Name x p) [] [⟨some f, v, kp⟩] pos) (tMk1 i (He.ga X.K x) f) := by
  obtain ⟨fd, F, b1, b2⟩ := O.ini
  refine (pe_mkEvK O.T O.iC O.tI F hr b2 pass0 hg O.mgx (pk_cons hv pk_nil) hall hks hdb hpl).mono fun σ H Q h => ?_
  obtain ⟨y, hy, q⟩ := h
  refine ⟨y, hy, rfl, rfl, fun a ha => ⟨a, y, rfl, upd_same, fun dx n ne => ⟨rfl, ?_⟩⟩⟩
  rw [upd_withEv]
  exact q a dx _ (withEv_same ha (by rwa [upd_ne ne] at n)) (withEv_ev ne)
theorem pe_e2 (O : Two X.prog X.w X.K X.mg X.base x f g) (hr : Room 2 X.A) (hv : PE X v (tVar i)) (hu : PE X u (tVar j)) (hg : Gl X x) (hdb : (x == ("__debug__" : Str)) = false := by decide)
    (he : starEach [v, u] X.env = (false, eval v X.env) :: starEach [u] X.env := by rfl) (he2 : starEach [u] X.env = (false, eval u X.env) :: starEach [] X.env := by rfl)
    (hpl : (backTo pos (starEach [u] X.env)).any (·.1) = false := by rfl) : PE X (.Call (.Name x p) [v, u] [] pos) (tMk2 i j (He.ga X.K x) f g) := by
  obtain ⟨fd, F, b1, b2, b3, b4⟩ := O.ini
  refine (pe_mkEv O.T O.iC O.tI F hr b1 pass0 (by decide) hg O.mgx (pa_cons hv (pa_cons hu pa_nil he2) he) hdb he hpl).mono fun σ H Q h => ?_
  obtain ⟨y, z, hy, hz, q⟩ := h
  refine ⟨y, hy, z, hz, rfl, rfl, fun a ha => ⟨a, y, z, rfl, upd_same, fun dx n ne => ⟨rfl, ?_⟩⟩⟩
  rw [upd_withEv]
  exact q a dx _ (withEv_same ha (by rwa [upd_ne ne] at n)) (withEv_ev ne)
theorem pe_e2K (O : Two X.prog X.w X.K X.mg X.base x f g) (hr : Room 2 X.A) (hv : PE X v (tVar i)) (hu : PE X u (tVar j)) (hg : Gl X x) (hdb : (x == ("__debug__" : Str)) = false := by decide)
    (hall : (backToKw pos (keywordEach [⟨some f, v, kp⟩, ⟨some g, u, kp2⟩] X.env)).all (·.1.isSome) = true := by rfl)
    (hks : (backToKw pos (keywordEach [⟨some f, v, kp⟩, ⟨some g, u, kp2⟩] X.env)).filterMap (·.1) = [f, g] := by rfl)
    (hpl : ((backTo pos (starEach [] X.env)).any (·.1) || (backToKw pos (keywordEach [⟨some f, v, kp⟩, ⟨some g, u, kp2⟩] X.env)).any (·.1.isNone)) = false := by rfl) :
    PE X (.Call (.Name x p) [] [⟨some f, v, kp⟩, ⟨some g, u, kp2⟩] pos) (tMk2 i j (He.ga X.K x) f g) := by
  obtain ⟨fd, F, b1, b2, b3, b4⟩ := O.ini
  refine (pe_mkEvK O.T O.iC O.tI F hr b2 pass0 hg O.mgx (pk_cons hv (pk_cons hu pk_nil)) hall hks hdb hpl).mono fun σ H Q h => ?_
  obtain ⟨y, z, hy, hz, q⟩ := h
  refine ⟨y, hy, z, hz, rfl, rfl, fun a ha => ⟨a, y, z, rfl, upd_same, fun dx n ne => ⟨rfl, ?_⟩⟩⟩
  rw [upd_withEv]
  exact q a dx _ (withEv_same ha (by rwa [upd_ne ne] at n)) (withEv_ev ne)
theorem pe_e2R (O : Two X.prog X.w X.K X.mg X.base x f g) (hr : Room 2 X.A) (hv : PE X v (tVar i)) (hu : PE X u (tVar j)) (hg : Gl X x) (hdb : (x == ("__debug__" : Str)) = false := by decide)
    (hall : (backToKw pos (keywordEach [⟨some g, u, kp⟩, ⟨some f, v, kp2⟩] X.env)).all (·.1.isSome) = true := by rfl)
    (hks : (backToKw pos (keywordEach [⟨some g, u, kp⟩, ⟨some f, v, kp2⟩] X.env)).filterMap (·.1) = [g, f] := by rfl)
    (hpl : ((backTo pos (starEach [] X.env)).any (·.1) || (backToKw pos (keywordEach [⟨some g, u, kp⟩, ⟨some f, v, kp2⟩] X.env)).any (·.1.isNone)) = false := by rfl) :
    PE X (.Call (.Name x p) [] [⟨some g, u, kp⟩, ⟨some f, v, kp2⟩] pos) (tMk2 i j (He.ga X.K x) f g) := by
  obtain ⟨fd, F, b1, b2, b3, b4⟩ := O.ini
  refine (pe_mkEvK O.T O.iC O.tI F hr b3 pass0 hg O.mgx (pk_cons hu (pk_cons hv pk_nil)) hall hks hdb hpl).mono fun σ H Q h => ?_
  obtain ⟨y, z, hy, hz, q⟩ := h
  refine ⟨z, hz, y, hy, rfl, rfl, fun a ha => ⟨a, y, z, rfl, upd_same, fun dx n ne => ⟨rfl, ?_⟩⟩⟩
  rw [upd_withEv]
  exact q a dx _ (withEv_same ha (by rwa [upd_ne ne] at n)) (withEv_ev ne)
theorem pe_e2M (O : Two X.prog X.w X.K X.mg X.base x f g) (hr : Room 2 X.A) (hv : PE X v (tVar i)) (hu : PE X u (tVar j)) (hg : Gl X x) (hdb : (x == ("__debug__" : Str)) = false := by decide)
    (he : starEach [v] X.env = (false, eval v X.env) :: starEach [] X.env := by rfl) (hall : (backToKw pos (keywordEach [⟨some g, u, kp⟩] X.env)).all (·.1.isSome) = true := by rfl)
    (hks : (backToKw pos (keywordEach [⟨some g, u, kp⟩] X.env)).filterMap (·.1) = [g] := by rfl)
    (hpl : ((backTo pos (starEach [v] X.env)).any (·.1) || (backToKw pos (keywordEach [⟨some g, u, kp⟩] X.env)).any (·.1.isNone)) = false := by rfl) :
    PE X (.Call (.Name x p) [v] [⟨some g, u, kp⟩] pos) (tMk2 i j (He.ga X.K x) f g) := by
  obtain ⟨fd, F, b1, b2, b3, b4⟩ := O.ini
  refine (pe_mkEvM O.T O.iC O.tI F hr b4 pass0 (by decide) hg O.mgx (pa_cons hv pa_nil he) (pk_cons hu pk_nil) hall hks hdb he hpl).mono fun σ H Q h => ?_
  obtain ⟨y, z, hy, hz, q⟩ := h
  refine ⟨y, hy, z, hz, rfl, rfl, fun a ha => ⟨a, y, z, rfl, upd_same, fun dx n ne => ⟨rfl, ?_⟩⟩⟩
  rw [upd_withEv]
  exact q a dx _ (withEv_same ha (by rwa [upd_ne ne] at n)) (withEv_ev ne)
end
/-- rows of such calls -/
def tMks (i : Nat) (cs : List (Addr × Str)) : TA := fun σ H Q => ∃ v, σ[i]? = some (some v) ∧ ∀ xs H', Same H H' → Evs H' v xs cs → Q xs H'
def tMks2 (i j : Nat) (cs : List (Addr × Str × Str)) : TA := fun σ H Q => ∃ v w, σ[i]? = some (some v) ∧ σ[j]? = some (some w) ∧ ∀ xs H', Same H H' → Evs2 H' v w xs cs → Q xs H'
section
variable {X : Cx} {i j : Nat} {e : Expr} {es : List Expr} {C : Addr} {f g : Str} {cs : List (Addr × Str)} {ds : List (Addr × Str × Str)}
theorem pa_m0 : PA X [] (tMks i []) := pa_nil.mono fun σ H Q ⟨v, hv, q⟩ => q [] H (Same.refl H) .nil
theorem pa_m1 (he : PE X e (tMk1 i C f)) (h : PA X es (tMks i cs)) (hs : starEach (e :: es) X.env = (false, eval e X.env) :: starEach es X.env := by rfl) : PA X (e :: es) (tMks i ((C, f) :: cs)) := by
  refine (pa_cons he h hs).mono fun σ H Q ⟨v, hv, q⟩ => ?_
  exact ⟨v, hv, fun a d H1 k1 e1 => ⟨v, hv, fun xs H2 k2 e2 => q _ H2 (k1.trans k2) (.cons (e1.mono (fun _ z => z) k2) e2)⟩⟩
theorem pa_n0 : PA X [] (tMks2 i j []) := pa_nil.mono fun σ H Q ⟨v, w, hv, hw, q⟩ => q [] H (Same.refl H) .nil
theorem pa_n1 (he : PE X e (tMk2 i j C f g)) (h : PA X es (tMks2 i j ds)) (hs : starEach (e :: es) X.env = (false, eval e X.env) :: starEach es X.env := by rfl) : PA X (e :: es) (tMks2 i j ((C, f, g) :: ds)) := by
  refine (pa_cons he h hs).mono fun σ H Q ⟨v, w, hv, hw, q⟩ => ?_
  exact ⟨v, w, hv, hw, fun a d H1 k1 e1 => ⟨v, w, hv, hw, fun xs H2 k2 e2 => q _ H2 (k1.trans k2) (.cons (e1.mono (fun _ z => z) k2) e2)⟩⟩
end
end L2

/-! calls by keywords alone, C(..) whose __init__ may raise, several clauses with names -/
namespace L2
open PySem PySem.Spec PyProof.Rows
/-- C(..), what is raised is wished for at the slots -/
def tMakeS (C : Addr) (n m : Nat) (sp : Sp) (gV : List V → List V → List V) (E : St → XK) (t tk : TA) : TE := fun σ H Q => t σ H fun vs H1 => tk σ H1 fun zs H2 => vs.length = n ∧ zs.length = m ∧
  ∀ x dx, H2 x = none → H2 dx = none → dx ≠ x → sp (gV (.ref x :: vs) zs) (upd (upd H2 dx (.own x)) x (.ins C dx [])) (fun v H3 => v = .non ∧ Q (.ref x) H3) (E σ)
/-- f(..) by values and keywords -/
def tCallKS (n m : Nat) (sp : Sp) (gV : List V → List V → List V) (E : St → XK) (t tk : TA) : TE := fun σ H Q => t σ H fun vs H1 => tk σ H1 fun zs H2 => vs.length = n ∧ zs.length = m ∧ sp (gV vs zs) H2 Q (E σ)
section
variable {X : Cx} {CX : CXT} {k n : Nat} {f C : Addr} {fd : FuncData} {ps ks : List Str} {sp : Sp} {E : St → XK} {x : Str} {p pos : Pos} {e : Expr} {es : List Expr} {kws : List Keyword} {t tk : TA} {g : List Value → List Value → List Value} {gV : List V → List V → List V}
theorem run_makeS {pins : List (Addr × Obj)} {σ : St} {H : Hp} {s : Shared} {Q : VK} {E : XK} {us ws : List Value} {vs zs : List V} (M : Mk X.K C f) (F : FnOk X.prog X.w X.K X.mg X.base CX k f fd ps sp) (hr : Room (k + 1) X.A) (hb : KBn X.K fd ps (n + 1) ks g gV)
    (hx : PassesAt CX X σ E) (I : Inv X pins σ H s) (r : Vals vs us) (rz : Vals zs ws) (l1 : vs.length = n) (l2 : zs.length = ks.length)
    (h : ∀ x dx, H x = none → H dx = none → dx ≠ x → sp (gV (.ref x :: vs) zs) (upd (upd H dx (.own x)) x (.ins C dx [])) (fun v H2 => v = .non ∧ Q (.ref x) H2) E) :
    wpAny (model X.prog X.w) X.A (call (.ref C) us (ks.zip ws)) (EP X pins σ Q) X.xe s := by
  have hq := h (s.heap.objs.size + 1) s.heap.objs.size (I.hok.fresh (Nat.le_succ _)) (I.hok.fresh (Nat.le_refl _)) (Nat.ne_of_lt (Nat.lt_succ_self _))
  have I2 := Inv.made (C := C) I
  have r1 : Vals (V.ref (s.heap.objs.size + 1) :: vs) (Value.ref (s.heap.objs.size + 1) :: us) := .cons rfl r
  have r2 := hb.rel r1 rz
  have e1 : (Value.ref (s.heap.objs.size + 1) :: us).length = n + 1 := r1.length.symm.trans (congrArg Nat.succ l1)
  have e2 : ws.length = ks.length := rz.length.symm.trans l2
  refine wpAny_call (make_map (f := f) I.kIn M.makes M.init (beq_iff_eq.mp M.fn) (codeAny_mono (F.run _ X.stack _ _ ⟨Value.ref (s.heap.objs.size + 1) :: us, ks.zip ws⟩ (g (Value.ref (s.heap.objs.size + 1) :: us) ws) _ _ E (hr.make C us (ks.zip ws))
    (I2.env0.make C us (ks.zip ws)) (hb.to _ (Value.ref (s.heap.objs.size + 1) :: us) ws I2.kIn e1 e2) r2 hq) fun r s' hq' => ?_))
  cases r with
  | error e => exact hx pins _ _ e s' I2 hq'
  | ok fl =>
    cases fl with
    | ret u =>
      obtain ⟨v, H', I3, rv, ev, q3⟩ := I2.after hq'
      subst ev
      exact ⟨rv, ⟨V.ref (s.heap.objs.size + 1), H', I3, rfl, q3⟩⟩
    | next => exact False.elim hq'
    | brk => exact False.elim hq'
    | cont => exact False.elim hq'
theorem pe_makeS (M : Mk X.K C f) (F : FnOk X.prog X.w X.K X.mg X.base CX k f fd ps sp) (hr : Room (k + 1) X.A) (hg : Gl X x) (hm : X.mg x = some (.ref C)) (hb : KBn X.K fd ps (n + 1) [] g gV) (hx : ∀ σ, PassesAt CX X σ (E σ))
    (ha : PA X (e :: es) t) (hdb : (x == ("__debug__" : Str)) = false := by decide) (he : starEach (e :: es) X.env = (false, eval e X.env) :: starEach es X.env := by rfl) (hpl : (backTo pos (starEach es X.env)).any (·.1) = false := by rfl) :
    PE X (.Call (.Name x p) (e :: es) [] pos) (tMakeS C n 0 sp gV E t tNil) := by
  refine ⟨fun pins s σ H Q I h => ?_⟩
  refine wpAny_Call_Name_kw (ld_glob I hg hm ?_ hdb)
  refine PySem.W.callWith_K (h₀ := X.base) I.ok.mod.kin M.kp (thn (ha.run pos pins s σ H _ I h) fun us s1 ⟨vs, H1, I1, r, l1, l2, q⟩ => ⟨I1.kIn, ?_⟩) he hpl
  exact run_makeS (ks := []) (ws := []) (zs := []) M F hr hb (hx σ) I1 r .nil l1 rfl q
theorem pe_makeSK (M : Mk X.K C f) (F : FnOk X.prog X.w X.K X.mg X.base CX k f fd ps sp) (hr : Room (k + 1) X.A) (hg : Gl X x) (hm : X.mg x = some (.ref C)) (hb : KBn X.K fd ps 1 ks g gV) (hx : ∀ σ, PassesAt CX X σ (E σ)) (hkw : PK X kws tk)
    (hall : (backToKw pos (keywordEach kws X.env)).all (·.1.isSome) = true := by rfl) (hks : (backToKw pos (keywordEach kws X.env)).filterMap (·.1) = ks := by rfl) (hdb : (x == ("__debug__" : Str)) = false := by decide)
    (hpl : ((backTo pos (starEach [] X.env)).any (·.1) || (backToKw pos (keywordEach kws X.env)).any (·.1.isNone)) = false := by rfl) :
    PE X (.Call (.Name x p) [] kws pos) (tMakeS C 0 ks.length sp gV E tNil tk) := by
  refine ⟨fun pins s σ H Q I h => ?_⟩
  refine wpAny_Call_Name_kw (ld_glob I hg hm ?_ hdb)
  refine PySem.W.callWith_KW0 (h₀ := X.base) I.ok.mod.kin M.kp hall ?_ hpl
  refine thn (hkw.run pos pins s σ H _ I h) fun ws s2 ⟨zs, H2, I2, rz, l1, l2, q2⟩ => ⟨I2.kIn, ?_⟩
  rw [hks]
  exact run_makeS (us := []) (vs := []) M F hr hb (hx σ) I2 .nil rz rfl l2 q2
theorem run_fnKS {pins : List (Addr × Obj)} {σ : St} {H : Hp} {s : Shared} {Q : VK} {E : XK} {us ws : List Value} {vs zs : List V} (F : FnOk X.prog X.w X.K X.mg X.base CX k f fd ps sp) (hr : Room k X.A) (hb : KBn X.K fd ps n ks g gV)
    (hx : PassesAt CX X σ E) (I : Inv X pins σ H s) (r : Vals vs us) (rz : Vals zs ws) (l1 : vs.length = n) (l2 : zs.length = ks.length) (h : sp (gV vs zs) H Q E) :
    wpAny (model X.prog X.w) X.A (call (.ref f) us (ks.zip ws)) (EP X pins σ Q) X.xe s := by
  have r2 := hb.rel r rz
  have e1 : us.length = n := r.length.symm.trans l1
  have e2 : ws.length = ks.length := rz.length.symm.trans l2
  refine wpAny_call (codeAny_mono (F.run X.A X.stack s H ⟨us, ks.zip ws⟩ (g us ws) (gV vs zs) Q E hr I.env0 (hb.to s us ws I.kIn e1 e2) r2 h) fun r s2 h2 => ?_)
  cases r with
  | error er => exact hx pins H s er s2 I h2
  | ok fl =>
    cases fl with
    | ret u => exact I.after h2
    | next => exact h2.elim
    | brk => exact h2.elim
    | cont => exact h2.elim
/-- f(k = v, ..) -/
theorem pe_callKS0 (F : FnOk X.prog X.w X.K X.mg X.base CX k f fd ps sp) (hr : Room k X.A) (hg : Gl X x) (hm : X.mg x = some (.ref f)) (hk : PySem.W.keepIn X.K (.ref f) = true) (hb : KBn X.K fd ps 0 ks g gV) (hx : ∀ σ, PassesAt CX X σ (E σ)) (hkw : PK X kws tk)
    (hall : (backToKw pos (keywordEach kws X.env)).all (·.1.isSome) = true := by rfl) (hks : (backToKw pos (keywordEach kws X.env)).filterMap (·.1) = ks := by rfl) (hdb : (x == ("__debug__" : Str)) = false := by decide)
    (hpl : ((backTo pos (starEach [] X.env)).any (·.1) || (backToKw pos (keywordEach kws X.env)).any (·.1.isNone)) = false := by rfl) :
    PE X (.Call (.Name x p) [] kws pos) (tCallKS 0 ks.length sp gV E tNil tk) := by
  refine ⟨fun pins s σ H Q I h => ?_⟩
  refine wpAny_Call_Name_kw (ld_glob I hg hm ?_ hdb)
  refine PySem.W.callWith_KW0 (h₀ := X.base) I.ok.mod.kin hk hall ?_ hpl
  refine thn (hkw.run pos pins s σ H _ I h) fun ws s2 ⟨zs, H2, I2, rz, l1, l2, q2⟩ => ⟨I2.kIn, ?_⟩
  rw [hks]
  exact run_fnKS (us := []) (vs := []) F hr hb (hx σ) I2 .nil rz l1 l2 q2
/-- f(e, .., k = v, ..) -/
theorem pe_callKS (F : FnOk X.prog X.w X.K X.mg X.base CX k f fd ps sp) (hr : Room k X.A) (hg : Gl X x) (hm : X.mg x = some (.ref f)) (hk : PySem.W.keepIn X.K (.ref f) = true) (hb : KBn X.K fd ps n ks g gV) (hx : ∀ σ, PassesAt CX X σ (E σ)) (ha : PA X (e :: es) t) (hkw : PK X kws tk)
    (hall : (backToKw pos (keywordEach kws X.env)).all (·.1.isSome) = true := by rfl) (hks : (backToKw pos (keywordEach kws X.env)).filterMap (·.1) = ks := by rfl) (hdb : (x == ("__debug__" : Str)) = false := by decide)
    (he : starEach (e :: es) X.env = (false, eval e X.env) :: starEach es X.env := by rfl) (hpl : ((backTo pos (starEach (e :: es) X.env)).any (·.1) || (backToKw pos (keywordEach kws X.env)).any (·.1.isNone)) = false := by rfl) :
    PE X (.Call (.Name x p) (e :: es) kws pos) (tCallKS n ks.length sp gV E t tk) := by
  refine ⟨fun pins s σ H Q I h => ?_⟩
  refine wpAny_Call_Name_kw (ld_glob I hg hm ?_ hdb)
  refine PySem.W.callWith_KW (h₀ := X.base) I.ok.mod.kin hk hall (thn (ha.run pos pins s σ H _ I h) fun us s1 ⟨vs, H1, I1, r, q⟩ => ?_) hpl he
  refine thn (hkw.run pos pins s1 σ H1 _ I1 q) fun ws s2 ⟨zs, H2, I2, rz, l1, l2, q2⟩ => ⟨I2.kIn, ?_⟩
  rw [hks]
  exact run_fnKS F hr hb (hx σ) I2 r rz l1 l2 q2
end
end L2
namespace L2N
open PySem PySem.Spec PyProof.Rows L2
/-- what the clauses wish, each with its name's slot -/
def wManyAs (K : PySem.W.Frag) (Wout : WX) (D : Ends) : List (Value × Nat × (Addr → Value → Option Addr → TS)) → WX
  | [] => Wout
  | (c, i, ts) :: r => wAs K c i ts (wManyAs K Wout D r) D
inductive HdsAs (X : Cx) : List ExceptHandler → List (Value × Nat × (Addr → Value → Option Addr → TS)) → Prop
  | nil : HdsAs X [] []
  | cons {x n : Str} {c : Value} {i : Nat} {ts : Addr → Value → Option Addr → TS} {b₀ : Stmt} {suite : List Stmt} {np pos' : Pos} {hds : List ExceptHandler} {l : List (Value × Nat × (Addr → Value → Option Addr → TS))} (hc : Names X x c)
      (hi : X.N[i]? = some n) (hln : X.env.kindOf n = some .local)
      (hsu : ∀ (a : Addr) (oe : Obj) (cls : Value) (d : Option Addr) (pn : List (Addr × Obj)), Zn cls d oe → (∃ vs, oe.data = .fields vs) → PSs (X.suite a ((a, oe) :: pn)) (b₀ :: suite) (ts a cls d)) (r : HdsAs X hds l) :
      HdsAs X (.ExceptHandler (some (.Name x np)) (some n) (b₀ :: suite) pos' :: hds) ((c, i, ts) :: l)
section
variable {X : Cx} {body : List Stmt} {h₀ : ExceptHandler} {hds : List ExceptHandler} {l : List (Value × Nat × (Addr → Value → Option Addr → TS))} {pos : Pos} {tb : WX → TS} {Wout : WX}
theorem ps_try_manyAs (hs : X.stack = X.env :: X.outer) (hf : X.env.frame = some X.env.locals) (hN : X.N.Nodup) (tk : Takes X Wout)
    (hb : ∀ (W : WX) (pn : List (Addr × Obj)) (xe : Value → Shared → Prop), Takes (X.tr pn xe) W → PassesOwn (model X.prog X.w) X.A X.env xe → PSs (X.tr pn xe) body (tb W))
    (hh : HdsAs X (h₀ :: hds) l) : PS X (.Try body (h₀ :: hds) [] [] pos) (fun D σ H => tb (wManyAs X.K Wout D l) D σ H) := by
  refine ⟨fun pins s σ H D I h => ?_⟩
  have ok := I.ok
  have hfr : X.A.frames = some (X.env :: X.outer) := by rw [ok.frames, hs]
  refine wpAny_Try_except ?_
  refine wpAny_mono ((hb (wManyAs X.K Wout D l) (X.pn ++ pins) (fun e s₁ => wpAny (model X.prog X.w) X.A (noteFrame e X.env) (fun _ s₂ => wpAny (model X.prog X.w) X.A (setFlight e none) (fun _ s₃ =>
    wpAny (model X.prog X.w) X.A (handleBy e X.env (h₀ :: hds)) (SP X pins D) X.xe s₃) X.xe s₂) X.xe s₁) (fun u s' xx => ?_) PassesOwn.looking).run [] s σ H D (I.toTry _) h) (fun f s1 hsp => ?_) (fun e s1 he => he)
  · -- the catch
    obtain ⟨a, B, sI, pins', σ', H', cls, d, rfl, J', nb, up, sky, na, os, ag, w⟩ := xx
    have J : Inv X pins σ' H' sI := J'.ofTry ok
    have sky' : Sky B (X.env :: X.outer) a (Zn cls d) X.env.locals s'.heap := by rw [← hs]; exact sky
    show wpAny (model X.prog X.w) X.A (noteFrame (.ref a) X.env) _ _ _
    refine Sky.land Zn.steady hfr hf sky' fun h3 fl3 up3 => ?_
    have J3 : Inv X pins σ' H' { s' with heap := h3 } := J.landed nb fl3.1 (up.trans up3) os ag
    obtain ⟨oe3, vs3, he3, hz3, hd3⟩ := fl3.there
    have notFr : ∀ {h : Heap} {o : Obj} {vs : Array Value}, h.FunFrames B (X.env :: X.outer) → h.get? a = some o → o.data = .fields vs → a ∉ frs (X.env :: X.outer) := fun {h o vs} ff e dd hm => by
      obtain ⟨_, o', e', hnf⟩ := ff.mem hm
      rw [e] at e'; cases e'
      exact hnf _ dd
    have nfr := notFr fl3.2.2.1 he3 hd3
    have nL : a ≠ X.env.locals := fun z => nfr (List.mem_filterMap.mpr ⟨X.env, List.mem_cons_self, by rw [hf, z]⟩)
    have nF : a ∉ X.fs := fun hm => by
      obtain ⟨e, he, q⟩ := List.mem_filterMap.mp hm
      exact nfr (List.mem_filterMap.mpr ⟨e, List.mem_cons_of_mem _ he, q⟩)
    have S3 := J3.suite he3 hd3 na nL nF
    have go : ∀ {hds' : List ExceptHandler} {l' : List (Value × Nat × (Addr → Value → Option Addr → TS))}, HdsAs X hds' l' → wManyAs X.K Wout D l' cls d σ' H' →
        wpAny (model X.prog X.w) X.A (handleBy (.ref a) X.env hds') (SP X pins D) X.xe { s' with heap := h3 } := by
      intro hds' l' hk
      induction hk with
      | nil =>
        intro w
        refine wpAny_handleBy_nil ?_
        obtain ⟨k1, k2, k3, oe, vs, T, oT, ts', he, hz, hd, h1, hr⟩ := id fl3
        unfold PySem.passOn
        refine wpAny_bind (wpAny_field he hd h1 ?_)
        rw [if_neg (show ¬ ((Value.ref T == Value.none) = true) from by simp)]
        have fin : wpAny (model X.prog X.w) X.A (setFlight (.ref a) X.env.frame) (fun _ s4 => wpAny (model X.prog X.w) X.A (throw (.ref a) : Sem Flow) (SP X pins D) X.xe s4) X.xe { s' with heap := h3 } := by
          rw [hf]
          refine HandSPX.setFlight_upZ fl3 fun h4 hh4 up4 => wpAny_throw (tk _ _ ?_)
          exact ⟨a, B, sI, pins, σ', H', cls, d, rfl, J, nb, (up.trans up3).trans up4, .inr (.inr (by rw [hs]; exact hh4)), na, os, ag, w⟩
        first
          | exact wpAny_bind (wpAny_pure (wpAny_bind fin))
          | exact wpAny_bind fin
      | @cons x n c i ts b₀ suite np pos' hds2 l2 hc hi hln hsu r ih =>
        intro w
        obtain ⟨b, hb1, hyes, hno⟩ := w
        have hloc : Loc X.env.scope n := .inl hln
        refine wpAny_handleBy_cons (codeAny_handlers_test ?_) (by intro q; cases q)
        have LT : PySem.W.Looks (model X.prog X.w) h3 (typeOf (.ref a)) cls := fun A Q E s k q => wpAny_typeOf_ref (k _ _ he3) (by rw [hz3.1]; exact q)
        have LM := PySem.W.exm_one (M := model X.prog X.w) (J3.kIn) LT hb1
        have test : ∀ {Q : Value → Shared → Prop} {E : Value → Shared → Prop}, Q c { s' with heap := h3 } → wpAny (model X.prog X.w) (X.A.mark (some (.ref a))) (eval (.Name x np) X.env) Q E { s' with heap := h3 } := fun {Q E} q => by
          obtain ⟨hg, hdbg, hm | ⟨hm, hv, hnn⟩⟩ := hc
          · exact ld_glob (X := X.suite a ((a, oe3) :: (X.pn ++ pins))) S3 hg hm q hdbg
          · exact ld_blt (X := X.suite a ((a, oe3) :: (X.pn ++ pins))) S3 hg hm hv q hnn hdbg
        refine test (LM.here ?_)
        cases b with
        | true =>
          refine codeAny_handlers_suite_as ?_
          refine HandSPX.lands_againZ fl3 fun h4 fl4 up4 => ?_
          have J4 : Inv X pins σ' H' { s' with heap := h4 } := J.landed nb fl4.1 ((up.trans up3).trans up4) os ag
          obtain ⟨oe4, vs4, he4, hz4, hd4⟩ := fl4.there
          have S4 := J4.suite he4 hd4 na nL nF
          refine store_ok (X := X.suite a ((a, oe4) :: (X.pn ++ pins))) (v := .ref a) S4 hN hi hloc rfl (fun s5 S5 => ?_) (.inr hln)
          refine wpAny_mono ((hsu a oe4 cls d (X.pn ++ pins) hz4 ⟨_, hd4⟩).run [] s5 _ H' _ S5 (hyes rfl a na)) (fun f s6 hsp => ?_) (fun _ _ z => False.elim z)
          have end_ : ∀ {σ6 : St} {H6 : Hp} {Q : Shared → Prop}, Inv (X.suite a ((a, oe4) :: (X.pn ++ pins))) [] σ6 H6 s6 → (∀ s7, Inv X pins (σ6.set i none) H6 s7 → Q s7) →
              wpAny (model X.prog X.w) X.A (do bindName X.env n .none; unbindBehindTheSuite X.env n pos') (fun _ s7 => Q s7) X.xe s6 := fun {σ6 H6 Q} S6 hq => gone_ok (S6.unsuite ok) hN hi hln hq
          cases f with
          | next =>
            obtain ⟨σ6, H6, S6, q6⟩ := hsp
            exact end_ S6 fun s7 J7 => ⟨_, _, J7, q6⟩
          | brk =>
            obtain ⟨σ6, H6, S6, q6⟩ := hsp
            exact end_ S6 fun s7 J7 => ⟨_, _, J7, q6⟩
          | cont =>
            obtain ⟨σ6, H6, S6, q6⟩ := hsp
            exact end_ S6 fun s7 J7 => ⟨_, _, J7, q6⟩
          | ret u =>
            obtain ⟨v6, σ6, H6, S6, r6, q6⟩ := hsp
            exact end_ S6 fun s7 J7 => ⟨_, _, _, J7, r6, q6⟩
        | false =>
          show wpAny _ X.A (handleBy (.ref a) X.env hds2) _ _ _
          exact ih (hno rfl)
    exact go hh w
  · cases f with
    | next =>
      obtain ⟨σ', H', J', q⟩ := hsp
      exact wpAny_execs_nil ⟨σ', H', J'.ofTry ok, q⟩
    | brk =>
      obtain ⟨σ', H', J', q⟩ := hsp
      exact ⟨σ', H', J'.ofTry ok, q⟩
    | cont =>
      obtain ⟨σ', H', J', q⟩ := hsp
      exact ⟨σ', H', J'.ofTry ok, q⟩
    | ret u =>
      obtain ⟨v, σ', H', J', r, q⟩ := hsp
      exact ⟨v, σ', H', J'.ofTry ok, r, q⟩
end
end L2N

/-! raise C(..), a class with an __init__ of its own, values by name too -/
namespace L2
open PySem PySem.Spec PyProof.Rows
/-- what is asked of C(..) that is raised -/
def tMkN (C : Addr) (n m : Nat) (sp : Sp) (gV : List V → List V → List V) (t tk : TA) : St → Hp → XK → Prop := fun σ H Q =>
  t σ H fun vs H1 => tk σ H1 fun zs H2 => vs.length = n ∧ zs.length = m ∧ ∀ a, H2 a = none → sp (gV (.ref a :: vs) zs) (upd H2 a (exo a C none))
    (fun v H3 => v = .non ∧ ∃ (d : Addr) (fs : List (Str × V)), H3 a = some (exo a C (some d)) ∧ H3 d = some (exd d fs) ∧ H2 d = none ∧ Q (.ref C) (some d) (upd (del H3 a) d (.xd fs))) fun _ _ _ => False
section
variable {X : Cx} {CX : CXT} {k n : Nat} {C fI : Addr} {fd : FuncData} {ps ks : List Str} {sp : Sp} {x : Str} {p pos : Pos}
variable {e : Expr} {es : List Expr} {kws : List Keyword} {t tk : TA} {g : List Value → List Value → List Value} {gV : List V → List V → List V}
theorem run_mkN {pins : List Pin} {σ : St} {H : Hp} {s : Shared} {Q : XK} {us ws : List Value} {vs zs : List V} (T : OexC X.K C)
    (iC : PySem.W.findIn X.K (.ref C) "__init__" = some (some (.ref fI))) (tI : PySem.W.typeIn X.K (.ref fI) = some (.type "function"))
    (F : FnOk X.prog X.w X.K X.mg X.base CX k fI fd ps sp) (hr : Room (k + 1) X.A) (hb : KBn X.K fd ps (n + 1) ks g gV)
    (hx : Passes CX X fun _ _ _ => False) (I : Inv X pins σ H s) (r : Vals vs us) (rz : Vals zs ws) (l1 : vs.length = n)
    (l2 : zs.length = ks.length) (hn : n ≤ 1000)
    (h : ∀ a, H a = none → sp (gV (.ref a :: vs) zs) (upd H a (exo a C none)) (fun v H3 => v = .non ∧ ∃ (d : Addr) (fs : List (Str × V)), H3 a = some (exo a C (some d)) ∧ H3 d = some (exd d fs) ∧ H d = none ∧ Q (.ref C) (some d) (upd (del H3 a) d (.xd fs))) fun _ _ _ => False) :
    wpAny (model X.prog X.w) X.A (call (.ref C) us (ks.zip ws)) (L2N.MkP X pins σ Q) X.xe s := by
  obtain ⟨nm, q, N, bs, bm, sn, sub, ab, col, dd, k0, k1, k2, k3, k5, hC, hbm⟩ := T.cls
  obtain ⟨hp, gs, dr, tk0, os⟩ := s
  have le1 : hp.objs.size ≤ hp.objs.size + 1 := Nat.le_succ _
  have hq := h (hp.objs.size + 1) (I.hok.fresh le1)
  have up : ∀ b o, hp.get? b = some o → (PySem.MlE.withNew hp C us).get? b = some o :=
    fun b o e => Heap.get?_push_of_some _ (Heap.get?_push_of_some _ e)
  have atE : (PySem.MlE.withNew hp C us).get? (hp.objs.size + 1) = some (PySem.HandSPX.excO C hp.objs.size) := by heap_get
  have I2 : Inv X pins σ (upd H (hp.objs.size + 1) (exo (hp.objs.size + 1) C none)) ⟨PySem.MlE.withNew hp C us, gs, dr, tk0, os⟩ :=
    I.laid (t' := tk0) (a := hp.objs.size + 1) (o := exo (hp.objs.size + 1) C none) (h' := PySem.MlE.withNew hp C us) up le1 (exo_ok atE)
  have r1 : Vals (V.ref (hp.objs.size + 1) :: vs) (Value.ref (hp.objs.size + 1) :: us) := .cons rfl r
  have r2 := hb.rel r1 rz
  have e1 : (Value.ref (hp.objs.size + 1) :: us).length = n + 1 := r1.length.symm.trans (congrArg Nat.succ l1)
  have e2 : ws.length = ks.length := rz.length.symm.trans l2
  have hus : us.length ≤ sizeLine := by
    have z := r.length
    rw [sizeLine_eq]
    omega
  refine wpAny_call (PySem.MlE.callK PySem.F.excBase_ValueError (fun Y => PySem.HandSPX.refsVE_contains Y bm hbm)
    (I.kIn _ _ hC) (PySem.W.looks_findIn I.kIn iC) (fun self => PySem.W.bind_fn I.kIn self tI) hus ?_)
  refine codeAny_mono (F.run _ X.stack _ _ ⟨Value.ref (hp.objs.size + 1) :: us, ks.zip ws⟩ (g (Value.ref (hp.objs.size + 1) :: us) ws)
    _ _ (fun _ _ _ => False) (hr.make C us (ks.zip ws)) (I2.env0.make C us (ks.zip ws))
    (hb.to _ (Value.ref (hp.objs.size + 1) :: us) ws I2.kIn e1 e2) r2 hq) fun r s1 h1 => ?_
  cases r with
  | error er => exact hx pins σ _ _ er s1 I2 h1
  | ok fl =>
    cases fl with
    | ret u =>
      obtain ⟨v, H3, os2, bare2, un2, hok2, rv, ev, d, fs, ea, ed, hd1, q2⟩ := h1
      subst ev
      obtain ⟨h2, g2, d2, t2, os'⟩ := s1
      obtain ⟨t0, G, J, kG, ge, hoe, na⟩ := mk_end0 (d2 := d2) (t2 := t2) I le1 up un2 hok2 os2 bare2 ea ed hd1
      refine ⟨rv, ⟨hp.objs.size + 1, _, _, ⟨G, g2, d2, t2, os'⟩, _, .ref C, some d, rfl, J, kG, ge, hoe, ⟨rfl, rfl, fun vs hv => ?_⟩, rfl, rfl, na, rfl, bare2, raises_own T.exC T.tyC, q2⟩⟩
      cases hv
      rfl
    | next => exact False.elim h1
    | brk => exact False.elim h1
    | cont => exact False.elim h1
theorem pmk_mkN (T : OexC X.K C) (iC : PySem.W.findIn X.K (.ref C) "__init__" = some (some (.ref fI)))
    (tI : PySem.W.typeIn X.K (.ref fI) = some (.type "function")) (FI : FnOk X.prog X.w X.K X.mg X.base CX k fI fd ps sp) (hr : Room (k + 1) X.A)
    (hb : KBn X.K fd ps (n + 1) [] g gV) (hx : Passes CX X fun _ _ _ => False) (hn : n ≤ 1000) (hg : Gl X x) (hm : X.mg x = some (.ref C)) (ha : PA X (e :: es) t)
    (hdb : (x == ("__debug__" : Str)) = false := by decide) (he : starEach (e :: es) X.env = (false, eval e X.env) :: starEach es X.env := by rfl)
    (hpl : (backTo pos (starEach es X.env)).any (·.1) = false := by rfl) : L2N.PMk X (.Call (.Name x p) (e :: es) [] pos) (tMkN C n 0 sp gV t tNil) := by
  intro pins s σ H Q I h
  refine wpAny_Call_Name_kw (ld_glob I hg hm ?_ hdb)
  refine PySem.W.callWith_K (h₀ := X.base) I.ok.mod.kin T.kC ?_ he hpl
  refine thn (ha.run pos pins s σ H _ I h) fun us s1 ⟨vs, H1, I1, r, l1, l2, q⟩ => ⟨I1.kIn, ?_⟩
  exact run_mkN (ks := []) (ws := []) (zs := []) T iC tI FI hr hb hx I1 r .nil l1 rfl hn q
theorem pmk_mkNK (T : OexC X.K C) (iC : PySem.W.findIn X.K (.ref C) "__init__" = some (some (.ref fI)))
    (tI : PySem.W.typeIn X.K (.ref fI) = some (.type "function")) (FI : FnOk X.prog X.w X.K X.mg X.base CX k fI fd ps sp) (hr : Room (k + 1) X.A)
    (hb : KBn X.K fd ps 1 ks g gV) (hx : Passes CX X fun _ _ _ => False) (hg : Gl X x) (hm : X.mg x = some (.ref C)) (hkw : PK X kws tk)
    (hall : (backToKw pos (keywordEach kws X.env)).all (·.1.isSome) = true := by rfl)
    (hks : (backToKw pos (keywordEach kws X.env)).filterMap (·.1) = ks := by rfl) (hdb : (x == ("__debug__" : Str)) = false := by decide)
    (hpl : ((backTo pos (starEach [] X.env)).any (·.1) || (backToKw pos (keywordEach kws X.env)).any (·.1.isNone)) = false := by rfl) :
    L2N.PMk X (.Call (.Name x p) [] kws pos) (tMkN C 0 ks.length sp gV tNil tk) := by
  intro pins s σ H Q I h
  refine wpAny_Call_Name_kw (ld_glob I hg hm ?_ hdb)
  refine PySem.W.callWith_KW0 (h₀ := X.base) I.ok.mod.kin T.kC hall ?_ hpl
  refine thn (hkw.run pos pins s σ H _ I h) fun ws s2 ⟨zs, H2, I2, rz, l1, l2, q2⟩ => ⟨I2.kIn, ?_⟩
  rw [hks]
  exact run_mkN (us := []) (vs := []) T iC tI FI hr hb hx I2 .nil rz rfl l2 (Nat.zero_le _) q2
end
theorem pmk_mono {X : Cx} {e : Expr} {t u : St → Hp → XK → Prop} (h : L2N.PMk X e t) (k : ∀ σ H Q, u σ H Q → t σ H Q) : L2N.PMk X e u := fun pins s σ H Q I q => h pins s σ H Q I (k _ _ _ q)
/-- X(v), v in slot i, that is raised -/
def tRs1 (i : Nat) (C : Addr) (f : Str) : St → Hp → XK → Prop := fun σ H Q => ∃ v, σ[i]? = some (some v) ∧ ∀ d H', Same H H' → H' d = some (.xd [(f, v)]) → Q (.ref C) (some d) H'
def tRs2 (i j : Nat) (C : Addr) (f g : Str) : St → Hp → XK → Prop := fun σ H Q => ∃ v w, σ[i]? = some (some v) ∧ σ[j]? = some (some w) ∧ ∀ d H', Same H H' → H' d = some (.xd [(g, w), (f, v)]) → Q (.ref C) (some d) H'
theorem raised_at {H : Hp} {a C d : Addr} {fs : List (Str × V)} {Q : XK} (ha : H a = none) (n : upd H a (exo a C none) d = none) (ne : d ≠ a) (q : ∀ d H', Same H H' → H' d = some (.xd fs) → Q (.ref C) (some d) H') :
    ∃ (d' : Addr) (fs' : List (Str × V)), withEv (upd H a (exo a C none)) a C d fs a = some (exo a C (some d')) ∧ withEv (upd H a (exo a C none)) a C d fs d' = some (exd d' fs') ∧ H d' = none ∧
      Q (.ref C) (some d') (upd (del (withEv (upd H a (exo a C none)) a C d fs) a) d' (.xd fs')) := by
  rw [upd_withEv]
  have n2 : H d = none := by rwa [upd_ne ne] at n
  refine ⟨d, fs, by unfold withEv; rw [upd_same], by unfold withEv; rw [upd_ne ne, upd_same], n2, q _ _ (fun b o z => ?_) upd_same⟩
  have hb : b ≠ a := ne_of_none z ha
  have hd : b ≠ d := ne_of_none z n2
  unfold withEv
  rw [upd_ne hd, del_ne hb, upd_ne hb, upd_ne hd]
  exact z
section
variable {X : Cx} {x f g : Str} {i j : Nat} {v u : Expr} {p pos kp kp2 : Pos}
theorem pmk_e1 (O : One X.prog X.w X.K X.mg X.base x f) (hr : Room 2 X.A) (hv : PE X v (tVar i)) (hg : Gl X x) (hdb : (x == ("__debug__" : Str)) = false := by decide)
    (he : starEach [v] X.env = (false, eval v X.env) :: starEach [] X.env := by rfl) (hpl : (backTo pos (starEach [] X.env)).any (·.1) = false := by rfl) :
    L2N.PMk X (.Call (.Name x p) [v] [] pos) (tRs1 i (He.ga X.K x) f) := by
  obtain ⟨fd, F, b1, b2⟩ := O.ini
  refine pmk_mono (pmk_mkN O.T O.iC O.tI F hr b1 pass0 (by decide) hg O.mgx (pa_cons hv pa_nil he) hdb he hpl) fun σ H Q h => ?_
  obtain ⟨y, hy, q⟩ := h
  exact ⟨y, hy, rfl, rfl, fun a ha => ⟨a, y, rfl, upd_same, fun dx n ne => ⟨rfl, raised_at ha n ne q⟩⟩⟩
theorem pmk_e1K (O : One X.prog X.w X.K X.mg X.base x f) (hr : Room 2 X.A) (hv : PE X v (tVar i)) (hg : Gl X x) (hdb : (x == ("__debug__" : Str)) = false := by decide)
    (hall : (backToKw pos (keywordEach [⟨some f, v, kp⟩] X.env)).all (·.1.isSome) = true := by rfl)
    (hks : (backToKw pos (keywordEach [⟨some f, v, kp⟩] X.env)).filterMap (·.1) = [f] := by rfl)
    (hpl : ((backTo pos (starEach [] X.env)).any (·.1) || (backToKw pos (keywordEach [⟨some f, v, kp⟩] X.env)).any (·.1.isNone)) = false := by rfl) :
    L2N.PMk X (.Call (.Name x p) [] [⟨some f, v, kp⟩] pos) (tRs1 i (He.ga X.K x) f) := by
  obtain ⟨fd, F, b1, b2⟩ := O.ini
  refine pmk_mono (pmk_mkNK O.T O.iC O.tI F hr b2 pass0 hg O.mgx (pk_cons hv pk_nil) hall hks hdb hpl) fun σ H Q h => ?_
  obtain ⟨y, hy, q⟩ := h
  exact ⟨y, hy, rfl, rfl, fun a ha => ⟨a, y, rfl, upd_same, fun dx n ne => ⟨rfl, raised_at ha n ne q⟩⟩⟩
theorem pmk_e2 (O : Two X.prog X.w X.K X.mg X.base x f g) (hr : Room 2 X.A) (hv : PE X v (tVar i)) (hu : PE X u (tVar j)) (hg : Gl X x) (hdb : (x == ("__debug__" : Str)) = false := by decide)
    (he : starEach [v, u] X.env = (false, eval v X.env) :: starEach [u] X.env := by rfl) (he2 : starEach [u] X.env = (false, eval u X.env) :: starEach [] X.env := by rfl)
    (hpl : (backTo pos (starEach [u] X.env)).any (·.1) = false := by rfl) : L2N.PMk X (.Call (.Name x p) [v, u] [] pos) (tRs2 i j (He.ga X.K x) f g) := by
  obtain ⟨fd, F, b1, b2, b3, b4⟩ := O.ini
  refine pmk_mono (pmk_mkN O.T O.iC O.tI F hr b1 pass0 (by decide) hg O.mgx (pa_cons hv (pa_cons hu pa_nil he2) he) hdb he hpl) fun σ H Q h => ?_
  obtain ⟨y, z, hy, hz, q⟩ := h
  exact ⟨y, hy, z, hz, rfl, rfl, fun a ha => ⟨a, y, z, rfl, upd_same, fun dx n ne => ⟨rfl, raised_at ha n ne q⟩⟩⟩
theorem pmk_e2R (O : Two X.prog X.w X.K X.mg X.base x f g) (hr : Room 2 X.A) (hv : PE X v (tVar i)) (hu : PE X u (tVar j)) (hg : Gl X x) (hdb : (x == ("__debug__" : Str)) = false := by decide)
    (hall : (backToKw pos (keywordEach [⟨some g, u, kp⟩, ⟨some f, v, kp2⟩] X.env)).all (·.1.isSome) = true := by rfl)
    (hks : (backToKw pos (keywordEach [⟨some g, u, kp⟩, ⟨some f, v, kp2⟩] X.env)).filterMap (·.1) = [g, f] := by rfl)
    (hpl : ((backTo pos (starEach [] X.env)).any (·.1) || (backToKw pos (keywordEach [⟨some g, u, kp⟩, ⟨some f, v, kp2⟩] X.env)).any (·.1.isNone)) = false := by rfl) :
    L2N.PMk X (.Call (.Name x p) [] [⟨some g, u, kp⟩, ⟨some f, v, kp2⟩] pos) (tRs2 i j (He.ga X.K x) f g) := by
  obtain ⟨fd, F, b1, b2, b3, b4⟩ := O.ini
  refine pmk_mono (pmk_mkNK O.T O.iC O.tI F hr b3 pass0 hg O.mgx (pk_cons hu (pk_cons hv pk_nil)) hall hks hdb hpl) fun σ H Q h => ?_
  obtain ⟨y, z, hy, hz, q⟩ := h
  exact ⟨z, hz, y, hy, rfl, rfl, fun a ha => ⟨a, y, z, rfl, upd_same, fun dx n ne => ⟨rfl, raised_at ha n ne q⟩⟩⟩
end
end L2

/-! a string's signs, whether or not an exception is handled -/
namespace L2
open PySem PySem.Spec PyProof.Rows
open HotX (HotAt)
section
variable {prog : Program} {w : World} {A : Around} {E : Value → Shared → Prop} {s : Shared} {it x1 : Addr} {x : Str} {t : Tok} {i : Nat} {Q : Option Value → Shared → Prop}
/-- the handled exception is no string's iterator -/
theorem hot_ne {ty : String} (hot : HotAt A x1 s.heap) (hit : s.heap.IsStrIter it ty x t i) : x1 ≠ it := by
  obtain ⟨_, o1, vs1, h1, d1, c1⟩ := hot
  obtain ⟨o, ho, hc, hd⟩ := hit
  intro z
  rw [z, ho] at h1
  cases h1
  rw [hd] at d1
  cases d1
  cases c1
theorem end_ascii_hot (hot : HotAt A x1 s.heap) (hit : s.heap.IsStrIter it "str_ascii_iterator" x t i) (hx : x.cps[i]? = none)
    (hQ : ∀ h1, (∀ b o, b ≠ it → s.heap.get? b = some o → h1.get? b = some o) → Q none { s with heap := h1 }) :
    wpAny (model prog w) A (pyNext (.ref it)) Q E s := by
  have ne := hot_ne hot hit
  obtain ⟨hh, o1, vs1, g1, d1, c1⟩ := hot
  have hT := hit.typeIs
  obtain ⟨o, ho, hc, hd⟩ := hit
  unfold pyNext
  refine wpAny_bind (wpAny_attempt (wpAny_callSpecial?_slot (name := Str.ofString "__next__") hT F.slot_str_ascii_iterator_next (wpAny_call_entry F.slot_str_ascii_iterator_next hT F.entry_str_ascii_iterator_next ?_
    (F.args_str_ascii_iterator_next_1 _))))
  show wpAny _ _ (field (.ref it) 0 >>= _) _ _ s
  refine wpAny_bind (wpAny_field ho hd (x := .str x t) rfl ?_)
  show wpAny _ _ (field (.ref it) 1 >>= _) _ _ s
  refine wpAny_bind (wpAny_field ho hd (x := .int i 0) rfl ?_)
  simp only [Int.toNat_natCast, hx]
  refine wpAny_bind (wpAny_rule (wpAny_bind (wpAny_setField ho hd (by simp) (wpAny_bind (wpAny_letGo ?_)))))
  show wpAny _ _ (newExc (.type "StopIteration") [] >>= _) _ _ _
  generalize hU : s.heap.update it _ = U
  have up : ∀ b u, b ≠ it → s.heap.get? b = some u → U.get? b = some u := fun b u n e => by
    rw [← hU, Heap.get?_update_other _ _ n.symm]
    exact e
  refine wpAny_bind ?_
  simp only [newExc, newTuple]
  refine wpAny_bind (wpAny_newObj_type ?_ (by size_fits))
  refine wpAny_bind (m := firstArgMember _ _) (wpAny_of_eq (a := Value.none) (by first | rfl | (simp only [firstArgMember]; rfl)) ?_)
  refine wpAny_newObj_type ?_ (by size_fits)
  have p1 := up _ _ ne g1
  refine HotX.raiseNew_hot ⟨hh, o1, vs1, Heap.get?_push_of_some _ (Heap.get?_push_of_some _ p1), d1, c1⟩ (Nat.ne_of_lt (Heap.lt_size (Heap.get?_push_of_some _ p1))) (Heap.get?_push_size _ rfl) rfl (by first | (simp; done) | (simp; omega)) ?_
  refine wpAny_bind (wpAny_isInstance (T := "StopIteration") (b := true) ⟨_, Heap.get?_update_self _ (Heap.get?_push_size _ rfl) rfl, rfl⟩ isSubtype_stop ?_)
  refine wpAny_pure (hQ _ fun b u n e => ?_)
  have e2 := up _ _ n e
  rw [Heap.get?_update_other _ _ (Nat.ne_of_gt (Heap.lt_size (Heap.get?_push_of_some _ e2)))]
  exact Heap.get?_push_of_some _ (Heap.get?_push_of_some _ e2)
theorem end_wide_hot (hot : HotAt A x1 s.heap) (hit : s.heap.IsStrIter it "str_iterator" x t i) (hx : x.cps[i]? = none)
    (hQ : ∀ h1, (∀ b o, b ≠ it → s.heap.get? b = some o → h1.get? b = some o) → Q none { s with heap := h1 }) :
    wpAny (model prog w) A (pyNext (.ref it)) Q E s := by
  have ne := hot_ne hot hit
  obtain ⟨hh, o1, vs1, g1, d1, c1⟩ := hot
  have hT := hit.typeIs
  obtain ⟨o, ho, hc, hd⟩ := hit
  unfold pyNext
  refine wpAny_bind (wpAny_attempt (wpAny_callSpecial?_slot (name := Str.ofString "__next__") hT F.slot_str_iterator_next (wpAny_call_entry F.slot_str_iterator_next hT F.entry_str_iterator_next ?_
    (F.args_str_iterator_next_1 _))))
  show wpAny _ _ (field (.ref it) 0 >>= _) _ _ s
  refine wpAny_bind (wpAny_field ho hd (x := .str x t) rfl ?_)
  show wpAny _ _ (field (.ref it) 1 >>= _) _ _ s
  refine wpAny_bind (wpAny_field ho hd (x := .int i 0) rfl ?_)
  simp only [Int.toNat_natCast, hx]
  refine wpAny_bind (wpAny_rule (wpAny_bind (wpAny_setField ho hd (by simp) (wpAny_bind (wpAny_letGo ?_)))))
  show wpAny _ _ (newExc (.type "StopIteration") [] >>= _) _ _ _
  generalize hU : s.heap.update it _ = U
  have up : ∀ b u, b ≠ it → s.heap.get? b = some u → U.get? b = some u := fun b u n e => by
    rw [← hU, Heap.get?_update_other _ _ n.symm]
    exact e
  refine wpAny_bind ?_
  simp only [newExc, newTuple]
  refine wpAny_bind (wpAny_newObj_type ?_ (by size_fits))
  refine wpAny_bind (m := firstArgMember _ _) (wpAny_of_eq (a := Value.none) (by first | rfl | (simp only [firstArgMember]; rfl)) ?_)
  refine wpAny_newObj_type ?_ (by size_fits)
  have p1 := up _ _ ne g1
  refine HotX.raiseNew_hot ⟨hh, o1, vs1, Heap.get?_push_of_some _ (Heap.get?_push_of_some _ p1), d1, c1⟩ (Nat.ne_of_lt (Heap.lt_size (Heap.get?_push_of_some _ p1))) (Heap.get?_push_size _ rfl) rfl (by first | (simp; done) | (simp; omega)) ?_
  refine wpAny_bind (wpAny_isInstance (T := "StopIteration") (b := true) ⟨_, Heap.get?_update_self _ (Heap.get?_push_size _ rfl) rfl, rfl⟩ isSubtype_stop ?_)
  refine wpAny_pure (hQ _ fun b u n e => ?_)
  have e2 := up _ _ n e
  rw [Heap.get?_update_other _ _ (Nat.ne_of_gt (Heap.lt_size (Heap.get?_push_of_some _ e2)))]
  exact Heap.get?_push_of_some _ (Heap.get?_push_of_some _ e2)
end
theorem turn_strW {P : Program} {w : World} {K : PySem.W.Frag} {tg : Expr} (it : Addr) (x : Str) (t : Tok) (ty : String) (hty : ty = "str_ascii_iterator" ∨ ty = "str_iterator") :
    TurnW P w K tg (Its x) [it] it (fun i h => h.IsStrIter it ty x t i) where
  obj := fun i h st b hb => by
    obtain rfl : b = it := by simpa using hb
    obtain ⟨o, e, c, d⟩ := st
    refine ⟨o, e, fun v z => ?_⟩
    rw [d] at z
    cases z
  keep := fun i h h1 st k => by
    obtain ⟨o, ho, r⟩ := st
    exact ⟨o, k it (by simp) o ho, r⟩
  item := by
    rintro X rfl rfl rfl i pins s σ H E hw I hf st hg
    obtain ⟨f0, f1, f2, f3, f4, f5⟩ := hf it (by simp)
    have lt : i < x.cps.size := hg
    have hx : x.cps[i]? = some x.cps[i] := Array.getElem?_eq_getElem lt
    have key : ∀ h1 : Heap, h1.IsStrIter it ty x t (i + 1) → Heap.SameBut it s.heap h1 → wpAny (model X.prog X.w) X.A (letOwnedTupleGo tg (.ref it) (.str ⟨#[x.cps[i]]⟩ s.toks))
        (fun _ s2 => ∃ y H1, Inv X pins σ H1 s2 ∧ RelV y (.str ⟨#[x.cps[i]]⟩ s.toks) ∧ (Its x).yld i H y H1 ∧ s2.heap.IsStrIter it ty x t (i + 1) ∧ ∀ b ∈ [it], H1 b = none) E { s with heap := h1, toks := s.toks + 1 } := by
      intro h1 st1 sb
      have I1 : Inv X pins σ H { s with heap := h1, toks := s.toks + 1 } := I.turned (fun b o hb e => (sb.2 b hb).trans e) f0 f1 f3 f4 f5
      obtain ⟨oi, e, cc, dd⟩ := id st1
      have hno : ["enumerate", "zip", "dict_itemiterator", "dict_reverseitemiterator", "odict_iterator", "itertools.zip_longest", "itertools.pairwise"].contains ty = false := by
        rcases hty with z | z
        · rw [z]; decide
        · rw [z]; decide
      exact go_of (s := { s with heap := h1, toks := s.toks + 1 }) e cc dd hno ⟨.str ⟨#[x.cps[i]]⟩, H, I1, ⟨s.toks, rfl⟩, ⟨rfl, _, hx, rfl⟩, st1, fun b hb => (hf b hb).1⟩
    rcases hty with z | z
    · subst z
      exact wpAny_pyNext_ascii_item st hx fun h1 st1 sb => ⟨_, rfl, key h1 st1 sb⟩
    · subst z
      exact wpAny_pyNext_wide_item st hx fun h1 st1 sb => ⟨_, rfl, key h1 st1 sb⟩
  done := by
    rintro X rfl rfl rfl i pins s σ H E hw I hf st hg
    obtain ⟨f0, f1, f2, f3, f4, f5⟩ := hf it (by simp)
    have hx : x.cps[i]? = none := Array.getElem?_eq_none hg
    rcases hty with z | z
    · subst z
      rcases hw with hw | ⟨x1, hot⟩
      · exact wpAny_pyNext_ascii_end hw st hx fun h1 eb => ⟨rfl, I.turned (t' := s.toks) (fun b o hb e => eb b o hb e) f0 f1 f3 f4 f5⟩
      · exact end_ascii_hot hot st hx fun h1 eb => ⟨rfl, I.turned (t' := s.toks) (fun b o hb e => eb b o hb e) f0 f1 f3 f4 f5⟩
    · subst z
      rcases hw with hw | ⟨x1, hot⟩
      · exact wpAny_pyNext_wide_end hw st hx fun h1 eb => ⟨rfl, I.turned (t' := s.toks) (fun b o hb e => eb b o hb e) f0 f1 f3 f4 f5⟩
      · exact end_wide_hot hot st hx fun h1 eb => ⟨rfl, I.turned (t' := s.toks) (fun b o hb e => eb b o hb e) f0 f1 f3 f4 f5⟩
  self := fun A i s Q E st h => by
    rcases hty with z | z
    · subst z
      exact wpAny_pyIter_striter_ascii st h
    · subst z
      exact wpAny_pyIter_striter_wide st h
theorem one_itW {X : Cx} {tg : Expr} {pins : List Pin} {σ : St} {H : Hp} {s : Shared} {R : It → Hp → Prop} {x : Str} {t : Tok} {ty : String} {o : Obj} {tk : Nat} (I : Inv X pins σ H s) (hty : ty = "str_ascii_iterator" ∨ ty = "str_iterator")
    (st : (s.heap.push o).IsStrIter s.heap.objs.size ty x t 0) (q : R (Its x) H) : PIEW X pins σ tg R (.ref s.heap.objs.size) { s with heap := s.heap.push o, toks := tk } := by
  refine ⟨s.heap.objs.size, [s.heap.objs.size], _, _, H, rfl, I.kept (t' := tk) fun b o e => Heap.get?_push_of_some _ e, turn_strW _ x t ty hty, st, fun b hb => ?_, q⟩
  obtain rfl : b = s.heap.objs.size := by simpa using hb
  exact I.fpOk (Nat.le_refl _) (I.hok.fresh (Nat.le_refl _))
theorem pi_strW {X : Cx} {tg e : Expr} {te : TE} (he : PE X e te) : PIW X tg e (iStr te) := by
  refine ⟨fun pins s σ H R I h => ?_⟩
  refine thn (he.run pins s σ H _ I h) fun v s1 ⟨y, H1, I1, r1, x, ex, q⟩ => ?_
  subst ex
  obtain ⟨t, rfl⟩ := r1
  cases ha : x.cps.all (· < 128)
  · exact wpAny_pyIter_wide ha (one_itW I1 (.inr rfl) ⟨_, Heap.get?_push_size _ rfl, rfl, rfl⟩ q)
  · exact wpAny_pyIter_ascii ha (one_itW I1 (.inl rfl) ⟨_, Heap.get?_push_size _ rfl, rfl, rfl⟩ q)
end L2

namespace L2
open PySem PySem.Spec PyProof.Rows
section
variable {X : Cx} {ps : List Pin}
/-- type(e), e an exception -/
theorem call_typeEv (hps : ∀ p ∈ ps, p ∈ X.pn) : CallR X (.type "type") (fun xs H Q => ∃ (a C d : Addr) (fs : List (Str × V)), xs = [.ref a] ∧ EvP ps H a C d fs ∧ Q (.ref C) H) := by
  intro pins s σ H xs us Q I r h
  obtain ⟨a, C, d, fs, rfl, ev, q⟩ := h
  obtain ⟨u, rfl, ru⟩ := vals1 r
  obtain rfl : u = Value.ref a := ru
  obtain ⟨oe, od, mA, J, _⟩ := ev.look I hps
  obtain ⟨hh, g, d2, t, os⟩ := s
  refine call_type_obj J.at_ (by rw [J.cls]; rfl) ?_
  rw [J.cls]
  exact ⟨.ref C, H, I, rfl, q⟩
theorem op_isRT : OpR X (compareOp .Is) (fun x y H Q => ∃ a b, x = .ref a ∧ y = .ty b ∧ Q (.bl false) H) := by
  intro pins s σ H x y v u Q I rx ry h
  obtain ⟨a, b, rfl, rfl, q⟩ := h
  obtain rfl : v = Value.ref a := rx
  obtain rfl : u = Value.type b := ry
  exact wpAny_is_other rfl (fun z => nomatch z) ⟨.bl false, H, I, rfl, q⟩
theorem op_notRT : OpR X (compareOp .IsNot) (fun x y H Q => ∃ a b, x = .ref a ∧ y = .ty b ∧ Q (.bl true) H) := by
  intro pins s σ H x y v u Q I rx ry h
  obtain ⟨a, b, rfl, rfl, q⟩ := h
  obtain rfl : v = Value.ref a := rx
  obtain rfl : u = Value.type b := ry
  exact wpAny_isNot_plain rfl (fin_bl I q rfl)
end
/-- data as in Rdd: its type's name -/
theorem Rdd.tyb {K : PySem.W.Frag} {H : Hp} {v : V} {d : PyData} (r : Rdd H v d) : ∃ T : String, TyB K H v T ∧ TyX K H v (.type T) ∧ (T = "str" → ∃ z, v = .str z ∧ d = .str z) ∧ (T = "tuple" → ∃ p xs ds, v = .ref p ∧ d = .tuple ds ∧ H p = some (.tup xs) ∧ RddAll H xs ds) := by
  cases r with
  | non => exact ⟨_, .non, .base .non, (fun z => absurd z (by decide)), fun z => absurd z (by decide)⟩
  | bl b => exact ⟨_, .bl b, .base (.bl b), (fun z => absurd z (by decide)), fun z => absurd z (by decide)⟩
  | int i => exact ⟨_, .int i, .base (.int i), (fun z => absurd z (by decide)), fun z => absurd z (by decide)⟩
  | str x => exact ⟨_, .str x, .base (.str x), (fun _ => ⟨_, rfl, rfl⟩), fun z => absurd z (by decide)⟩
  | lst h r => exact ⟨_, .lst (SqL.of h), .base (.lst h), (fun z => absurd z (by decide)), fun z => absurd z (by decide)⟩
  | tup h r => exact ⟨_, .tup (SqT.of h), .base (.tup h), (fun z => absurd z (by decide)), fun _ => ⟨_, _, _, rfl, rfl, h, r⟩⟩
  | dK h r1 r2 => exact ⟨_, .dK h, .base (.dK h), (fun z => absurd z (by decide)), fun z => absurd z (by decide)⟩
end L2

/-! how long the text of data can be -/
namespace L2
open PySem PySem.Spec PyProof.Rows
open PySem.PyData
mutual
/-- its text is at most so long -/
def wt : PyData → Nat
  | .none => 4
  | .bool _ => 5
  | .int i => (PyData.shown (.int i)).length
  | .str x => 10 * x.length + 2
  | .list xs => wtAll xs + 2
  | .tuple xs => wtAll xs + 3
  | .dict kvs => wtKv kvs + 2
def wtAll : List PyData → Nat
  | [] => 0
  | x :: xs => wt x + 2 + wtAll xs
def wtKv : List (PyData × PyData) → Nat
  | [] => 0
  | q :: r => wt q.1 + wt q.2 + 4 + wtKv r
end
mutual
/-- all signs of it are plain ones -/
def asc : PyData → Bool
  | .str x => x.cps.toList.all fun c => decide (c < 128)
  | .list xs => ascAll xs
  | .tuple xs => ascAll xs
  | .dict kvs => ascKv kvs
  | _ => true
def ascAll : List PyData → Bool
  | [] => true
  | x :: xs => asc x && ascAll xs
def ascKv : List (PyData × PyData) → Bool
  | [] => true
  | q :: r => asc q.1 && (asc q.2 && ascKv r)
end
theorem from_le : ∀ (ts : List Str) (k : Nat) (acc : Str), (textFrom k acc ts).length ≤ acc.length + piled ts
  | [], k, acc => by
    show acc.length ≤ _
    omega
  | t :: r, k, acc => by
    have h := from_le r (k + 1) (acc ++ (if k > 0 then ", " else "" : String) ++ t)
    have e : (acc ++ (if k > 0 then ", " else "" : String) ++ t).length ≤ acc.length + 2 + t.length := by
      rw [strLen_append, strLen_append]
      have e2 : ((", " : String) : Str).length = 2 := rfl
      have e0 : (("" : String) : Str).length = 0 := rfl
      split
      · rw [e2] <;> omega
      · rw [e0] <;> omega
    have p : piled (t :: r) = t.length + 2 + piled r := by simp [piled]
    show (textFrom (k + 1) _ r).length ≤ _
    omega
theorem list_le (ts : List Str) : (listText ts).length ≤ piled ts + 2 := by
  unfold listText
  rw [strLen_append]
  have h := from_le ts 0 "["
  have e1 : (("[" : String) : Str).length = 1 := rfl
  have e2 : (("]" : String) : Str).length = 1 := rfl
  omega
theorem join_le (ts : List Str) : (Str.join ", " ts).length ≤ piled ts := by
  by_cases h : ts = []
  · subst h
    exact Nat.zero_le _
  · have z := join_length_add ts h
    omega
theorem tuple_le (ts : List Str) : (tupleText ts).length ≤ piled ts + 3 := by
  unfold tupleText
  rw [strLen_append, strLen_append]
  have h := join_le ts
  have e1 : (("(" : String) : Str).length = 1 := rfl
  have e2 : ((",)" : String) : Str).length = 2 := rfl
  have e3 : ((")" : String) : Str).length = 1 := rfl
  split
  · rw [e2] <;> omega
  · rw [e3] <;> omega
theorem dict_le (ts : List Str) : (dictText ts).length ≤ piled ts + 2 := by
  unfold dictText
  rw [strLen_append, strLen_append]
  have h := join_le ts
  have e1 : (("{" : String) : Str).length = 1 := rfl
  have e2 : (("}" : String) : Str).length = 1 := rfl
  omega
mutual
theorem shown_le : ∀ d : PyData, asc d = true → (PyData.shown d).length ≤ wt d
  | .none, _ => by simp only [PyData.shown, wt]; decide
  | .bool b, _ => by cases b <;> (simp only [PyData.shown, wt]; decide)
  | .int i, _ => by simp only [wt]; exact Nat.le_refl _
  | .str x, h => by
    simp only [PyData.shown, wt]
    refine PySem.StrLaws.reprText_len x fun c hc => ?_
    simp only [asc] at h
    have z := of_decide_eq_true (List.all_eq_true.mp h c hc)
    exact Nat.lt_of_lt_of_le z (by decide)
  | .list xs, h => by
    simp only [PyData.shown, wt]
    simp only [asc] at h
    have z := shownAll_le xs h
    have y := list_le (PyData.shownAll xs)
    omega
  | .tuple xs, h => by
    simp only [PyData.shown, wt]
    simp only [asc] at h
    have z := shownAll_le xs h
    have y := tuple_le (PyData.shownAll xs)
    omega
  | .dict kvs, h => by
    simp only [PyData.shown, wt]
    simp only [asc] at h
    have z := shownKv_le kvs h
    have y := dict_le (PyData.shownKv kvs)
    omega
theorem shownAll_le : ∀ xs : List PyData, ascAll xs = true → piled (PyData.shownAll xs) ≤ wtAll xs
  | [], _ => by simp [PyData.shownAll, piled, wtAll]
  | x :: xs, h => by
    simp only [ascAll, Bool.and_eq_true] at h
    have z := shown_le x h.1
    have y := shownAll_le xs h.2
    simp only [PyData.shownAll, wtAll]
    have p : piled (PyData.shown x :: PyData.shownAll xs) = (PyData.shown x).length + 2 + piled (PyData.shownAll xs) := by simp [piled]
    omega
theorem shownKv_le : ∀ kvs : List (PyData × PyData), ascKv kvs = true → piled (PyData.shownKv kvs) ≤ wtKv kvs
  | [], _ => by simp [PyData.shownKv, piled, wtKv]
  | q :: r, h => by
    obtain ⟨k, v⟩ := q
    simp only [ascKv, Bool.and_eq_true] at h
    have z := shown_le k h.1
    have y := shown_le v h.2.1
    have x := shownKv_le r h.2.2
    simp only [PyData.shownKv, wtKv]
    have p : piled ((PyData.shown k ++ (": " : Str) ++ PyData.shown v) :: PyData.shownKv r) = (PyData.shown k ++ (": " : Str) ++ PyData.shown v).length + 2 + piled (PyData.shownKv r) := by simp [piled]
    rw [p, strLen_append, strLen_append]
    have e2 : ((": " : String) : Str).length = 2 := rfl
    omega
end
/-- data whose text is told -/
structure Tame (d : PyData) : Prop where
  a : asc d = true
  s : d.showable = true
  h : d.depth ≤ 32
  w : wt d ≤ 1000000
theorem Tame.len {d : PyData} (t : Tame d) : d.shown.length ≤ sizeLine := by
  have z := shown_le d t.a
  have y := t.w
  rw [sizeLine_eq]
  omega
end L2

/-! != of two lists whose items are equal, whatever these are -/
namespace PySem.SeqAt
open AutoSeq1 (wpAny_loadPart')
open MeetsSeq MeetsSeq2 MeetsSeq3
section
variable {prog : Program} {w : World}
theorem ne_loopE (l r : Addr) (xs ys : Array Value) (n m : Nat) (d1 d2 : Option Addr) (s1 s2 : Array (Option Value)) (hsz : xs.size = ys.size) (k : Nat) :
    ∀ i : Nat, xs.size - i = k → MeetsIn prog w (Builtin.«list.__eq__.loop» ⟨[.ref l, .ref r, rawInt i, rawInt 3], []⟩)
      (fun A R s => s.heap.get? l = some { cls := .type "list", dict := d1, data := .seq xs n, slots := s1 } ∧
        s.heap.get? r = some { cls := .type "list", dict := d2, data := .seq ys m, slots := s2 } ∧
        (∀ j (h1 : j < xs.size) (h2 : j < ys.size), EqP prog w A.in1 s xs[j] ys[j] true) ∧ R (.ok (.ret (.bool false))) s) := by
  induction k with
  | zero =>
    intro i hk A R s h
    obtain ⟨hp, gs, dr, tk, os⟩ := s
    obtain ⟨hl, hr, he, h⟩ := h
    wp_walk using wpAny_loadPart' hl, wpAny_loadPart' hr
    have z1 : xs[((i : Nat) : Int).toNat]? = none := by simp; omega
    have z2 : ys[((i : Nat) : Int).toNat]? = none := by simp; omega
    rw [z1, z2]
    wp_walk using wpAny_loadPart' hl, wpAny_loadPart' hr
    show R (.ok (.ret (.bool (xs.size != ys.size)))) _
    rw [hsz]
    simpa using h
  | succ k ih =>
    intro i hk A R s h
    obtain ⟨hp, gs, dr, tk, os⟩ := s
    obtain ⟨hl, hr, he, h⟩ := h
    wp_walk using wpAny_loadPart' hl, wpAny_loadPart' hr
    have l1 : i < xs.size := by omega
    have l2 : i < ys.size := by omega
    have z1 : xs[((i : Nat) : Int).toNat]? = some xs[i] := by simp [l1]
    have z2 : ys[((i : Nat) : Int).toNat]? = some ys[i] := by simp [l2]
    have up : ((i : Int) + 1) = ((i + 1 : Nat) : Int) := by omega
    rw [z1, z2]
    refine wpAny_bind (he i l1 l2 _ _ ?_)
    wp_walk
    rw [up]
    refine ⟨plainId_quiet plain_eq_loop _, codeAny_builtin entry_eq_loop ?_⟩
    rw [Around.under_plainId plain_eq_loop _]
    exact ih (i + 1) (by omega) A R _ ⟨hl, hr, he, h⟩
theorem list_neE (l r : Addr) (xs ys : Array Value) (n m : Nat) (d1 d2 : Option Addr) (s1 s2 : Array (Option Value)) (hsz : xs.size = ys.size) :
    MeetsIn prog w (Builtin.«list.__ne__» ⟨[.ref l, .ref r], []⟩)
      (fun A R s => s.heap.get? l = some { cls := .type "list", dict := d1, data := .seq xs n, slots := s1 } ∧
        s.heap.get? r = some { cls := .type "list", dict := d2, data := .seq ys m, slots := s2 } ∧
        (∀ j (h1 : j < xs.size) (h2 : j < ys.size), EqP prog w A.in1 s xs[j] ys[j] true) ∧ R (.ok (.ret (.bool false))) s) := by
  intro A R s h
  obtain ⟨hp, gs, dr, tk, os⟩ := s
  obtain ⟨hl, hr, he, h⟩ := h
  have f3 := AutoSeq1.sub_list_list
  have same : ¬ (xs.size != ys.size) = true := by simp [hsz]
  wp_walk using wpAny_loadPart' hl, wpAny_loadPart' hr
  refine ⟨plainId_quiet plain_eq_loop _, codeAny_builtin entry_eq_loop ?_⟩
  rw [Around.under_plainId plain_eq_loop _]
  exact ne_loopE l r xs ys n m d1 d2 s1 s2 hsz _ 0 rfl A R _ ⟨hl, hr, he, h⟩
theorem rcNe_lists {A : Around} {s : Shared} {l r : Addr} {xs ys : Array Value} (hl : s.heap.IsList l xs) (hr : s.heap.IsList r ys) (hsz : xs.size = ys.size) (hu : A.units < cLine)
    (he : ∀ j (h1 : j < xs.size) (h2 : j < ys.size), EqP prog w A.in1 s xs[j] ys[j] true) (E Q : Value → Shared → Prop) (h : Q (.bool false) s) :
    wpAny (model prog w) A (richCompare .NotEq (.ref l) (.ref r)) Q E s := by
  obtain ⟨⟨c1, e1, f1, g1⟩, o1, hc1, n, hd1⟩ := id hl
  obtain ⟨⟨c2, e2, f2, g2⟩, o2, hc2, m, hd2⟩ := id hr
  simp only at hc1 hd1 hc2 hd2
  subst hc1 hd1 hc2 hd2
  have t1 : s.TypeIs (.ref l) "list" := ⟨_, o1, rfl⟩
  have t2 : s.TypeIs (.ref r) "list" := ⟨_, o2, rfl⟩
  refine wpAny_richCompare_same_room (op := .NotEq) t1 t2 F.slot_list_ne ?_ hu
  refine call_meetsIn F.slot_list_ne t1 F.entry_list_ne (F.args_list_ne_2 _ _) (list_neE l r xs ys n m e1 e2 g1 g2 hsz) ?_
  exact ⟨o1, o2, he, show Value.bool false ≠ Value.notImplemented ∧ Q (.bool false) s from ⟨(fun x => nomatch x), h⟩⟩
end
end PySem.SeqAt
namespace L2
open PySem PySem.Spec PyProof.Rows
/-- a != b, two lists of equal items -/
def rNeV (K : PySem.W.Frag) : R2 := fun x y H Q => ∃ (n : Nat) (a b : Addr) (xs ys : List V), n ≤ 60 ∧ x = .ref a ∧ y = .ref b ∧ SqL K H a xs ∧ SqL K H b ys ∧ Paired (EqV K H n) xs ys ∧ Q (.bl false) H
theorem op_neV {X : Cx} (hu : X.A.units + 64 < cLine) : OpR X (compareOp .NotEq) (rNeV X.K) := by
  intro pins s σ H x y v u Q I rx ry h
  obtain ⟨n, a, b, xs, ys, hn, rfl, rfl, ha, hb, hp, q⟩ := h
  obtain rfl : v = Value.ref a := rx
  obtain rfl : u = Value.ref b := ry
  obtain ⟨us, r1, p1, _⟩ := I.list ha
  obtain ⟨ws, r2, p2, _⟩ := I.list hb
  have hsz : us.toArray.size = ws.toArray.size := by
    rw [List.size_toArray, List.size_toArray, ← r1.length, ← r2.length]
    exact Paired.length hp
  refine SeqAt.rcNe_lists p1.isList p2.isList hsz (by omega) (fun j h1 h2 => ?_) _ _ ⟨.bl false, H, I, rfl, q⟩
  have k := items_run (fun x y v u => eqV_run I n X.A.in1 (by show X.A.units + 1 + n < cLine; omega) x y v u) hp r1 r2 j (by simpa using h1) (by simpa using h2)
  simpa using k
end L2

/-! a def of the text with its promise; small lemmas -/
namespace L2
open PySem PySem.Spec PyProof.Rows
abbrev Fd (K : PySem.W.Frag) (x : Str) (st : Stmt) (f : Addr) (fd : FuncData) : Prop := FunD K x x (defArgs st) (defBody st) (defScope st) [] [] f fd
/-- the def st of the text, called x, keeps sp -/
structure Ok (P : Program) (w : World) (K : PySem.W.Frag) (mg : Str → Option Value) (base : Heap) (CX : CXT) (k : Nat) (x : Str) (st : Stmt) (ps : List Str) (sp : Sp) : Prop where
  ex : ∃ f fd, mg x = some (.ref f) ∧ Fd K x st f fd ∧ Binds K fd ps [] ∧ FnOk P w K mg base CX k f fd ps sp
theorem Ok.mono {P : Program} {w : World} {K : PySem.W.Frag} {mg : Str → Option Value} {base : Heap} {CX : CXT} {j k : Nat} {x : Str} {st : Stmt} {ps : List Str} {sp : Sp} (O : Ok P w K mg base CX j x st ps sp) (h : j ≤ k) : Ok P w K mg base CX k x st ps sp :=
  let ⟨f, fd, g, F, b, o⟩ := O.ex
  ⟨f, fd, g, F, b, o.mono h⟩
theorem Ok.imp {P : Program} {w : World} {K : PySem.W.Frag} {mg : Str → Option Value} {base : Heap} {CX : CXT} {k : Nat} {x : Str} {st : Stmt} {ps : List Str} {sp sp' : Sp} (O : Ok P w K mg base CX k x st ps sp) (h : ∀ vs H Q E, sp' vs H Q E → sp vs H Q E) : Ok P w K mg base CX k x st ps sp' :=
  let ⟨f, fd, g, F, b, o⟩ := O.ex
  ⟨f, fd, g, F, b, o.imp h⟩
/-- .. that is called where no repr is under way -/
structure OkG (P : Program) (w : World) (K : PySem.W.Frag) (mg : Str → Option Value) (base : Heap) (k : Nat) (x : Str) (st : Stmt) (ps : List Str) (sp : Sp) : Prop where
  ex : ∃ f fd, mg x = some (.ref f) ∧ Fd K x st f fd ∧ Binds K fd ps [] ∧ FnG P w K mg base k f fd ps sp
/-- names of the machine that the text does not hide -/
structure Blts (mg : Str → Option Value) (us : List Str) : Prop where
  u : ∀ x, x ∈ us → mg x = none
theorem pass_none {X : Cx} (σ : St) : PassesAt CX0 X σ fun _ _ _ => False := fun _ _ _ _ _ _ h => h.elim
theorem takes_none {X : Cx} : L2N.Takes X fun _ _ _ _ => False := fun _ _ ⟨_, _, _, _, _, _, _, _, _, _, _, _, _, _, _, _, w⟩ => w.elim
theorem pass_noneN {X : Cx} (σ : St) : PassesAt (L2N.CX X.prog X.w) X σ fun _ _ _ => False := fun _ _ _ _ _ _ ⟨_, _, _, _, _, _, _, _, _, _, _, _, h⟩ => h.elim
section
variable {X : Cx} {CX : CXT} {j k n : Nat} {x : Str} {st : Stmt} {ps ks : List Str} {sp : Sp} {E : St → XK} {np pos : Pos} {e : Expr} {es : List Expr} {kws : List Keyword} {t tk : TA} {g : List Value → List Value → List Value} {gV : List V → List V → List V}
theorem pe_o (O : Ok X.prog X.w X.K X.mg X.base CX0 k x st ps sp) (hr : Room k X.A) (hg : Gl X x) (ha : PA X (e :: es) t) (hdb : (x == ("__debug__" : Str)) = false := by decide)
    (he : starEach (e :: es) X.env = (false, eval e X.env) :: starEach es X.env := by rfl) (hpl : (backTo pos (starEach es X.env)).any (·.1) = false := by rfl) : PE X (.Call (.Name x np) (e :: es) [] pos) (tCallS sp (fun _ => noE) t) := by
  obtain ⟨f, fd, gm, F, b, o⟩ := O.ex
  exact pe_callS o hr hg gm F.kp b pass_none ha hdb he hpl
theorem pe_oS (O : Ok X.prog X.w X.K X.mg X.base CX k x st ps sp) (hr : Room k X.A) (hg : Gl X x) (hx : ∀ σ, PassesAt CX X σ (E σ)) (ha : PA X (e :: es) t) (hdb : (x == ("__debug__" : Str)) = false := by decide)
    (he : starEach (e :: es) X.env = (false, eval e X.env) :: starEach es X.env := by rfl) (hpl : (backTo pos (starEach es X.env)).any (·.1) = false := by rfl) : PE X (.Call (.Name x np) (e :: es) [] pos) (tCallS sp E t) := by
  obtain ⟨f, fd, gm, F, b, o⟩ := O.ex
  exact pe_callS o hr hg gm F.kp b hx ha hdb he hpl
theorem pe_oG (O : OkG X.prog X.w X.K X.mg X.base k x st ps sp) (hgd : X.A.guards = some []) (hr : Room k X.A) (hg : Gl X x) (ha : PA X (e :: es) t) (hdb : (x == ("__debug__" : Str)) = false := by decide)
    (he : starEach (e :: es) X.env = (false, eval e X.env) :: starEach es X.env := by rfl) (hpl : (backTo pos (starEach es X.env)).any (·.1) = false := by rfl) : PE X (.Call (.Name x np) (e :: es) [] pos) (tCall sp [] noE t) := by
  obtain ⟨f, fd, gm, F, b, o⟩ := O.ex
  exact pe_callG o hgd hr hg gm F.kp b ha hdb he hpl
/-- f(k = v, ..) -/
theorem pe_oK0 (O : Ok X.prog X.w X.K X.mg X.base CX k x st ps sp) (hr : Room k X.A) (hg : Gl X x) (hb : ∀ f fd, Fd X.K x st f fd → KBn X.K fd ps 0 ks g gV) (hx : ∀ σ, PassesAt CX X σ (E σ)) (hkw : PK X kws tk)
    (hall : (backToKw pos (keywordEach kws X.env)).all (·.1.isSome) = true := by rfl) (hks : (backToKw pos (keywordEach kws X.env)).filterMap (·.1) = ks := by rfl) (hdb : (x == ("__debug__" : Str)) = false := by decide)
    (hpl : ((backTo pos (starEach [] X.env)).any (·.1) || (backToKw pos (keywordEach kws X.env)).any (·.1.isNone)) = false := by rfl) : PE X (.Call (.Name x np) [] kws pos) (tCallKS 0 ks.length sp gV E tNil tk) := by
  obtain ⟨f, fd, gm, F, b, o⟩ := O.ex
  exact pe_callKS0 o hr hg gm F.kp (hb f fd F) hx hkw hall hks hdb hpl
/-- f(e, .., k = v, ..) -/
theorem pe_oK (O : Ok X.prog X.w X.K X.mg X.base CX k x st ps sp) (hr : Room k X.A) (hg : Gl X x) (hb : ∀ f fd, Fd X.K x st f fd → KBn X.K fd ps n ks g gV) (hx : ∀ σ, PassesAt CX X σ (E σ)) (ha : PA X (e :: es) t) (hkw : PK X kws tk)
    (hall : (backToKw pos (keywordEach kws X.env)).all (·.1.isSome) = true := by rfl) (hks : (backToKw pos (keywordEach kws X.env)).filterMap (·.1) = ks := by rfl) (hdb : (x == ("__debug__" : Str)) = false := by decide)
    (he : starEach (e :: es) X.env = (false, eval e X.env) :: starEach es X.env := by rfl) (hpl : ((backTo pos (starEach (e :: es) X.env)).any (·.1) || (backToKw pos (keywordEach kws X.env)).any (·.1.isNone)) = false := by rfl) :
    PE X (.Call (.Name x np) (e :: es) kws pos) (tCallKS n ks.length sp gV E t tk) := by
  obtain ⟨f, fd, gm, F, b, o⟩ := O.ex
  exact pe_callKS o hr hg gm F.kp (hb f fd F) hx ha hkw hall hks hdb he hpl
end
/-! ### type(x) in (A, B) -/
theorem meta_ty {T : String} (h : T ∈ ["NoneType", "bool", "int", "str", "list", "tuple", "dict"]) (s : Shared) : s.TypeIs (.type T) "type" := by
  simp only [List.mem_cons, List.not_mem_nil, or_false] at h
  rcases h with rfl | rfl | rfl | rfl | rfl | rfl | rfl
  · exact TypeEq.meta_NoneType s
  · exact TypeEq.meta_bool s
  · exact TypeEq.meta_int s
  · exact TypeEq.meta_str s
  · exact TypeEq.meta_list s
  · exact TypeEq.meta_tuple s
  · exact TypeEq.meta_dict s
theorem eqAt_ty {A : Around} {s : Shared} {a b : String} (ha : a ∈ ["NoneType", "bool", "int", "str", "list", "tuple", "dict"]) (hb : b ∈ ["NoneType", "bool", "int", "str", "list", "tuple", "dict"]) : SeqAt.EqAt A s (.type a) (.type b) (decide (a = b)) := fun prog w E Q h => by
  by_cases e : a = b
  · subst e
    rw [decide_eq_true rfl] at h
    exact SeqAt.EqAt.same (.type a) prog w E Q h
  · rw [decide_eq_false e] at h
    have ne : (Value.type a == Value.type b) = false := by rw [ty_beq, decide_eq_false e]
    unfold eqBool
    refine wpAny_holding ?_
    refine wpAny_ite_split (fun hab => absurd hab (by rw [ne]; exact Bool.false_ne_true)) (fun _ => ?_)
    refine wpAny_bind ?_
    exact TypeEq.eq_type_other (fun s' => meta_ty ha s') (fun s' => meta_ty hb s') ne (wpAny_truthy_bool h)
def rInTy (K : PySem.W.Frag) : R2 := fun x y H Q => ∃ (p : Addr) (T : String) (Us : List String), x = .ty T ∧ y = .ref p ∧ SqT K H p (Us.map V.ty) ∧ T ∈ ["NoneType", "bool", "int", "str", "list", "tuple", "dict"] ∧ (∀ U ∈ Us, U ∈ ["NoneType", "bool", "int", "str", "list", "tuple", "dict"]) ∧ Q (.bl (decide (T ∈ Us))) H
theorem vals_ty : ∀ {Us : List String} {its : List Value}, Vals (Us.map V.ty) its → its = Us.map Value.type
  | [], _, .nil => rfl
  | U :: Us, _, .cons r t => by rw [show _ = Value.type U from r, vals_ty t]; rfl
theorem op_inTy {X : Cx} : OpR X (compareOp .In) (rInTy X.K) := by
  intro pins s σ H x y v u Q I rx ry h
  obtain ⟨p, T, Us, rfl, rfl, hp, hT, hU, q⟩ := h
  obtain rfl : v = Value.type T := rx
  obtain rfl : u = Value.ref p := ry
  obtain ⟨its, r, pl, hz⟩ := I.tuple hp
  have e := vals_ty r
  subst e
  refine SeqAt.in_tupleAt (fun w => match w with | .type U => decide (U = T) | _ => false) pl (fun w hw => ?_) ⟨.bl _, H, I, rfl, ?_⟩
  · obtain ⟨U, hm, rfl⟩ := List.mem_map.mp (show w ∈ Us.map Value.type by simpa using hw)
    exact eqAt_ty (hU U hm) hT
  · have : ((Us.map Value.type).toArray.any fun w => match w with | .type U => decide (U = T) | _ => false) = decide (T ∈ Us) := by
      rw [List.any_toArray, List.any_map]
      clear hU r pl hz q hp
      induction Us with
      | nil => rfl
      | cons U Us ih =>
        rw [List.any_cons, ih]
        show (decide (U = T) || decide (T ∈ Us)) = _
        by_cases e : U = T
        · subst e; simp
        · have e2 : ¬ T = U := fun z => e z.symm
          simp [e, e2]
    rw [this]
    exact q
abbrev rTupOf (K : PySem.W.Frag) : List V → Hp → VK → Prop := fun xs H Q => ∃ p ys, xs = [V.ref p] ∧ ((SqL K H p ys ∧ ∀ (l : Addr), H l = none → Q (V.ref l) (upd H l (HO.tup ys))) ∨ SqT K H p ys ∧ Q (V.ref p) H)
abbrev rLstOf (K : PySem.W.Frag) : List V → Hp → VK → Prop := fun xs H Q => ∃ p ys, xs = [.ref p] ∧ (SqL K H p ys ∨ SqT K H p ys) ∧ ∀ l, H l = none → Q (.ref l) (upd H l (.lst ys))
/-! ### small words -/
theorem pss_mono {X : Cx} {st : List Stmt} {t u : TS} (h : PSs X st t) (k : ∀ D σ H, u D σ H → t D σ H) : PSs X st u := ⟨fun pins s σ H D I q => h.run pins s σ H D I (k _ _ _ q)⟩
theorem two_ln {n : Nat} (h : n ≤ 16777216) : n ≤ sizeLine := by
  rw [sizeLine_eq]
  exact h
theorem lt_ln {n : Nat} (h : n < 16777216) : n < sizeLine := by
  rw [sizeLine_eq]
  exact h
theorem upd_grow {H : Hp} {p : Addr} {o : HO} (h : H p = none) : Same H (upd H p o) := fun b u e => by
  rw [upd_ne (ne_of_none e h)]
  exact e
theorem iteB {c : Bool} {A B : Prop} (h1 : c = true → A) (h2 : c = false → B) : if c = true then A else B := by
  cases c with
  | true => exact iteT (h1 rfl)
  | false => exact iteF (h2 rfl)
/-- all but what stands at p is kept -/
def But (p : Addr) (H H' : Hp) : Prop := ∀ b o, b ≠ p → H b = some o → H' b = some o
theorem But.of {p : Addr} {H H' : Hp} (k : Same H H') : But p H H' := fun b o _ e => k b o e
theorem But.trans {p : Addr} {H H1 H2 : Hp} (a : But p H H1) (b : But p H1 H2) : But p H H2 := fun c o hc e => b c o hc (a c o hc e)
theorem But.upd {p : Addr} {H : Hp} {o : HO} : But p H (L2.upd H p o) := fun b u hb e => by
  rw [upd_ne hb]
  exact e
theorem del_mono {p : Addr} {H H' : Hp} (k : Same H H') : Same (del H p) (del H' p) := fun b o e => by
  by_cases z : b = p
  · rw [z, del_same] at e
    cases e
  · rw [del_ne z] at e ⊢
    exact k b o e
theorem del_upd {p : Addr} {H : Hp} {o : HO} : Same (del H p) (L2.upd H p o) := fun b u e => by
  by_cases z : b = p
  · rw [z, del_same] at e
    cases e
  · rw [upd_ne z]
    rwa [del_ne z] at e
theorem del_le {p : Addr} {H : Hp} : Same (del H p) H := fun b o e => by
  by_cases z : b = p
  · rw [z, del_same] at e
    cases e
  · rwa [del_ne z] at e
theorem but_del {p : Addr} {H H' : Hp} (k : But p H H') : Same (del H p) (del H' p) := fun b o e => by
  by_cases z : b = p
  · rw [z, del_same] at e
    cases e
  · rw [del_ne z] at e ⊢
    exact k b o z e
theorem fresh_same {l : Addr} {H H' : Hp} {o : HO} (hl : H l = none) (k : But l (L2.upd H l o) H') : Same H H' := fun b u e => k b u (ne_of_none e hl) (by rw [upd_ne (ne_of_none e hl)]; exact e)
theorem ixAt {K : PySem.W.Frag} {H : Hp} {p : Addr} {xs : List V} {i : Int} {v : V} {Q : VK} (h : H p = some (.lst xs)) (e : atI xs i = some v) (q : Q v H) : rIx K (.ref p) (.int i) H Q :=
  .inl ⟨p, xs, i, v, rfl, rfl, SqL.of h, e, q⟩
theorem ixTup {K : PySem.W.Frag} {H : Hp} {p : Addr} {xs : List V} {i : Int} {v : V} {Q : VK} (h : SqT K H p xs) (e : atI xs i = some v) (q : Q v H) : rIx K (.ref p) (.int i) H Q :=
  .inr (.inl ⟨p, xs, i, v, rfl, rfl, h, e, q⟩)
theorem not_t {b : Bool} (h : (!b) = true) : b = false := by simpa using h
theorem not_f {b : Bool} (h : (!b) = false) : b = true := by simpa using h
theorem rdds_len {H : Hp} : ∀ {xs : List V} {ds : List PyData}, RddAll H xs ds → xs.length = ds.length
  | _, _, .nil => rfl
  | _, _, .cons _ t => congrArg Nat.succ (rdds_len t)
theorem rdds_two {H : Hp} {xs : List V} {a b : PyData} : RddAll H xs [a, b] → ∃ x y, xs = [x, y] ∧ Rdd H x a ∧ Rdd H y b
  | .cons r1 (.cons r2 .nil) => ⟨_, _, rfl, r1, r2⟩
theorem rdds_add {H : Hp} {v : V} {d : PyData} (h : Rdd H v d) : ∀ {xs : List V} {ds : List PyData}, RddAll H xs ds → RddAll H (xs ++ [v]) (ds ++ [d])
  | _, _, .nil => .cons h .nil
  | _, _, .cons r t => .cons r (rdds_add h t)
theorem rdds_get {H : Hp} : ∀ {xs : List V} {ds : List PyData} {i : Nat} {d : PyData}, RddAll H xs ds → ds[i]? = some d → ∃ x, xs[i]? = some x ∧ Rdd H x d
  | _, _, _, _, .nil, e => by simp at e
  | _, _, 0, _, .cons r _, e => by simp at e; subst e; exact ⟨_, rfl, r⟩
  | _, _, i + 1, _, .cons _ t, e => rdds_get (i := i) t (by simpa using e)
theorem rdds_of {H : Hp} : ∀ {xs : List V} {ds : List PyData}, xs.length = ds.length → (∀ (i : Nat) (x : V) (d : PyData), xs[i]? = some x → ds[i]? = some d → Rdd H x d) → RddAll H xs ds
  | [], [], _, _ => .nil
  | x :: xs, d :: ds, l, h => by
    refine .cons (h 0 x d rfl rfl) (rdds_of (by simpa using l) fun i y e h1 h2 => h (i + 1) y e ?_ ?_)
    · rw [List.getElem?_cons_succ]; exact h1
    · rw [List.getElem?_cons_succ]; exact h2
  | [], _ :: _, l, _ => nomatch l
  | _ :: _, [], l, _ => nomatch l
theorem rdds_app {H : Hp} : ∀ {xs ys : List V} {ds es : List PyData}, RddAll H xs ds → RddAll H ys es → RddAll H (xs ++ ys) (ds ++ es)
  | _, _, _, _, .nil, s => s
  | _, _, _, _, .cons r t, s => .cons r (rdds_app t s)
theorem str_eq {a b : Str} (h : a.cps.toList = b.cps.toList) : a = b := by
  cases a; cases b
  simp at h
  rw [h]
theorem same_del {H H' : Hp} {D : Addr} (k : Same H H') (h : H D = none) : Same H (del H' D) := fun b o e => by
  rw [del_ne (ne_of_none e h)]
  exact k b o e
theorem del_new {b p : Addr} {H : Hp} {o u : HO} (hb : H b = some o) (hp : H p = none) : del (upd H p u) b p = some u := by
  rw [del_ne (ne_of_none hb hp).symm]
  exact upd_same
/-- a comprehension over what is walked, its test p, its items as R tells; the new list at D is no part of what R speaks of -/
theorem lc_gen {J : It} {n : Nat} {G : Hp → Prop} {Y : Nat → Hp → V → Hp → Prop} (w : Walk J n G Y) {g : TG} {tt : TT} {te : TE} {vs : List Nat} {σ : St} {H : Hp} {D : Addr} {Qd : Hp → Prop} (p : Nat → Bool) (R : Nat → V → Hp → Prop)
    (Rm : ∀ i y H1 H2, Same H1 H2 → R i y H1 → R i y H2) (hD : H D = none) (hn : n ≤ 16777215) (hG : ∀ H', Same H (del H' D) → G H')
    (he : ∀ i x H1 H2 (K : V → Hp → Prop) (N : Hp → Prop), i < n → Same H (del H1 D) → (∃ o, H1 D = some o) → Y i H1 x H2 → (p i = true → ∀ y H4, Same H1 H4 → R i y (del H4 D) → K y H4) → (p i = false → ∀ H4, Same H1 H4 → N H4) →
      g x (wipe σ vs) H2 fun σ2 H2' => wipe σ2 vs = wipe σ vs ∧ tt σ2 H2' fun b H3 => if b = true then te σ2 H3 K else N H3)
    (q : ∀ (ys : List V) (H' : Hp), Same H (del H' D) → H' D = some (.lst ys) → ys.length = ((List.range n).filter p).length → (∀ (k i : Nat) (y : V), ((List.range n).filter p)[k]? = some i → ys[k]? = some y → R i y (del H' D)) → Qd H') :
    ∃ W : Nat → Nat → Hp → Prop, (∃ m, W 0 m (upd H D (.lst []))) ∧ ∀ i m H, W i m H →
      (J.stop i H ∧ Qd H) ∨ (J.go i H ∧ ∃ Nx : Hp → Prop, (∀ H', Nx H' → ∃ m', m' < m ∧ W (i + 1) m' H') ∧ ∀ x H', J.yld i H x H' → g x (wipe σ vs) H' fun σ2 H2 => wipe σ2 vs = wipe σ vs ∧ tt σ2 H2 fun b H3 =>
        if b = true then te σ2 H3 fun y H4 => ∃ acc, H4 D = some (.lst acc) ∧ acc.length < sizeLine ∧ Nx (upd H4 D (.lst (acc ++ [y]))) else Nx H3) := by
  have step : ∀ i, (List.range (i + 1)).filter p = (List.range i).filter p ++ (if p i = true then [i] else []) := fun i => by
    rw [List.range_succ, List.filter_append]
    by_cases e : p i = true
    · rw [if_pos e, List.filter_cons_of_pos e] <;> rfl
    · rw [if_neg e, List.filter_cons_of_neg e] <;> rfl
  refine lc_it w (fun i H' => Same H (del H' D) ∧ ∃ ys, H' D = some (.lst ys) ∧ ys.length = ((List.range i).filter p).length ∧ ∀ (k j : Nat) (y : V), ((List.range i).filter p)[k]? = some j → ys[k]? = some y → R j y (del H' D)) ?_ (fun i H' _ h => hG H' h.1) ?_ ?_
  · refine ⟨fun b o e => ?_, [], upd_same, rfl, fun k j y h => by simp at h⟩
    rw [del_ne (ne_of_none e hD), upd_ne (ne_of_none e hD)]
    exact e
  · rintro i x H1 H2 hi ⟨k1, ys, h1, l1, r1⟩ hy
    have bound : ((List.range i).filter p).length ≤ i := by
      have := List.length_filter_le p (List.range i)
      rwa [List.length_range] at this
    refine he i x H1 H2 _ _ hi k1 ⟨_, h1⟩ hy (fun e y H4 k4 r4 => ?_) (fun e H4 k4 => ?_)
    · refine ⟨ys, k4 _ _ h1, by rw [l1]; exact lt_ln (by omega), (fun b o z => ?_), _, upd_same, ?_, ?_⟩
      · have z1 := k1 b o z
        have nb : b ≠ D := ne_of_none z hD
        rw [del_ne nb] at z1 ⊢
        rw [upd_ne nb]
        exact k4 _ _ z1
      · rw [step, if_pos e, List.length_append, List.length_append, l1] <;> rfl
      · intro k j y2 hk hy2
        have dd : del (upd H4 D (.lst (ys ++ [y]))) D = del H4 D := by
          funext b
          by_cases nb : b = D
          · rw [nb, del_same, del_same]
          · rw [del_ne nb, del_ne nb, upd_ne nb]
        rw [dd]
        rw [step, if_pos e] at hk
        by_cases c : k < ys.length
        · rw [List.getElem?_append_left (by omega)] at hk
          rw [List.getElem?_append_left c] at hy2
          exact Rm _ _ _ _ (del_mono k4) (r1 k j y2 hk hy2)
        · have lt := (List.getElem?_eq_some_iff.mp hy2).1
          rw [List.length_append] at lt
          have ek : k = ys.length := by
            have : ([y] : List V).length = 1 := rfl
            omega
          subst ek
          rw [List.getElem?_append_right (by omega)] at hk
          rw [List.getElem?_append_right (Nat.le_refl _)] at hy2
          rw [← l1, Nat.sub_self] at hk
          rw [Nat.sub_self] at hy2
          obtain rfl : i = j := by simpa using hk
          obtain rfl : y = y2 := by simpa using hy2
          exact r4
    · refine ⟨(fun b o z => ?_), ys, k4 _ _ h1, ?_, ?_⟩
      · have z1 := k1 b o z
        have nb : b ≠ D := ne_of_none z hD
        rw [del_ne nb] at z1 ⊢
        exact k4 _ _ z1
      · rw [step, if_neg (by rw [e]; exact Bool.false_ne_true), List.append_nil, l1]
      · intro k j y2 hk hy2
        rw [step, if_neg (by rw [e]; exact Bool.false_ne_true), List.append_nil] at hk
        exact Rm _ _ _ _ (del_mono k4) (r1 k j y2 hk hy2)
  · rintro H1 ⟨k1, ys, h1, l1, r1⟩
    exact q ys H1 k1 h1 l1 r1
theorem map_of {F : Nat → V} : ∀ {is : List Nat} {ys : List V}, ys.length = is.length → (∀ (k i : Nat) (y : V), is[k]? = some i → ys[k]? = some y → y = F i) → ys = is.map F
  | [], [], _, _ => rfl
  | i :: is, y :: ys, l, h => by
    have e0 := h 0 i y rfl rfl
    have e1 : ys = is.map F := map_of (by simpa using l) fun k j z h1 h2 => h (k + 1) j z (by rw [List.getElem?_cons_succ]; exact h1) (by rw [List.getElem?_cons_succ]; exact h2)
    rw [e0, e1]
    rfl
  | [], _ :: _, l, _ => nomatch l
  | _ :: _, [], l, _ => nomatch l
/-- what is a list or a tuple, walked -/
def iSeq (K : PySem.W.Frag) (tl : TE) : TI := fun σ H R => tl σ H fun x H1 => ∃ a xs, x = .ref a ∧ (SqL K H1 a xs ∨ SqT K H1 a xs) ∧ ∀ J, Walk J xs.length (fun H => H a = H1 a) (YAt xs) → R J H1
theorem sqL_at {K : PySem.W.Frag} {H H' : Hp} {a : Addr} {xs : List V} (e : H' a = H a) (h : SqL K H a xs) : SqL K H' a xs :=
  h.elim (fun h => .inl (h.elim (fun h => .inl (e.trans h)) fun ⟨o, h⟩ => .inr ⟨o, e.trans h⟩)) fun h => .inr h
theorem sqT_at {K : PySem.W.Frag} {H H' : Hp} {a : Addr} {xs : List V} (e : H' a = H a) (h : SqT K H a xs) : SqT K H' a xs :=
  h.elim (fun h => .inl (h.elim (fun h => .inl (e.trans h)) fun ⟨o, h⟩ => .inr ⟨o, e.trans h⟩)) fun h => .inr h
theorem pi_seq {X : Cx} {tg l : Expr} {tl : TE} (hl : PE X l tl) : PI X tg l (iSeq X.K tl) := by
  refine ⟨fun pins s σ H R I h => ?_⟩
  refine thn (hl.run pins s σ H _ I h) fun v s1 ⟨x, H1, I1, r1, q1⟩ => ?_
  obtain ⟨a, xs, e, hq, q⟩ := q1
  subst e
  cases r1
  rcases hq with hq | hq
  · have q := q (Itl X.K a) (walk_list.mono (fun H e => sqL_at e hq) fun _ _ _ _ _ _ y => y)
    obtain ⟨its, rv, p, hz⟩ := I1.list hq
    refine wpAny_pyIter_list p.isList ?_
    refine ⟨s1.heap.objs.size, [s1.heap.objs.size], _, _, H1, rfl, I1.kept (t' := s1.toks) fun b o e => Heap.get?_push_of_some _ e, turn_list a _, ⟨_, Heap.get?_push_size _ rfl, rfl, rfl⟩, fun b hb => ?_, q⟩
    have e : b = s1.heap.objs.size := by simpa using hb
    subst e
    exact I1.fpOk (Nat.le_refl _) (I1.hok.fresh (Nat.le_refl _))
  · have q := q (Itt X.K a) (walk_tup.mono (fun H e => sqT_at e hq) fun _ _ _ _ _ _ y => y)
    obtain ⟨its, rv, p, hz⟩ := I1.tuple hq
    refine wpAny_pyIter_tuple (show s1.heap.IsTuple a its.toArray from p) ?_
    refine ⟨s1.heap.objs.size, [s1.heap.objs.size], _, _, H1, rfl, I1.kept (t' := s1.toks) fun b o e => Heap.get?_push_of_some _ e, turn_tuple a _, ⟨_, Heap.get?_push_size _ rfl, rfl, rfl⟩, fun b hb => ?_, q⟩
    have e : b = s1.heap.objs.size := by simpa using hb
    subst e
    exact I1.fpOk (Nat.le_refl _) (I1.hok.fresh (Nat.le_refl _))
theorem filt_all (n : Nat) : (List.range n).filter (fun _ => true) = List.range n := by
  rw [List.filter_eq_self]
  exact fun _ _ => rfl
theorem sqL_same {K : PySem.W.Frag} {H H' : Hp} {a : Addr} {xs : List V} (k : Same H H') (h : SqL K H a xs) : SqL K H' a xs := SqL.ext h k
theorem sqT_same {K : PySem.W.Frag} {H H' : Hp} {a : Addr} {xs : List V} (k : Same H H') (h : SqT K H a xs) : SqT K H' a xs := SqT.ext h k
theorem del_sub {H H' : Hp} {D : Addr} (k : Same H (del H' D)) : Same H H' := fun b o e => del_le b o (k b o e)
theorem rel_app {vs zs : List V} {us ws : List Value} (r : Vals vs us) (q : Vals zs ws) : Vals (vs ++ zs) (us ++ ws) := r.append q
end L2

/-! trees: their roads, their walks -/
namespace Tm
abbrev Road := Nat × Nat
/-- the order of two roads -/
def ltR (a b : Road) : Bool := decide (a.1 < b.1) || (decide (a.1 = b.1) && decide (a.2 < b.2))
structure RoadsOk (n : Nat) (rs : List Road) : Prop where
  len : rs.length + 1 = n
  bnd : ∀ r ∈ rs, r.1 < r.2 ∧ r.2 < n
  asc : rs.Pairwise (fun a b => ltR a b = true)
/-- the other end of a road at a house -/
def nb (h : Nat) (r : Road) : Option Nat := if r.1 = h then some r.2 else if r.2 = h then some r.1 else none
def near (rs : List Road) (h : Nat) : List Nat := rs.filterMap (nb h)
theorem near_snoc (rs : List Road) (r : Road) (h : Nat) : near (rs ++ [r]) h = near rs h ++ (nb h r).toList := by
  unfold near
  rw [List.filterMap_append]
  cases e : nb h r with
  | none => simp [e]
  | some x => simp [e]
theorem mem_near {rs : List Road} {h x : Nat} (H : x ∈ near rs h) : (h, x) ∈ rs ∨ (x, h) ∈ rs := by
  obtain ⟨r, hr, e⟩ := List.mem_filterMap.mp H
  unfold nb at e
  obtain ⟨a, b⟩ := r
  by_cases h1 : a = h
  · simp [h1] at e
    subst h1 e
    exact .inl hr
  · by_cases h2 : b = h
    · simp [h1, h2] at e
      subst h2 e
      exact .inr hr
    · simp [h1, h2] at e
theorem near_of {rs : List Road} {h x : Nat} (ne : ∀ r ∈ rs, r.1 < r.2) (H : (h, x) ∈ rs ∨ (x, h) ∈ rs) : x ∈ near rs h := by
  rcases H with H | H
  · exact List.mem_filterMap.mpr ⟨_, H, by simp [nb]⟩
  · have := ne _ H
    refine List.mem_filterMap.mpr ⟨_, H, ?_⟩
    have h1 : ¬ x = h := by
      intro e
      subst e
      exact absurd this (Nat.lt_irrefl _)
    simp [nb, h1]
theorem near_sym {rs : List Road} {h x : Nat} (ne : ∀ r ∈ rs, r.1 < r.2) (H : x ∈ near rs h) : h ∈ near rs x := near_of ne (mem_near H).symm
theorem near_lt {n : Nat} {rs : List Road} (ok : ∀ r ∈ rs, r.1 < r.2 ∧ r.2 < n) {h x : Nat} (H : x ∈ near rs h) : x < n ∧ h < n ∧ x ≠ h := by
  rcases mem_near H with H | H
  · have := ok _ H
    simp only at this
    omega
  · have := ok _ H
    simp only at this
    omega
/-- ascending -/
theorem near_asc {rs : List Road} (ne : ∀ r ∈ rs, r.1 < r.2) (asc : rs.Pairwise (fun a b => ltR a b = true)) (h : Nat) : (near rs h).Pairwise (· < ·) := by
  unfold near
  refine List.Pairwise.filterMap (R := fun a b => ltR a b = true ∧ a.1 < a.2 ∧ b.1 < b.2) (nb h) ?_ ?_
  · rintro ⟨a, b⟩ ⟨c, d⟩ ⟨l, l1, l2⟩ x hx y hy
    simp only [ltR, Bool.or_eq_true, Bool.and_eq_true, decide_eq_true_eq] at l
    simp only at l1 l2
    unfold nb at hx hy
    simp only at hx hy
    split at hx
    · split at hy
      · cases hx; cases hy; omega
      · split at hy
        · cases hx; cases hy; omega
        · cases hy
    · split at hx
      · split at hy
        · cases hx; cases hy; omega
        · split at hy
          · cases hx; cases hy; omega
          · cases hy
      · cases hx
  · exact asc.imp_of_mem fun ha hb e => ⟨e, ne _ ha, ne _ hb⟩
/-! ### the walk over all houses -/
abbrev B := List (Nat × Nat)
def keys (b : B) : List Nat := b.map (·.1)
/-- one neighbour o of h is looked at; the stack's top is its head -/
def visit (bar : Option Nat) (h : Nat) (s : B × List Nat) (o : Nat) : B × List Nat :=
  if some o = bar ∨ o ∈ keys s.1 then s else (s.1 ++ [(o, h)], o :: s.2)
abbrev visits (nr : Nat → List Nat) (bar : Option Nat) (h : Nat) (b : B) (st : List Nat) : B × List Nat := (nr h).foldl (visit bar h) (b, st)
inductive Dfs (nr : Nat → List Nat) (bar : Option Nat) : B → List Nat → B → Prop
  | done {b : B} : Dfs nr bar b [] b
  | step {b : B} {h : Nat} {st : List Nat} {r : B} : Dfs nr bar (visits nr bar h b st).1 (visits nr bar h b st).2 r → Dfs nr bar b (h :: st) r
theorem Dfs.det {nr : Nat → List Nat} {bar : Option Nat} {b : B} {st : List Nat} {r r' : B} (h : Dfs nr bar b st r) : Dfs nr bar b st r' → r = r' := by
  induction h with
  | done => intro k; cases k; rfl
  | step _ ih => intro k; cases k with | step k => exact ih k
/-- what has grown from the start -/
inductive Grown (nr : Nat → List Nat) (bar : Option Nat) (s : Nat) : B → Prop
  | base : Grown nr bar s [(s, s)]
  | grow {b : B} {x p : Nat} : Grown nr bar s b → p ∈ keys b → x ∈ nr p → some x ≠ bar → x ∉ keys b → Grown nr bar s (b ++ [(x, p)])
section
variable {nr : Nat → List Nat} {bar : Option Nat} {s : Nat}
theorem keys_snoc (b : B) (x p : Nat) : keys (b ++ [(x, p)]) = keys b ++ [x] := by simp [keys]
theorem Grown.nodup {b : B} (g : Grown nr bar s b) : (keys b).Nodup := by
  induction g with
  | base => simp [keys]
  | grow _ _ _ _ hx ih =>
    rw [keys_snoc]
    refine List.nodup_append.mpr ⟨ih, by simp, ?_⟩
    intro a ha c hc e
    simp at hc
    subst e hc
    exact hx ha
theorem Grown.start {b : B} (g : Grown nr bar s b) : s ∈ keys b := by
  induction g with
  | base => simp [keys]
  | grow _ _ _ _ _ ih => rw [keys_snoc]; exact List.mem_append_left _ ih
theorem Grown.bound {b : B} {n : Nat} (g : Grown nr bar s b) (hs : s < n) (hn : ∀ h, ∀ x ∈ nr h, x < n) : ∀ x ∈ keys b, x < n := by
  induction g with
  | base => intro x hx; simp [keys] at hx; omega
  | grow _ _ hx _ _ ih =>
    intro y hy
    rw [keys_snoc] at hy
    rcases List.mem_append.mp hy with hy | hy
    · exact ih y hy
    · simp at hy
      subst hy
      exact hn _ _ hx
theorem Grown.nobar {b : B} (g : Grown nr bar s b) (hs : some s ≠ bar) : ∀ x ∈ keys b, some x ≠ bar := by
  induction g with
  | base => intro x hx; simp [keys] at hx; subst hx; exact hs
  | grow _ _ _ hb _ ih =>
    intro y hy
    rw [keys_snoc] at hy
    rcases List.mem_append.mp hy with hy | hy
    · exact ih y hy
    · simp at hy
      subst hy
      exact hb
/-- a list of different numbers below n is no longer than n -/
theorem nodup_len : ∀ {n : Nat} {l : List Nat}, l.Nodup → (∀ x ∈ l, x < n) → l.length ≤ n
  | 0, [], _, _ => Nat.le_refl 0
  | 0, x :: l, _, h => absurd (h x List.mem_cons_self) (Nat.not_lt_zero _)
  | n + 1, l, d, h => by
    by_cases m : n ∈ l
    · have d2 := d.erase n
      have z := nodup_len (n := n) d2 fun x hx => by
        have h1 := h x (List.mem_of_mem_erase hx)
        have h2 : x ≠ n := fun e => by
          subst e
          exact (List.Nodup.mem_erase_iff d).mp hx |>.1 rfl
        omega
      have l1 := List.length_erase_of_mem m
      have l2 := List.length_pos_of_mem m
      omega
    · have z := nodup_len (n := n) d fun x hx => by
        have h1 := h x hx
        have h2 : x ≠ n := fun e => by
          subst e
          exact m hx
        omega
      omega
/-- what the neighbours of h leave -/
theorem visit_grown {h : Nat} : ∀ {os : List Nat} {b : B} {st : List Nat}, Grown nr bar s b → h ∈ keys b → (∀ o ∈ os, o ∈ nr h) →
    Grown nr bar s (os.foldl (visit bar h) (b, st)).1 ∧ (∀ x ∈ keys b, x ∈ keys (os.foldl (visit bar h) (b, st)).1) ∧ (∀ o ∈ os, some o ≠ bar → o ∈ keys (os.foldl (visit bar h) (b, st)).1) ∧
    (∀ x ∈ keys (os.foldl (visit bar h) (b, st)).1, x ∈ keys b ∨ x ∈ (os.foldl (visit bar h) (b, st)).2) ∧ (∀ x ∈ st, x ∈ (os.foldl (visit bar h) (b, st)).2) ∧
    (∀ x ∈ (os.foldl (visit bar h) (b, st)).2, x ∈ st ∨ x ∈ keys (os.foldl (visit bar h) (b, st)).1) ∧
    (os.foldl (visit bar h) (b, st)).1.length + st.length = b.length + (os.foldl (visit bar h) (b, st)).2.length
  | [], b, st, g, hh, ho => ⟨g, fun x hx => hx, (fun o ho => nomatch ho), fun x hx => .inl hx, fun x hx => hx, fun x hx => .inl hx, by simp⟩
  | o :: os, b, st, g, hh, ho => by
    rw [List.foldl_cons]
    by_cases c : some o = bar ∨ o ∈ keys b
    · have e : visit bar h (b, st) o = (b, st) := by simp [visit, c]
      rw [e]
      obtain ⟨h1, h2, h3, h4, h5, h6, h7⟩ := visit_grown (os := os) (st := st) g hh fun x hx => ho x (List.mem_cons_of_mem _ hx)
      refine ⟨h1, h2, fun x hx nb => ?_, h4, h5, h6, h7⟩
      rcases List.mem_cons.mp hx with rfl | hx
      · rcases c with c | c
        · exact absurd c nb
        · exact h2 _ c
      · exact h3 x hx nb
    · have e : visit bar h (b, st) o = (b ++ [(o, h)], o :: st) := by simp [visit, c]
      rw [e]
      have c1 : ¬ some o = bar := fun z => c (.inl z)
      have c2 : ¬ o ∈ keys b := fun z => c (.inr z)
      have g2 : Grown nr bar s (b ++ [(o, h)]) := .grow g hh (ho o List.mem_cons_self) c1 c2
      have up : ∀ x ∈ keys b, x ∈ keys (b ++ [(o, h)]) := fun x hx => by rw [keys_snoc]; exact List.mem_append_left _ hx
      obtain ⟨h1, h2, h3, h4, h5, h6, h7⟩ := visit_grown (os := os) (st := o :: st) g2 (up _ hh) fun x hx => ho x (List.mem_cons_of_mem _ hx)
      have ok : o ∈ keys (b ++ [(o, h)]) := by rw [keys_snoc]; simp
      refine ⟨h1, fun x hx => h2 _ (up _ hx), fun x hx nb => ?_, fun x hx => ?_, fun x hx => h5 x (List.mem_cons_of_mem _ hx), fun x hx => ?_, ?_⟩
      · rcases List.mem_cons.mp hx with rfl | hx
        · exact h2 _ ok
        · exact h3 x hx nb
      · rcases h4 x hx with h | h
        · rw [keys_snoc] at h
          rcases List.mem_append.mp h with h | h
          · exact .inl h
          · simp at h
            subst h
            exact .inr (h5 _ List.mem_cons_self)
        · exact .inr h
      · rcases h6 x hx with h | h
        · rcases List.mem_cons.mp h with rfl | h
          · exact .inr (h2 _ ok)
          · exact .inl h
        · exact .inr h
      · simp only [List.length_append, List.length_cons, List.length_nil] at h7 ⊢
        omega
/-- all neighbours of what is done are there -/
def Closed (nr : Nat → List Nat) (bar : Option Nat) (b : B) (st : List Nat) : Prop := ∀ x ∈ keys b, x ∉ st → ∀ o ∈ nr x, some o ≠ bar → o ∈ keys b
structure Going (nr : Nat → List Nat) (bar : Option Nat) (s : Nat) (b : B) (st : List Nat) : Prop where
  g : Grown nr bar s b
  c : Closed nr bar b st
  sub : ∀ x ∈ st, x ∈ keys b
theorem Going.start : Going nr bar s [(s, s)] [s] := ⟨.base, fun x hx nx => absurd (by simpa [keys] using hx) (by simpa using nx), fun x hx => by simpa [keys] using hx⟩
theorem Going.next {b : B} {h : Nat} {st : List Nat} (G : Going nr bar s b (h :: st)) : Going nr bar s (visits nr bar h b st).1 (visits nr bar h b st).2 ∧
    (visits nr bar h b st).1.length + st.length = b.length + (visits nr bar h b st).2.length := by
  obtain ⟨h1, h2, h3, h4, h5, h6, h7⟩ := visit_grown (os := nr h) (st := st) G.g (G.sub h List.mem_cons_self) fun o ho => ho
  refine ⟨⟨h1, fun x hx nx o ho nb => ?_, fun x hx => ?_⟩, h7⟩
  · rcases h4 x hx with hb | hb
    · by_cases e : x = h
      · subst e
        exact h3 o ho nb
      · refine h2 _ (G.c x hb (fun hm => ?_) o ho nb)
        rcases List.mem_cons.mp hm with rfl | hm
        · exact e rfl
        · exact nx (h5 _ hm)
    · exact absurd hb nx
  · rcases h6 x hx with h | h
    · exact h2 _ (G.sub x (List.mem_cons_of_mem _ h))
    · exact h
theorem Dfs.going {b : B} {st : List Nat} {r : B} (d : Dfs nr bar b st r) (G : Going nr bar s b st) : Going nr bar s r [] := by
  induction d with
  | done => exact G
  | step _ ih => exact ih G.next.1
/-- how many houses are still to be looked at -/
theorem Going.room {b : B} {st : List Nat} {n : Nat} (G : Going nr bar s b st) (hs : s < n) (hn : ∀ h, ∀ x ∈ nr h, x < n) : b.length ≤ n := by
  have z := nodup_len G.g.nodup (G.g.bound hs hn)
  simpa [keys] using z
theorem Dfs.ex {n : Nat} (hs : s < n) (hn : ∀ h, ∀ x ∈ nr h, x < n) : ∀ (k : Nat) {b : B} {st : List Nat}, Going nr bar s b st → st.length + (n - b.length) ≤ k → ∃ r, Dfs nr bar b st r := by
  intro k
  induction k with
  | zero =>
    intro b st G h
    cases st with
    | nil => exact ⟨b, .done⟩
    | cons x st => simp at h
  | succ k ih =>
    intro b st G h
    cases st with
    | nil => exact ⟨b, .done⟩
    | cons x st =>
      obtain ⟨G2, e⟩ := G.next
      have l1 := G2.room hs hn
      have l0 := G.room hs hn
      rw [List.length_cons] at h
      obtain ⟨r, d⟩ := ih G2 (by omega)
      exact ⟨r, .step d⟩
theorem dfs_all {n : Nat} (hs : s < n) (hn : ∀ h, ∀ x ∈ nr h, x < n) : ∃ r, Dfs nr bar [(s, s)] [s] r ∧ Going nr bar s r [] := by
  obtain ⟨r, d⟩ := Dfs.ex hs hn _ (b := [(s, s)]) (st := [s]) .start (Nat.le_refl _)
  exact ⟨r, d, d.going .start⟩
end
end Tm

namespace Tm
/-! ### ways -/
/-- from x upward to the start s -/
inductive Up (b : B) (s : Nat) : Nat → List Nat → Prop
  | here : Up b s s [s]
  | step {x p : Nat} {l : List Nat} : x ≠ s → (x, p) ∈ b → Up b s p l → Up b s x (x :: l)
theorem key_mem {b : B} {x p : Nat} (h : (x, p) ∈ b) : x ∈ keys b := List.mem_map.mpr ⟨_, h, rfl⟩
theorem key_one {b : B} {x p q : Nat} (d : (keys b).Nodup) (h : (x, p) ∈ b) (k : (x, q) ∈ b) : p = q := by
  induction b with
  | nil => cases h
  | cons y b ih =>
    have d' : y.1 ∉ keys b ∧ (keys b).Nodup := by simpa [keys] using d
    rcases List.mem_cons.mp h with h | h
    · rcases List.mem_cons.mp k with k | k
      · rw [← h] at k
        exact (Prod.mk.inj k).2.symm
      · rw [← h] at d'
        exact absurd (key_mem k) d'.1
    · rcases List.mem_cons.mp k with k | k
      · rw [← k] at d'
        exact absurd (key_mem h) d'.1
      · exact ih d'.2 h k
theorem Up.det {b : B} {s x : Nat} {l l' : List Nat} (d : (keys b).Nodup) (h : Up b s x l) : Up b s x l' → l = l' := by
  induction h generalizing l' with
  | here =>
    intro k
    cases k with
    | here => rfl
    | step ne _ _ => exact absurd rfl ne
  | step ne m _ ih =>
    intro k
    cases k with
    | here => exact absurd rfl ne
    | step _ m' k =>
      have e := key_one d m m'
      subst e
      rw [ih k]
theorem Up.mono {b b' : B} {s x : Nat} {l : List Nat} (h : Up b s x l) (k : ∀ y ∈ b, y ∈ b') : Up b' s x l := by
  induction h with
  | here => exact .here
  | step ne m _ ih => exact .step ne (k _ m) ih
/-- y lies next to the one ahead of it -/
def Adj (nr : Nat → List Nat) : List Nat → Prop
  | [] => True
  | [_] => True
  | x :: y :: l => x ∈ nr y ∧ Adj nr (y :: l)
/-- a way from x to y -/
structure Path (nr : Nat → List Nat) (x y : Nat) (l : List Nat) : Prop where
  hd : l.head? = some x
  la : l.getLast? = some y
  nd : l.Nodup
  ad : Adj nr l
section
variable {nr : Nat → List Nat} {bar : Option Nat} {s : Nat}
theorem Grown.up {b : B} (g : Grown nr bar s b) : ∀ x ∈ keys b, ∃ l, Up b s x l ∧ Path nr x s l ∧ ∀ y ∈ l, y ∈ keys b := by
  induction g with
  | base =>
    intro x hx
    simp [keys] at hx
    subst hx
    exact ⟨[x], .here, ⟨rfl, rfl, by simp, True.intro⟩, fun y hy => by simpa [keys] using hy⟩
  | @grow b x p g hp hx nb nk ih =>
    intro z hz
    rw [keys_snoc] at hz
    have mo : ∀ y ∈ b, y ∈ b ++ [(x, p)] := fun y hy => List.mem_append_left _ hy
    have mk : ∀ y ∈ keys b, y ∈ keys (b ++ [(x, p)]) := fun y hy => by rw [keys_snoc]; exact List.mem_append_left _ hy
    rcases List.mem_append.mp hz with hz | hz
    · obtain ⟨l, u, pa, sub⟩ := ih z hz
      exact ⟨l, u.mono mo, pa, fun y hy => mk y (sub y hy)⟩
    · simp at hz
      subst hz
      obtain ⟨l, u, pa, sub⟩ := ih p hp
      have ns : z ≠ s := fun e => by
        subst e
        exact nk g.start
      refine ⟨z :: l, .step ns (by simp) (u.mono mo), ⟨rfl, ?_, ?_, ?_⟩, fun y hy => ?_⟩
      · have h1 := pa.hd
        cases l with
        | nil => cases h1
        | cons a l =>
          rw [List.getLast?_cons_cons]
          exact pa.la
      · exact List.nodup_cons.mpr ⟨fun m => nk (sub _ m), pa.nd⟩
      · have h1 := pa.hd
        cases l with
        | nil => cases h1
        | cons a l =>
          simp at h1
          subst h1
          exact ⟨hx, pa.ad⟩
      · rcases List.mem_cons.mp hy with rfl | hy
        · rw [keys_snoc]
          simp
        · exact mk y (sub y hy)
end
/-! ### a tree's roads are the steps of its walk -/
theorem erase_sub {α : Type} [DecidableEq α] : ∀ {l m : List α}, l.Nodup → (∀ x ∈ l, x ∈ m) → m.length ≤ l.length → ∀ x ∈ m, x ∈ l
  | [], m, _, _, h, x, hx => by
    cases m with
    | nil => cases hx
    | cons y m => simp at h
  | a :: l, m, d, s, h, x, hx => by
    have d' := List.nodup_cons.mp d
    have ha := s a List.mem_cons_self
    by_cases e : x = a
    · subst e
      exact List.mem_cons_self
    · refine List.mem_cons_of_mem _ (erase_sub (m := m.erase a) d'.2 (fun y hy => ?_) ?_ x ?_)
      · have ne : y ≠ a := fun q => by
          subst q
          exact d'.1 hy
        exact (List.mem_erase_of_ne ne).mpr (s y (List.mem_cons_of_mem _ hy))
      · have l1 := List.length_erase_of_mem ha
        rw [List.length_cons] at h
        omega
      · exact (List.mem_erase_of_ne e).mpr hx
/-- the road between two -/
def mkR (x p : Nat) : Road := (min x p, max x p)
/-- the steps upward, the first left out -/
def stepsR (b : B) : List Road := b.tail.map fun y => mkR y.1 y.2
/-- its place in the walk -/
def idx (b : B) (x : Nat) : Nat := (keys b).findIdx (· == x)
theorem idx_snoc_old {b : B} {x p y : Nat} (h : y ∈ keys b) : idx (b ++ [(x, p)]) y = idx b y := by
  unfold idx
  rw [keys_snoc, List.findIdx_append]
  have : (keys b).findIdx (· == y) < (keys b).length := List.findIdx_lt_length_of_exists ⟨y, h, by simp⟩
  simp [this]
theorem idx_lt {b : B} {y : Nat} (h : y ∈ keys b) : idx b y < (keys b).length := List.findIdx_lt_length_of_exists ⟨y, h, by simp⟩
theorem idx_snoc_new {b : B} {x p : Nat} (h : x ∉ keys b) : idx (b ++ [(x, p)]) x = (keys b).length := by
  unfold idx
  rw [keys_snoc, List.findIdx_append]
  have e : (keys b).findIdx (· == x) = (keys b).length := by
    rw [List.findIdx_eq_length]
    intro y hy
    simp
    intro e
    subst e
    exact h hy
  simp [e]
section
variable {nr : Nat → List Nat} {bar : Option Nat} {s : Nat}
theorem Grown.tail {b : B} (g : Grown nr bar s b) : ∃ t, b = (s, s) :: t := by
  induction g with
  | base => exact ⟨[], rfl⟩
  | grow _ _ _ _ _ ih =>
    obtain ⟨t, e⟩ := ih
    subst e
    exact ⟨t ++ [_], rfl⟩
theorem Grown.par {b : B} (g : Grown nr bar s b) : ∀ y ∈ b.tail, y.2 ∈ keys b ∧ y.1 ∈ nr y.2 ∧ idx b y.2 < idx b y.1 ∧ y.1 ≠ s := by
  induction g with
  | base => intro y hy; cases hy
  | @grow b x p g hp hx nb nk ih =>
    obtain ⟨t, e⟩ := g.tail
    intro y hy
    have hy : y ∈ b.tail ++ [(x, p)] := by
      subst e
      exact hy
    rcases List.mem_append.mp hy with hy | hy
    · obtain ⟨h1, h2, h3, h4⟩ := ih y hy
      have k : y.1 ∈ keys b := List.mem_map.mpr ⟨y, by subst e; exact List.mem_cons_of_mem _ hy, rfl⟩
      refine ⟨by rw [keys_snoc]; exact List.mem_append_left _ h1, h2, ?_, h4⟩
      rw [idx_snoc_old h1, idx_snoc_old k]
      exact h3
    · simp at hy
      subst hy
      refine ⟨by rw [keys_snoc]; exact List.mem_append_left _ hp, hx, ?_, fun e => nk (by rw [show x = s from e]; exact g.start)⟩
      rw [idx_snoc_old hp, idx_snoc_new nk]
      exact idx_lt hp
theorem mem_tail {b : B} {x p : Nat} (g : Grown nr bar s b) (h : (x, p) ∈ b) (ne : x ≠ s) : (x, p) ∈ b.tail := by
  obtain ⟨t, e⟩ := g.tail
  subst e
  rcases List.mem_cons.mp h with h | h
  · cases h
    exact absurd rfl ne
  · exact h
end
/-- whatever tree: its roads are steps -/
theorem roads_steps {n : Nat} {rs : List Road} {b : B} (ok : RoadsOk n rs) (g : Grown (near rs) none 0 b) (all : b.length = n) : ∀ r ∈ rs, (r.1, r.2) ∈ b.tail ∨ (r.2, r.1) ∈ b.tail := by
  have ne : ∀ r ∈ rs, r.1 < r.2 := fun r hr => (ok.bnd r hr).1
  obtain ⟨t, e⟩ := g.tail
  have lt : t.length + 1 = n := by
    rw [e] at all
    simpa using all
  have sub : ∀ r ∈ stepsR b, r ∈ rs := by
    intro r hr
    obtain ⟨y, hy, rfl⟩ := List.mem_map.mp hr
    obtain ⟨h1, h2, h3, h4⟩ := g.par y hy
    unfold mkR
    rcases mem_near h2 with h | h
    · have z := ne _ h
      simp only at z
      rw [Nat.min_eq_right (by omega), Nat.max_eq_left (by omega)]
      exact h
    · have z := ne _ h
      simp only at z
      rw [Nat.min_eq_left (by omega), Nat.max_eq_right (by omega)]
      exact h
  have nd : (stepsR b).Nodup := by
    have d := g.nodup
    have dt : (b.tail.map (·.1)).Nodup := by
      subst e
      have : (0 :: t.map (·.1)).Nodup := d
      exact (List.nodup_cons.mp this).2
    unfold stepsR
    refine List.pairwise_map.mpr ?_
    have d2 := List.pairwise_map.mp dt
    refine d2.imp_of_mem fun {y z} hy hz hne q => ?_
    have p1 := g.par y hy
    have p2 := g.par z hz
    unfold mkR at q
    have q1 := (Prod.mk.inj q).1
    have q2 := (Prod.mk.inj q).2
    have : y.1 = z.2 ∧ y.2 = z.1 := by omega
    rw [this.1, this.2] at p1
    omega
  have back := erase_sub nd sub (by unfold stepsR; rw [List.length_map, e]; show rs.length ≤ t.length; have := ok.len; omega)
  intro r hr
  obtain ⟨y, hy, q⟩ := List.mem_map.mp (back r hr)
  have l := ne r hr
  unfold mkR at q
  have q1 : min y.1 y.2 = r.1 := congrArg Prod.fst q
  have q2 : max y.1 y.2 = r.2 := congrArg Prod.snd q
  obtain ⟨y1, y2⟩ := y
  simp only at q1 q2
  by_cases c : y1 ≤ y2
  · have e1 : y1 = r.1 := by omega
    have e2 : y2 = r.2 := by omega
    subst e1 e2
    exact .inl hy
  · have e1 : y1 = r.2 := by omega
    have e2 : y2 = r.1 := by omega
    subst e1 e2
    exact .inr hy
end Tm

namespace Tm
/-! ### there is just one way -/
structure Rooted (n : Nat) (nr : Nat → List Nat) (b : B) : Prop where
  g : Grown nr none 0 b
  st : ∀ x y, x ∈ nr y → (x, y) ∈ b.tail ∨ (y, x) ∈ b.tail
  sym : ∀ x y, x ∈ nr y → y ∈ nr x
  all : ∀ x, x < n → x ∈ keys b
  lt : ∀ x y, x ∈ nr y → x < n
  nr0 : 0 < n
section
variable {n : Nat} {nr : Nat → List Nat} {b : B}
theorem par_one (R : Rooted n nr b) {x p q : Nat} (h : (x, p) ∈ b.tail) (k : (x, q) ∈ b.tail) : p = q :=
  key_one R.g.nodup (List.mem_of_mem_tail h) (List.mem_of_mem_tail k)
theorem idx_inj {x y : Nat} (hx : x ∈ keys b) (hy : y ∈ keys b) (e : idx b x = idx b y) : x = y := by
  have h1 := idx_lt hx
  have h2 := idx_lt hy
  have e1 : (keys b)[idx b x] = x := by
    exact beq_iff_eq.mp (List.findIdx_getElem (xs := keys b) (p := (· == x)) (w := h1))
  have e2 : (keys b)[idx b y] = y := by
    exact beq_iff_eq.mp (List.findIdx_getElem (xs := keys b) (p := (· == y)) (w := h2))
  rw [← e1, ← e2]
  simp [e]
theorem climb (R : Rooted n nr b) : ∀ {x z y : Nat} {l : List Nat}, (x :: z :: l).Nodup → Adj nr (x :: z :: l) → (x :: z :: l).getLast? = some y → (z, x) ∈ b.tail → idx b x < idx b y
  | x, z, y, [], _, _, la, h => by
    simp at la
    subst la
    exact (R.g.par _ h).2.2.1
  | x, z, y, w :: l, nd, ad, la, h => by
    have h1 := (R.g.par _ h).2.2.1
    simp only at h1
    have ad2 : z ∈ nr w ∧ Adj nr (w :: l) := ad.2
    rcases R.st z w ad2.1 with k | k
    · have e := par_one R h k
      subst e
      have := List.nodup_cons.mp nd
      exact absurd (by simp) this.1
    · have i := climb R (List.nodup_cons.mp nd).2 ad.2 (by rw [← la]; exact List.getLast?_cons_cons.symm) k
      omega
theorem path_step (R : Rooted n nr b) {x y : Nat} {l : List Nat} (p : Path nr x y l) (h : idx b y < idx b x) : ∃ z r, l = x :: r ∧ (x, z) ∈ b.tail ∧ Path nr z y r := by
  obtain ⟨hd, la, nd, ad⟩ := p
  match l, hd, la, nd, ad with
  | [a], hd, la, nd, ad =>
    simp at hd la
    subst hd la
    exact absurd h (Nat.lt_irrefl _)
  | a :: z :: r, hd, la, nd, ad =>
    simp at hd
    subst hd
    rcases R.st a z ad.1 with k | k
    · exact ⟨z, z :: r, rfl, k, ⟨rfl, by rw [← la, List.getLast?_cons_cons], (List.nodup_cons.mp nd).2, ad.2⟩⟩
    · have := climb R nd ad la k
      omega
theorem adj_split : ∀ {p : List Nat} {m : Nat} {q : List Nat}, Adj nr (p ++ m :: q) ↔ Adj nr (p ++ [m]) ∧ Adj nr (m :: q)
  | [], m, q => by simp [Adj]
  | [a], m, q => by simp [Adj]
  | a :: c :: p, m, q => by
    have i := adj_split (p := c :: p) (m := m) (q := q)
    simp only [List.cons_append] at i ⊢
    show (a ∈ nr c ∧ Adj nr (c :: (p ++ m :: q))) ↔ (a ∈ nr c ∧ Adj nr (c :: (p ++ [m]))) ∧ _
    rw [i]
    constructor
    · rintro ⟨h1, h2, h3⟩; exact ⟨⟨h1, h2⟩, h3⟩
    · rintro ⟨⟨h1, h2⟩, h3⟩; exact ⟨h1, h2, h3⟩
theorem adj_rev (sym : ∀ x y, x ∈ nr y → y ∈ nr x) : ∀ {l : List Nat}, Adj nr l → Adj nr l.reverse
  | [], _ => True.intro
  | [a], _ => True.intro
  | a :: c :: l, h => by
    have i := adj_rev sym h.2
    rw [List.reverse_cons] at i
    rw [List.reverse_cons, List.reverse_cons, List.append_assoc]
    show Adj nr (l.reverse ++ c :: [a])
    exact adj_split.mpr ⟨i, sym _ _ h.1, True.intro⟩
theorem Path.rev (sym : ∀ x y, x ∈ nr y → y ∈ nr x) {x y : Nat} {l : List Nat} (p : Path nr x y l) : Path nr y x l.reverse where
  hd := by rw [List.head?_reverse]; exact p.la
  la := by rw [List.getLast?_reverse]; exact p.hd
  nd := List.pairwise_reverse.mpr (p.nd.imp fun h e => h e.symm)
  ad := adj_rev sym p.ad
theorem path_one (R : Rooted n nr b) : ∀ (k : Nat) {x y : Nat} {l l' : List Nat}, x < n → y < n → l.length ≤ k → Path nr x y l → Path nr x y l' → l = l' := by
  intro k
  induction k with
  | zero =>
    intro x y l l' hx hy hk p p'
    have h := p.hd
    cases l with
    | nil => cases h
    | cons a l => simp at hk
  | succ k ih =>
    intro x y l l' hx hy hk p p'
    rcases Nat.lt_trichotomy (idx b x) (idx b y) with c | c | c
    · obtain ⟨z, r, e, hz, q⟩ := path_step R (p.rev R.sym) c
      obtain ⟨z', r', e', hz', q'⟩ := path_step R (p'.rev R.sym) c
      have ez := par_one R hz hz'
      subst ez
      have l1 : l.length = r.length + 1 := by rw [← List.length_reverse, e, List.length_cons]
      have zn : z < n := R.lt _ _ (R.sym _ _ (R.g.par _ hz).2.1)
      have i := ih zn hx (by omega) q q'
      rw [← List.reverse_reverse l, ← List.reverse_reverse l', e, e', i]
    · have e := idx_inj (R.all x hx) (R.all y hy) c
      subst e
      have one : ∀ {l : List Nat}, Path nr x x l → l = [x] := by
        intro l p
        obtain ⟨hd, la, nd, ad⟩ := p
        match l, hd, la, nd with
        | [a], hd, la, nd => simp at hd; rw [hd]
        | a :: c :: r, hd, la, nd =>
          simp at hd
          subst hd
          rw [List.getLast?_cons_cons] at la
          exact absurd (List.mem_of_getLast? la) (List.nodup_cons.mp nd).1
      rw [one p, one p']
    · obtain ⟨z, r, e, hz, q⟩ := path_step R p c
      obtain ⟨z', r', e', hz', q'⟩ := path_step R p' c
      have ez := par_one R hz hz'
      subst ez
      have zn : z < n := R.lt _ _ (R.sym _ _ (R.g.par _ hz).2.1)
      have i := ih zn hy (by rw [e, List.length_cons] at hk; omega) q q'
      rw [e, e', i]
theorem Path.uniq (R : Rooted n nr b) {x y : Nat} {l l' : List Nat} (hx : x < n) (hy : y < n) (p : Path nr x y l) (p' : Path nr x y l') : l = l' := path_one R _ hx hy (Nat.le_refl _) p p'
theorem last_app (p : List Nat) (m : Nat) (q : List Nat) : (p ++ m :: q).getLast? = (m :: q).getLast? := by
  rw [List.getLast?_append]
  cases e : (m :: q).getLast? with
  | none => simp at e
  | some x => rfl
/-- the first of m that is in l -/
theorem first_split (l : List Nat) : ∀ {m : List Nat}, (∃ x ∈ m, x ∈ l) → ∃ p x q, m = p ++ x :: q ∧ x ∈ l ∧ ∀ y ∈ p, y ∉ l
  | [], ⟨x, hx, _⟩ => nomatch hx
  | a :: m, ⟨x, hx, k⟩ => by
    by_cases c : a ∈ l
    · exact ⟨[], a, m, rfl, c, fun y hy => nomatch hy⟩
    · rcases List.mem_cons.mp hx with rfl | hx
      · exact absurd k c
      · obtain ⟨p, x2, q, e, h1, h2⟩ := first_split l (m := m) ⟨x, hx, k⟩
        refine ⟨a :: p, x2, q, by rw [e]; rfl, h1, fun y hy => ?_⟩
        rcases List.mem_cons.mp hy with rfl | hy
        · exact c
        · exact h2 y hy
theorem foot_eq (R : Rooted n nr b) {u v c : Nat} {L M1 M2 : List Nat} (hv : v < n) (hc : c < n) (pL : Path nr u v L) (p1 : Path nr c u M1) (p2 : Path nr c v M2) :
    ∃ m, (M1.filter fun h => decide (h ∈ L)).head? = some m ∧ (L.filter fun h => decide (h ∈ M1) && decide (h ∈ M2)).head? = some m ∧ m ∈ L := by
  have uL : u ∈ L := List.mem_of_mem_head? pL.hd
  have uM : u ∈ M1 := List.mem_of_getLast? p1.la
  obtain ⟨p, m, q, e1, hm, hp⟩ := first_split L ⟨u, uM, uL⟩
  obtain ⟨p', q', e2⟩ := List.append_of_mem hm
  have ndL := pL.nd
  have nd1 := p1.nd
  rw [e2] at ndL
  rw [e1] at nd1
  have N : Path nr c v (p ++ m :: q') := by
    refine ⟨?_, ?_, ?_, ?_⟩
    · have h := p1.hd
      rw [e1] at h
      cases p with
      | nil => exact h
      | cons a p => exact h
    · have h := pL.la
      rw [e2, last_app] at h
      rw [last_app]
      exact h
    · refine List.nodup_append.mpr ⟨(List.nodup_append.mp nd1).1, (List.nodup_append.mp ndL).2.1, fun a ha d hd e => ?_⟩
      subst e
      refine hp a ha ?_
      rw [e2]
      exact List.mem_append_right _ hd
    · have a1 := p1.ad
      have a2 := pL.ad
      rw [e1] at a1
      rw [e2] at a2
      exact adj_split.mpr ⟨(adj_split.mp a1).1, (adj_split.mp a2).2⟩
  have e3 := p2.uniq R hc hv N
  refine ⟨m, ?_, ?_, hm⟩
  · rw [e1, List.filter_append]
    have z : p.filter (fun h => decide (h ∈ L)) = [] := List.filter_eq_nil_iff.mpr fun y hy => by simpa using hp y hy
    rw [z, List.nil_append, List.filter_cons_of_pos (by simpa using hm)]
    rfl
  · have key : ∀ y ∈ p', y ∉ M2 := by
      intro y hy hm2
      rw [e3] at hm2
      rcases List.mem_append.mp hm2 with k | k
      · exact hp y k (by rw [e2]; exact List.mem_append_left _ hy)
      · exact (List.nodup_append.mp ndL).2.2 y hy y k rfl
    have m1 : m ∈ M1 := by rw [e1]; simp
    have m2 : m ∈ M2 := by rw [e3]; simp
    conv => lhs; rw [e2]
    rw [List.filter_append]
    have z : p'.filter (fun h => decide (h ∈ M1) && decide (h ∈ M2)) = [] := List.filter_eq_nil_iff.mpr fun y hy => by
      have := key y hy
      simp [this]
    rw [z, List.nil_append, List.filter_cons_of_pos (by simp [m1, m2])]
    rfl
end
/-- all houses are joined -/
def Joined (n : Nat) (rs : List Road) : Prop := ∃ b, Dfs (near rs) none [(0, 0)] [0] b ∧ b.length = n
theorem all_keys {n : Nat} {l : List Nat} (d : l.Nodup) (h : ∀ x ∈ l, x < n) (e : l.length = n) : ∀ x, x < n → x ∈ l := by
  intro x hx
  refine erase_sub (m := List.range n) d (fun y hy => List.mem_range.mpr (h y hy)) (by rw [List.length_range, e]; exact Nat.le_refl n) x (List.mem_range.mpr hx)
theorem rooted {n : Nat} {rs : List Road} (ok : RoadsOk n rs) (j : Joined n rs) : ∃ b, Rooted n (near rs) b := by
  obtain ⟨b, d, e⟩ := j
  have G := d.going .start
  have n0 : 0 < n := by have := ok.len; omega
  have lt : ∀ h, ∀ x ∈ near rs h, x < n := fun h x hx => (near_lt ok.bnd hx).1
  refine ⟨b, G.g, fun x y hx => ?_, fun x y => near_sym fun r hr => (ok.bnd r hr).1, fun x hx => ?_, fun x y hx => (near_lt ok.bnd hx).1, n0⟩
  · have st := roads_steps ok G.g e
    rcases mem_near hx with h | h
    · exact (st _ h).symm
    · exact st _ h
  · exact all_keys G.g.nodup (G.g.bound n0 lt) (by simpa [keys] using e) x hx
end Tm

namespace Tm
theorem ltR_irr (a : Road) : ltR a a = false := by simp [ltR]
theorem ltR_tri {a b : Road} (h : ltR b a = false) (ne : a ≠ b) : ltR a b = true := by
  obtain ⟨a1, a2⟩ := a
  obtain ⟨b1, b2⟩ := b
  simp only [ltR, Bool.or_eq_false_iff, Bool.and_eq_false_iff, decide_eq_false_iff_not, Bool.or_eq_true, Bool.and_eq_true, decide_eq_true_eq] at h ⊢
  rcases Nat.lt_trichotomy a1 b1 with c | c | c
  · exact .inl c
  · subst c
    rcases Nat.lt_trichotomy a2 b2 with d | d | d
    · exact .inr ⟨rfl, d⟩
    · exact absurd (by rw [d]) ne
    · omega
  · omega
theorem mkR_eq {x y z w : Nat} (h : mkR x y = mkR z w) : (x = z ∧ y = w) ∨ (x = w ∧ y = z) := by
  have h1 : min x y = min z w := congrArg Prod.fst h
  have h2 : max x y = max z w := congrArg Prod.snd h
  omega
theorem mkR_lt {x y : Nat} (h : x ≠ y) : (mkR x y).1 < (mkR x y).2 := by
  show min x y < max x y
  omega
theorem mkR_near {rs : List Road} {x y : Nat} (ne : ∀ r ∈ rs, r.1 < r.2) (h : mkR x y ∈ rs) : x ∈ near rs y ∧ y ∈ near rs x := by
  have k : (x, y) ∈ rs ∨ (y, x) ∈ rs := by
    by_cases c : x ≤ y
    · left
      have : mkR x y = (x, y) := by
        unfold mkR
        rw [Nat.min_eq_left c, Nat.max_eq_right c]
      rwa [this] at h
    · right
      have : mkR x y = (y, x) := by
        unfold mkR
        rw [Nat.min_eq_right (by omega), Nat.max_eq_left (by omega)]
      rwa [this] at h
  exact ⟨near_of ne k.symm, near_of ne k⟩
theorem nodup_inj : ∀ {l : List Nat} {i j : Nat}, l.Nodup → (hi : i < l.length) → (hj : j < l.length) → l[i] = l[j] → i = j
  | [], i, _, _, hi, _, _ => absurd hi (Nat.not_lt_zero _)
  | a :: l, 0, 0, _, _, _, _ => rfl
  | a :: l, 0, j + 1, d, hi, hj, e => by
    have d' := List.nodup_cons.mp d
    simp only [List.getElem_cons_zero, List.getElem_cons_succ] at e
    exact absurd (by rw [e]; exact List.getElem_mem _) d'.1
  | a :: l, i + 1, 0, d, hi, hj, e => by
    have d' := List.nodup_cons.mp d
    simp only [List.getElem_cons_zero, List.getElem_cons_succ] at e
    exact absurd (by rw [← e]; exact List.getElem_mem _) d'.1
  | a :: l, i + 1, j + 1, d, hi, hj, e => by
    have d' := List.nodup_cons.mp d
    simp only [List.getElem_cons_succ] at e
    rw [nodup_inj d'.2 (by simpa using hi) (by simpa using hj) e]
/-- a tree out of houses in any order, each joined to one ahead of it -/
theorem tree_of {n : Nat} {ms : List Nat} {js : Nat → Nat} {rs : List Road} (n0 : 0 < n) (hl : ms.length = n) (nd : ms.Nodup) (bd : ∀ x ∈ ms, x < n)
    (hj : ∀ i, i + 1 < n → js (i + 1) ≤ i) (hp : rs.Perm ((List.range (n - 1)).map fun i => mkR (ms.getD (i + 1) 0) (ms.getD (js (i + 1)) 0)))
    (hs : rs.Pairwise fun a b => ltR b a = false) : RoadsOk n rs ∧ Joined n rs := by
  have gd : ∀ i, i < n → ∃ h : i < ms.length, ms.getD i 0 = ms[i] := fun i hi => ⟨by omega, by rw [List.getD_eq_getElem?_getD, List.getElem?_eq_getElem (by omega)]; rfl⟩
  have inj : ∀ i j, i < n → j < n → ms.getD i 0 = ms.getD j 0 → i = j := by
    intro i j hi hj e
    obtain ⟨h1, e1⟩ := gd i hi
    obtain ⟨h2, e2⟩ := gd j hj
    rw [e1, e2] at e
    exact nodup_inj nd h1 h2 e
  have mem : ∀ i, i < n → ms.getD i 0 < n := fun i hi => by
    obtain ⟨h1, e1⟩ := gd i hi
    rw [e1]
    exact bd _ (List.getElem_mem h1)
  have isr : ∀ i, i + 1 < n → mkR (ms.getD (i + 1) 0) (ms.getD (js (i + 1)) 0) ∈ rs := fun i hi =>
    hp.mem_iff.mpr (List.mem_map.mpr ⟨i, List.mem_range.mpr (by omega), rfl⟩)
  have bnd : ∀ r ∈ rs, r.1 < r.2 ∧ r.2 < n := by
    intro r hr
    obtain ⟨i, hi, rfl⟩ := List.mem_map.mp (hp.mem_iff.mp hr)
    have hi := List.mem_range.mp hi
    have j1 := hj i (by omega)
    refine ⟨mkR_lt fun e => ?_, ?_⟩
    · have := inj _ _ (by omega) (by omega) e
      omega
    · have m1 := mem (i + 1) (by omega)
      have m2 := mem (js (i + 1)) (by omega)
      show max _ _ < n
      omega
  have ne : ∀ r ∈ rs, r.1 < r.2 := fun r hr => (bnd r hr).1
  have ndr : rs.Nodup := by
    refine hp.nodup_iff.mpr (List.pairwise_map.mpr ?_)
    refine (List.nodup_range (n := n - 1)).imp_of_mem fun {i k} hi hk hne q => ?_
    have hi := List.mem_range.mp hi
    have hk := List.mem_range.mp hk
    have j1 := hj i (by omega)
    have j2 := hj k (by omega)
    rcases mkR_eq q with ⟨q1, q2⟩ | ⟨q1, q2⟩
    · have := inj _ _ (by omega) (by omega) q1
      omega
    · have e1 := inj _ _ (by omega) (by omega) q1
      have e2 := inj _ _ (by omega) (by omega) q2
      omega
  have ok : RoadsOk n rs := by
    refine ⟨?_, bnd, ?_⟩
    · rw [hp.length_eq, List.length_map, List.length_range]
      omega
    · refine (hs.and ndr).imp fun {a b} h => ltR_tri h.1 h.2
  refine ⟨ok, ?_⟩
  have lt : ∀ h, ∀ x ∈ near rs h, x < n := fun h x hx => (near_lt bnd hx).1
  obtain ⟨b, d, G⟩ := dfs_all (nr := near rs) (bar := none) n0 lt
  refine ⟨b, d, ?_⟩
  have cl : ∀ x y, x ∈ keys b → y ∈ near rs x → y ∈ keys b := fun x y hx hy => G.c x hx (fun z => nomatch z) y hy (fun z => nomatch z)
  have down : ∀ k, k < n → ms.getD k 0 ∈ keys b → ms.getD 0 0 ∈ keys b := by
    intro k
    induction k using Nat.strongRecOn with
    | ind k ih =>
      intro hk h
      cases k with
      | zero => exact h
      | succ k =>
        have j1 := hj k hk
        exact ih _ (by omega) (by omega) (cl _ _ h (mkR_near ne (isr k hk)).2)
  have z0 : ms.getD 0 0 ∈ keys b := by
    have m0 : (0 : Nat) ∈ ms := all_keys nd bd hl 0 n0
    obtain ⟨k, hk, e⟩ := List.mem_iff_getElem.mp m0
    refine down k (by omega) ?_
    rw [(gd k (by omega)).2, e]
    exact G.g.start
  have up : ∀ k, k < n → ms.getD k 0 ∈ keys b := by
    intro k
    induction k using Nat.strongRecOn with
    | ind k ih =>
      intro hk
      cases k with
      | zero => exact z0
      | succ k =>
        have j1 := hj k hk
        exact cl _ _ (ih _ (by omega) (by omega)) (mkR_near ne (isr k hk)).1
  have le := G.room n0 lt
  have ge : ms.length ≤ (keys b).length := by
    by_cases c : ms.length ≤ (keys b).length
    · exact c
    · have sub := erase_sub (l := keys b) (m := ms) G.g.nodup (fun x hx => all_keys nd bd hl x (G.g.bound n0 lt x hx))
      exfalso
      have c2 : ∀ (l m : List Nat), l.Nodup → (∀ x ∈ l, x ∈ m) → l.length ≤ m.length := by
        intro l
        induction l with
        | nil => intro m _ _; exact Nat.zero_le _
        | cons a l ih =>
          intro m d s
          have d' := List.nodup_cons.mp d
          have ha := s a List.mem_cons_self
          have l1 := List.length_erase_of_mem ha
          have l2 := List.length_pos_of_mem ha
          have i := ih (m.erase a) d'.2 fun y hy => (List.mem_erase_of_ne fun q => d'.1 (by rw [← q]; exact hy)).mpr (s y (List.mem_cons_of_mem _ hy))
          rw [List.length_cons]
          omega
      exact c (c2 ms (keys b) nd fun x hx => by
        obtain ⟨k, hk, e⟩ := List.mem_iff_getElem.mp hx
        have := up k (by omega)
        rw [(gd k (by omega)).2, e] at this
        exact this)
  have : (keys b).length = b.length := by simp [keys]
  omega
end Tm

namespace L2
open PySem PySem.Spec PyProof.Rows
/-- the type's name of data -/
def tyd : PyData → String
  | .none => "NoneType"
  | .bool _ => "bool"
  | .int _ => "int"
  | .str _ => "str"
  | .list _ => "list"
  | .tuple _ => "tuple"
  | .dict _ => "dict"
abbrev tys : List String := ["NoneType", "bool", "int", "str", "list", "tuple", "dict"]
theorem tyd_mem (d : PyData) : tyd d ∈ tys := by cases d <;> simp [tyd, tys]
theorem Rdd.tb {K : PySem.W.Frag} {H : Hp} {v : V} {d : PyData} (r : Rdd H v d) : TyB K H v (tyd d) := by
  cases r with
  | non => exact .non
  | bl b => exact .bl b
  | int i => exact .int i
  | str x => exact .str x
  | lst h r => exact .lst (SqL.of h)
  | tup h r => exact .tup (SqT.of h)
  | dK h r1 r2 => exact .dK h
theorem Rdd.tx {K : PySem.W.Frag} {H : Hp} {v : V} {d : PyData} (r : Rdd H v d) : TyX K H v (.type (tyd d)) := by
  cases r with
  | non => exact .base .non
  | bl b => exact .base (.bl b)
  | int i => exact .base (.int i)
  | str x => exact .base (.str x)
  | lst h r => exact .base (.lst h)
  | tup h r => exact .base (.tup h)
  | dK h r1 r2 => exact .base (.dK h)
theorem Rdd.int_of {H : Hp} {v : V} {d : PyData} (r : Rdd H v d) (h : tyd d = "int") : ∃ i, v = .int i ∧ d = .int i := by
  cases r with
  | int i => exact ⟨i, rfl, rfl⟩
  | _ => exact absurd h (by simp [tyd])
theorem Rdd.tup_of {H : Hp} {v : V} {d : PyData} (r : Rdd H v d) (h : tyd d = "tuple") : ∃ p xs ds, v = .ref p ∧ d = .tuple ds ∧ H p = some (.tup xs) ∧ RddAll H xs ds := by
  cases r with
  | tup h1 r => exact ⟨_, _, _, rfl, rfl, h1, r⟩
  | _ => exact absurd h (by simp [tyd])
end L2
namespace K03
open PySem PySem.Spec PyProof.Rows L2
def top (i : Nat) : Stmt := PySem.Challenge.pw_maplost_k03_tree_lines.main.body.getD i (.Pass ⟨0, 0, 0, 0⟩)
/-- the k-th statement of the class at i -/
def cdef (i k : Nat) : Stmt := match top i with
  | .ClassDef _ _ _ b _ _ _ _ _ _ _ => b.getD k (.Pass ⟨0, 0, 0, 0⟩)
  | s => s
abbrev bnames : List Str := ["type", "int", "list", "tuple", "len", "range", "all", "sum", "abs", "sorted", "min", "max", "repr", "isinstance", "bool", "str", "ord", "any"]
abbrev Bl (mg : Str → Option Value) : Prop := Blts mg bnames
abbrev sIsInt : Stmt := top 7
theorem scIsInt : FnScope ["value"] ["value"] (defScope sIsInt) := ⟨rfl, rfl, rfl, by decide +kernel, rfl, by decide +kernel, by decide +kernel⟩
abbrev sIsBelow : Stmt := top 8
theorem scIsBelow : FnScope ["value", "bound"] ["value", "bound"] (defScope sIsBelow) := ⟨rfl, rfl, rfl, by decide +kernel, rfl, by decide +kernel, by decide +kernel⟩
abbrev sIsList : Stmt := top 9
theorem scIsList : FnScope ["value"] ["value"] (defScope sIsList) := ⟨rfl, rfl, rfl, by decide +kernel, rfl, by decide +kernel, by decide +kernel⟩
abbrev sIsTuple : Stmt := top 10
theorem scIsTuple : FnScope ["value", "many"] ["value", "many"] (defScope sIsTuple) := ⟨rfl, rfl, rfl, by decide +kernel, rfl, by decide +kernel, by decide +kernel⟩
def belowD (b : Int) : PyData → Bool
  | .int i => decide (0 ≤ i) && decide (i < b)
  | _ => false
def tupD (n : Nat) : PyData → Bool
  | .tuple ds => decide (ds.length = n)
  | _ => false
def listD (d : PyData) : Bool := decide (tyd d ∈ ["list", "tuple"])
def spIsInt : Sp := fun vs H Q _ => ∃ v d, vs = [v] ∧ Rdd H v d ∧ Q (.bl (decide (tyd d = "int"))) H
def spIsBelow : Sp := fun vs H Q _ => ∃ v d b, vs = [v, .int b] ∧ Rdd H v d ∧ Q (.bl (belowD b d)) H
def spIsList : Sp := fun vs H Q _ => ∃ v d, vs = [v] ∧ Rdd H v d ∧ ∀ H', Same H H' → Q (.bl (listD d)) H'
def spIsTuple : Sp := fun vs H Q _ => ∃ v d n, vs = [v, .int (n : Nat)] ∧ Rdd H v d ∧ (∀ ds, d = .tuple ds → ds.length ≤ 16777216) ∧ Q (.bl (tupD n d)) H
section
variable {P : Program} {w : World} {K : PySem.W.Frag} {mg : Str → Option Value} {base : Heap} {f : Addr} {fd : FuncData}
theorem ok_is_int (F : Fd K "is_int" sIsInt f fd) (g : mg "is_int" = some (.ref f)) (B : Bl mg) : Ok P w K mg base CX0 1 "is_int" sIsInt ["value"] spIsInt := by
  refine ⟨f, fd, g, F, F.bindsN fun _ _ _ _ _ _ us hl => match us, hl with | [_], _ => rfl, F.ok scIsInt (fun vs H Q E h => ?_) (fun cdv A outer s H vs Q E hr h => ?_)⟩
  · obtain ⟨v, d, rfl, _⟩ := h
    rfl
  · refine ⟨_, (pss_one (ps_ret (pe_cmpR op_isTyB (pe_callTy call_type1 (by rfl) (B.u "type" (by decide +kernel)) (by decide +kernel) (pa_cons (pv 0) pa_nil)) (pe_bltn (by rfl) (B.u "int" (by decide +kernel)) (by decide +kernel) (v := .ty "int") rfl) (nomark _)))), ?_⟩
    obtain ⟨v, d, rfl, r, q⟩ := h
    exact ⟨_, rfl, _, _, rfl, r.tb, _, _, rfl, rfl, q⟩
theorem ok_is_below (F : Fd K "is_below" sIsBelow f fd) (g : mg "is_below" = some (.ref f)) (B : Bl mg) : Ok P w K mg base CX0 1 "is_below" sIsBelow ["value", "bound"] spIsBelow := by
  refine ⟨f, fd, g, F, F.bindsN fun _ _ _ _ _ _ us hl => match us, hl with | [_, _], _ => rfl, F.ok scIsBelow (fun vs H Q E h => ?_) (fun cdv A outer s H vs Q E hr h => ?_)⟩
  · obtain ⟨v, d, b, rfl, _⟩ := h
    rfl
  · refine ⟨_, (pss_one (ps_ret (pe_and (pe_cmpR op_isTyB (pe_callTy call_type1 (by rfl) (B.u "type" (by decide +kernel)) (by decide +kernel) (pa_cons (pv 0) pa_nil)) (pe_bltn (by rfl) (B.u "int" (by decide +kernel)) (by decide +kernel) (v := .ty "int") rfl) (nomark _)) (pe_one (pe_chain op_le op_lt pe_int (pv 0) (pv 1)))))), ?_⟩
    obtain ⟨v, d, b, rfl, r, q⟩ := h
    refine ⟨_, rfl, _, _, rfl, r.tb, _, _, rfl, rfl, _, rfl, iteB (fun e => ?_) fun e => ?_⟩
    · obtain ⟨i, rfl, rfl⟩ := r.int_of (of_decide_eq_true e)
      refine ⟨_, rfl, _, _, rfl, rfl, _, rfl, iteB (fun e1 => ⟨_, rfl, _, _, rfl, rfl, ?_⟩) fun e1 => ?_⟩
      · have z : belowD b (.int i) = decide (i < b) := by
          simp [belowD, of_decide_eq_true e1]
        rw [z] at q
        exact q
      · have z : belowD b (.int i) = false := by
          have e2 := of_decide_eq_false e1
          simp only [belowD, decide_eq_false e2, Bool.false_and]
        rw [z] at q
        exact q
    · have e := of_decide_eq_false e
      have z : belowD b d = false := by
        cases d with
        | int i => exact absurd rfl e
        | _ => rfl
      rw [z] at q
      exact q
theorem ok_is_list (F : Fd K "is_list" sIsList f fd) (g : mg "is_list" = some (.ref f)) (B : Bl mg) : Ok P w K mg base CX0 1 "is_list" sIsList ["value"] spIsList := by
  refine ⟨f, fd, g, F, F.bindsN fun _ _ _ _ _ _ us hl => match us, hl with | [_], _ => rfl, F.ok scIsList (fun vs H Q E h => ?_) (fun cdv A outer s H vs Q E hr h => ?_)⟩
  · obtain ⟨v, d, rfl, _⟩ := h
    rfl
  · refine ⟨_, (pss_one (ps_ret (pe_cmpR op_inTy (pe_callTy call_type1 (by rfl) (B.u "type" (by decide +kernel)) (by decide +kernel) (pa_cons (pv 0) pa_nil)) (pe_tup (pa_cons (pe_bltn (by rfl) (B.u "list" (by decide +kernel)) (by decide +kernel) (v := .ty "list") rfl) (pa_cons (pe_bltn (by rfl) (B.u "tuple" (by decide +kernel)) (by decide +kernel) (v := .ty "tuple") rfl) pa_nil))) (by rfl)))), ?_⟩
    obtain ⟨v, d, rfl, r, q⟩ := h
    refine ⟨_, rfl, _, _, rfl, r.tb, two_ln (by decide), fun p hp => ?_⟩
    refine ⟨p, tyd d, ["list", "tuple"], rfl, rfl, SqT.of upd_same, tyd_mem d, by decide, q _ (upd_grow hp)⟩
theorem ok_is_tuple (F : Fd K "is_tuple" sIsTuple f fd) (g : mg "is_tuple" = some (.ref f)) (B : Bl mg) : Ok P w K mg base CX0 1 "is_tuple" sIsTuple ["value", "many"] spIsTuple := by
  refine ⟨f, fd, g, F, F.bindsN fun _ _ _ _ _ _ us hl => match us, hl with | [_, _], _ => rfl, F.ok scIsTuple (fun vs H Q E h => ?_) (fun cdv A outer s H vs Q E hr h => ?_)⟩
  · obtain ⟨v, d, n, rfl, _⟩ := h
    rfl
  · refine ⟨_, (pss_one (ps_ret (pe_and (pe_cmpR op_isTyB (pe_callTy call_type1 (by rfl) (B.u "type" (by decide +kernel)) (by decide +kernel) (pa_cons (pv 0) pa_nil)) (pe_bltn (by rfl) (B.u "tuple" (by decide +kernel)) (by decide +kernel) (v := .ty "tuple") rfl) (nomark _)) (pe_one (pe_cmpR op_eq (pe_callB call_len (by rfl) (B.u "len" (by decide +kernel)) boot_len (pa_cons (pv 0) pa_nil)) (pv 1) (nomark _)))))), ?_⟩
    obtain ⟨v, d, n, rfl, r, ln, q⟩ := h
    refine ⟨_, rfl, _, _, rfl, r.tb, _, _, rfl, rfl, _, rfl, iteB (fun e => ?_) fun e => ?_⟩
    · obtain ⟨p, xs, ds, rfl, rfl, hp, ra⟩ := r.tup_of (of_decide_eq_true e)
      refine ⟨_, rfl, _, _, rfl, .inr ⟨_, SqT.of hp, rfl⟩, _, rfl, rfl, ?_⟩
      have l := rdds_len ra
      have y : decide (V.int (xs.length : Int) = V.int (n : Int)) = tupD n (.tuple ds) := by
        unfold tupD
        apply decide_eq_decide.mpr
        rw [l]
        simp
        omega
      show Q (.bl (decide (V.int (xs.length : Int) = V.int (n : Int)))) H
      rw [y]
      exact q
    · have e := of_decide_eq_false e
      have z : tupD n d = false := by
        cases d with
        | tuple i => exact absurd rfl e
        | _ => rfl
      rw [z] at q
      exact q
end
end K03

namespace K03
open PySem PySem.Spec PyProof.Rows L2
abbrev sIsAsc : Stmt := top 12
theorem scIsAsc : FnScope ["values", "k"] ["values"] (defScope sIsAsc) := ⟨rfl, rfl, rfl, by decide +kernel, rfl, by decide +kernel, by decide +kernel⟩
abbrev sAreRoads : Stmt := top 17
theorem scAreRoads : FnScope ["houses", "value", "road"] ["houses", "value"] (defScope sAreRoads) := ⟨rfl, rfl, rfl, by decide +kernel, rfl, by decide +kernel, by decide +kernel⟩
/-- a road as data -/
def rd (r : Tm.Road) : PyData := .tuple [.int r.1, .int r.2]
/-- the roads of data -/
def isRoads (d : PyData) (rs : List Tm.Road) : Prop := d = .list (rs.map rd) ∨ d = .tuple (rs.map rd)
/-- a row, a list or a tuple, at p -/
def RowAt (H : Hp) (p : Addr) (xs : List V) : Prop := H p = some (.lst xs) ∨ H p = some (.tup xs)
theorem RowAt.sq {K : PySem.W.Frag} {H : Hp} {p : Addr} {xs : List V} (h : RowAt H p xs) : SqL K H p xs ∨ SqT K H p xs := h.imp SqL.of SqT.of
theorem RowAt.len {K : PySem.W.Frag} {H : Hp} {p : Addr} {xs : List V} (h : RowAt H p xs) : LenV K (.ref p) H xs.length := h.elim (fun h => .inl ⟨_, SqL.of h, rfl⟩) fun h => .inr ⟨_, SqT.of h, rfl⟩
theorem RowAt.ix {K : PySem.W.Frag} {H : Hp} {p : Addr} {xs : List V} (h : RowAt H p xs) {i : Int} {v : V} {Q : VK} (e : atI xs i = some v) (q : Q v H) : rIx K (.ref p) (.int i) H Q := by
  rcases h with h | h
  · exact ixAt h e q
  · exact ixTup (SqT.of h) e q
theorem RowAt.mono {H H' : Hp} {p : Addr} {xs : List V} (k : Same H H') (h : RowAt H p xs) : RowAt H' p xs := h.imp (k _ _) (k _ _)
def spIsAsc : Sp := fun vs H Q _ => ∃ (p : Addr) (xs : List V) (rs : List Tm.Road), vs = [.ref p] ∧ RowAt H p xs ∧ RddAll H xs (rs.map rd) ∧ rs.length ≤ 100 ∧
  ∀ b H', Same H H' → (b = true ↔ ∀ k, k + 1 < rs.length → Tm.ltR (rs.getD k (0, 0)) (rs.getD (k + 1) (0, 0)) = true) → Q (.bl b) H'
def spAreRoads : Sp := fun vs H Q _ => ∃ (n : Nat) (v : V) (d : PyData), vs = [.int n, v] ∧ Rdd H v d ∧ Tame d ∧ 1 ≤ n ∧ n ≤ 65 ∧
  ∀ b H', Same H H' → (b = true ↔ ∃ rs, isRoads d rs ∧ Tm.RoadsOk n rs) → Q (.bl b) H'
theorem lexLt2 (a b c d : Int) : HT.lexLt [a, b] [c, d] = (decide (a < c) || (decide (a = c) && decide (b < d))) := by
  rw [HT.lexLt_cons, HT.lexLt_cons, HT.lexLt_nil_nil]
  by_cases e : a = c
  · subst e
    by_cases f : b = d
    · subst f; simp
    · simp [f]
  · simp [e]
theorem ltR_int (a b : Tm.Road) : HT.lexLt [(a.1 : Int), a.2] [(b.1 : Int), b.2] = Tm.ltR a b := by
  rw [lexLt2]
  unfold Tm.ltR
  congr 1
  · apply decide_eq_decide.mpr; omega
  · congr 1 <;> (apply decide_eq_decide.mpr; omega)
section
variable {P : Program} {w : World} {K : PySem.W.Frag} {mg : Str → Option Value} {base : Heap} {f : Addr} {fd : FuncData}
theorem ok_is_ascending (F : Fd K "is_ascending" sIsAsc f fd) (g : mg "is_ascending" = some (.ref f)) (B : Bl mg) : Ok P w K mg base CX0 1 "is_ascending" sIsAsc ["values"] spIsAsc := by
  refine ⟨f, fd, g, F, F.bindsN fun _ _ _ _ _ _ us hl => match us, hl with | [_], _ => rfl, F.ok scIsAsc (fun vs H Q E h => ?_) (fun cdv A outer s H vs Q E hr h => ?_)⟩
  · obtain ⟨p, xs, rs, rfl, _⟩ := h
    rfl
  · refine ⟨_, (pss_one (ps_ret (pe_callB (cr_all rfl) (by rfl) (B.u "all" (by decide +kernel)) (by decide +kernel) (pa_cons (pe_lc (own := [("k", 1)]) (g := gName 1) rfl scIsAsc.nd (pi_range1 (by rfl) (B.u "range" (by decide +kernel)) (pa_cons (pe_op op_sub (pe_callB call_len (by rfl) (B.u "len" (by decide +kernel)) boot_len (pa_cons (pv 0) pa_nil)) pe_int) pa_nil)) (blkOk_by (N := ["values", "k"]) (sc := defScope sIsAsc) (by decide +kernel)) (fun _ _ _ _ _ => (pg_name (i := 1) scIsAsc.nd rfl (Or.inl rfl))) (fun _ _ _ _ _ => pts_nil) (fun _ _ _ _ _ => (pe_cmpR (r := rLtT K) (op_ltT (by exact hr.units0)) (pe_ix (r := rIx K) ix_seq (pv 0) (pv 1) fun _ _ => rfl) (pe_ix (r := rIx K) ix_seq (pv 0) (pe_op op_add (pv 1) pe_int) fun _ _ => rfl) (nomark _)))) pa_nil)))), ?_⟩
    obtain ⟨p, xs, rs, rfl, hp, ra, hl, q⟩ := h
    have l := rdds_len ra
    rw [List.length_map] at l
    have at_ : ∀ k, k < rs.length → ∃ a, xs[k]? = some (.ref a) ∧ H a = some (.tup [.int ((rs.getD k (0, 0)).1 : Nat), .int ((rs.getD k (0, 0)).2 : Nat)]) := by
      intro k hk
      have e : (rs.map rd)[k]? = some (rd (rs.getD k (0, 0))) := by
        rw [List.getElem?_map, List.getElem?_eq_getElem hk, List.getD_eq_getElem?_getD, List.getElem?_eq_getElem hk] <;> rfl
      obtain ⟨x, hx, r⟩ := rdds_get ra e
      unfold rd at r
      cases r with
      | tup h r2 =>
        obtain ⟨y, z, rfl, r3, r4⟩ := rdds_two r2
        cases r3
        cases r4
        exact ⟨_, hx, h⟩
    refine ⟨_, rfl, _, _, rfl, hp.len, _, _, rfl, rfl, _, rfl, by omega, by omega, fun D hD => ?_⟩
    have en : (((xs.length : Nat) : Int) - 1).toNat = rs.length - 1 := by omega
    show ∃ W : Nat → Nat → Hp → Prop, _
    rw [en]
    refine lc_gen walk_range (fun _ => true) (fun i y _ => y = .bl (Tm.ltR (rs.getD i (0, 0)) (rs.getD (i + 1) (0, 0)))) (fun _ _ _ _ _ h => h) hD (by omega) (fun _ _ => True.intro) ?_ ?_
    · rintro i x H1 H2 K1 N1 hi k1 ⟨o, ho⟩ ⟨rfl, rfl⟩ hK _
      obtain ⟨a, xa, ha⟩ := at_ i (by omega)
      obtain ⟨b, xb, hb⟩ := at_ (i + 1) (by omega)
      have e1 : (0 : Int) + i = (i : Nat) := by omega
      have e2 : (0 : Int) + i + 1 = ((i + 1 : Nat) : Int) := by omega
      have k2 := del_sub k1
      refine ⟨rfl, _, rfl, _, rfl, (hp.mono k2).ix (by rw [e1]; exact atI_nat xa) ⟨_, rfl, _, rfl, _, _, rfl, rfl, (hp.mono k2).ix (by rw [e2]; exact atI_nat xb) ?_⟩⟩
      refine ⟨_, _, [((rs.getD i (0, 0)).1 : Int), (rs.getD i (0, 0)).2], [((rs.getD (i + 1) (0, 0)).1 : Int), (rs.getD (i + 1) (0, 0)).2], rfl, rfl, SqT.of (k2 _ _ ha), SqT.of (k2 _ _ hb), ?_⟩
      refine hK rfl _ _ (Same.refl _) ?_
      rw [ltR_int]
    · intro ys H1 k1 h1 l1 r1
      rw [filt_all] at l1 r1
      have e := map_of (F := fun i => V.bl (Tm.ltR (rs.getD i (0, 0)) (rs.getD (i + 1) (0, 0)))) l1 r1
      subst e
      refine ⟨D, (List.range (rs.length - 1)).map fun i => Tm.ltR (rs.getD i (0, 0)) (rs.getD (i + 1) (0, 0)), rfl, ?_, q _ H1 (del_sub k1) ?_⟩
      · rw [List.map_map]
        exact SqL.of h1
      · rw [List.all_map, List.all_eq_true]
        constructor
        · intro h k hk
          exact h k (List.mem_range.mpr (by omega))
        · intro h k hk
          have := List.mem_range.mp hk
          exact h k (by omega)
theorem asc_of {rs : List Tm.Road} (h : ∀ k, k + 1 < rs.length → Tm.ltR (rs.getD k (0, 0)) (rs.getD (k + 1) (0, 0)) = true) : rs.Pairwise fun a b => Tm.ltR a b = true := by
  induction rs with
  | nil => exact .nil
  | cons a rs ih =>
    have i := ih fun k hk => by
      have := h (k + 1) (by rw [List.length_cons]; omega)
      simpa using this
    refine .cons (fun b hb => ?_) i
    cases rs with
    | nil => cases hb
    | cons c rs =>
      have h0 : Tm.ltR a c = true := by
        have := h 0 (by simp)
        simpa using this
      rcases List.mem_cons.mp hb with rfl | hb
      · exact h0
      · have h1 := (List.pairwise_cons.mp i).1 b hb
        simp only [Tm.ltR, Bool.or_eq_true, Bool.and_eq_true, decide_eq_true_eq] at h0 h1 ⊢
        omega
theorem of_asc {rs : List Tm.Road} (h : rs.Pairwise fun a b => Tm.ltR a b = true) : ∀ k, k + 1 < rs.length → Tm.ltR (rs.getD k (0, 0)) (rs.getD (k + 1) (0, 0)) = true := by
  intro k hk
  rw [List.getD_eq_getElem?_getD, List.getD_eq_getElem?_getD, List.getElem?_eq_getElem (by omega), List.getElem?_eq_getElem hk]
  exact List.pairwise_iff_getElem.mp h k (k + 1) (by omega) hk (by omega)

def Good (n : Nat) (d : PyData) : Prop := ∃ u v : Nat, d = rd (u, v) ∧ u < v ∧ v < n
theorem rd_inj {a b : Tm.Road} (h : rd a = rd b) : a = b := by
  unfold rd at h
  obtain ⟨a1, a2⟩ := a
  obtain ⟨b1, b2⟩ := b
  simp at h
  have h1 : a1 = b1 := by omega
  have h2 : a2 = b2 := by omega
  rw [h1, h2]
theorem rds_inj : ∀ {rs qs : List Tm.Road}, rs.map rd = qs.map rd → rs = qs
  | [], [], _ => rfl
  | a :: rs, b :: qs, h => by
    rw [List.map_cons, List.map_cons] at h
    have h1 := (List.cons.inj h).1
    have h2 := (List.cons.inj h).2
    rw [rd_inj h1, rds_inj h2]
  | [], _ :: _, h => nomatch h
  | _ :: _, [], h => nomatch h
theorem goods {n : Nat} : ∀ {ds : List PyData}, (∀ d ∈ ds, Good n d) → ∃ rs : List Tm.Road, ds = rs.map rd ∧ ∀ r ∈ rs, r.1 < r.2 ∧ r.2 < n
  | [], _ => ⟨[], rfl, fun _ z => nomatch z⟩
  | d :: ds, h => by
    obtain ⟨u, v, e, h1, h2⟩ := h d List.mem_cons_self
    obtain ⟨rs, e2, h3⟩ := goods fun x hx => h x (List.mem_cons_of_mem _ hx)
    refine ⟨(u, v) :: rs, by rw [e, e2]; rfl, fun r hr => ?_⟩
    rcases List.mem_cons.mp hr with rfl | hr
    · exact ⟨h1, h2⟩
    · exact h3 r hr
theorem good_of {n : Nat} {ds : List PyData} {rs : List Tm.Road} (e : ds = rs.map rd) (ok : Tm.RoadsOk n rs) : ∀ d ∈ ds, Good n d := fun d hd => by
  rw [e] at hd
  obtain ⟨r, hr, rfl⟩ := List.mem_map.mp hd
  exact ⟨r.1, r.2, rfl, (ok.bnd r hr).1, (ok.bnd r hr).2⟩
theorem isRoads_row {d : PyData} {ds : List PyData} (h : d = .list ds ∨ d = .tuple ds) {rs : List Tm.Road} : isRoads d rs ↔ ds = rs.map rd := by
  unfold isRoads
  rcases h with rfl | rfl <;> simp
theorem row_of {H : Hp} {v : V} {d : PyData} (r : Rdd H v d) (h : listD d = true) : ∃ p xs ds, v = .ref p ∧ RowAt H p xs ∧ RddAll H xs ds ∧ (d = .list ds ∨ d = .tuple ds) := by
  cases r with
  | lst h1 r => exact ⟨_, _, _, rfl, .inl h1, r, .inl rfl⟩
  | tup h1 r => exact ⟨_, _, _, rfl, .inr h1, r, .inr rfl⟩
  | _ => exact absurd h (by simp [listD, tyd])
theorem wtAll_len : ∀ ds : List PyData, 2 * ds.length ≤ wtAll ds
  | [] => Nat.zero_le _
  | d :: ds => by
    have := wtAll_len ds
    simp only [wtAll, List.length_cons]
    omega
theorem wtAll_mem : ∀ {ds : List PyData} {d : PyData}, d ∈ ds → wt d ≤ wtAll ds
  | d :: ds, e, h => by
    simp only [wtAll]
    rcases List.mem_cons.mp h with rfl | h
    · omega
    · have := wtAll_mem h
      omega
theorem tame_len {d : PyData} {ds : List PyData} (t : Tame d) (h : d = .list ds ∨ d = .tuple ds) : ds.length ≤ 500000 ∧ ∀ e ∈ ds, wt e ≤ 1000000 := by
  have w := t.w
  have l := wtAll_len ds
  rcases h with rfl | rfl
  · simp only [wt] at w
    exact ⟨by omega, fun e he => by have := wtAll_mem he; omega⟩
  · simp only [wt] at w
    exact ⟨by omega, fun e he => by have := wtAll_mem he; omega⟩
theorem belowD_nat {n : Nat} {d : PyData} (h : belowD n d = true) : ∃ u : Nat, d = .int u ∧ u < n := by
  cases d with
  | int i =>
    simp only [belowD, Bool.and_eq_true, decide_eq_true_eq] at h
    exact ⟨i.toNat, by rw [Int.toNat_of_nonneg h.1], by omega⟩
  | _ => cases h
theorem belowD_of {n u : Nat} (h : u < n) : belowD n (.int u) = true := by
  simp only [belowD, Bool.and_eq_true, decide_eq_true_eq]
  omega
theorem ok_are_roads (F : Fd K "are_roads" sAreRoads f fd) (g : mg "are_roads" = some (.ref f)) (B : Bl mg) (o_is_list : Ok P w K mg base CX0 1 "is_list" sIsList ["value"] spIsList) (o_is_tuple : Ok P w K mg base CX0 1 "is_tuple" sIsTuple ["value", "many"] spIsTuple)
    (o_is_below : Ok P w K mg base CX0 1 "is_below" sIsBelow ["value", "bound"] spIsBelow) (o_is_ascending : Ok P w K mg base CX0 1 "is_ascending" sIsAsc ["values"] spIsAsc) : Ok P w K mg base CX0 2 "are_roads" sAreRoads ["houses", "value"] spAreRoads := by
  refine ⟨f, fd, g, F, F.bindsN fun _ _ _ _ _ _ us hl => match us, hl with | [_, _], _ => rfl, F.ok scAreRoads (fun vs H Q E h => ?_) (fun cdv A outer s H vs Q E hr h => ?_)⟩
  · obtain ⟨n, v, d, rfl, _⟩ := h
    rfl
  · refine ⟨_, (pss_cons (ps_if (pw_or (pt_not (pt_val (pe_o o_is_list (hr.mono (by decide)) (by rfl) (pa_cons (pv 1) pa_nil)))) (pw_or1 (pt_cmpR op_ne (pe_callB call_len (by rfl) (B.u "len" (by decide +kernel)) boot_len (pa_cons (pv 1) pa_nil)) (pe_op op_sub (pv 0) pe_int) (nomark _)))).pt
        (pss_one (ps_ret pe_bl))
        pss_nil)
      (pss_cons (ps_for (passes_of rfl) rfl (pi_seq (pv 1)) (pg_name (i := 2) scAreRoads.nd rfl (Or.inl rfl))
        (pss_cons (ps_if (pw_or (pt_not (pt_val (pe_o o_is_tuple (hr.mono (by decide)) (by rfl) (pa_cons (pv 2) (pa_cons pe_int pa_nil))))) (pw_or (pt_not (pt_val (pe_o o_is_below (hr.mono (by decide)) (by rfl) (pa_cons (pe_ix ix_seq (pv 2) pe_int fun _ _ => rfl) (pa_cons (pv 0) pa_nil))))) (pw_or1 (pt_not (pt_val (pe_o o_is_below (hr.mono (by decide)) (by rfl) (pa_cons (pe_ix ix_seq (pv 2) pe_int fun _ _ => rfl) (pa_cons (pv 0) pa_nil)))))))).pt
          (pss_one (ps_ret pe_bl))
          pss_nil)
        (pss_one (ps_if (pt_cmpR op_ge (pe_ix ix_seq (pv 2) pe_int fun _ _ => rfl) (pe_ix ix_seq (pv 2) pe_int fun _ _ => rfl) (nomark _))
          (pss_one (ps_ret pe_bl))
          pss_nil))))
      (pss_one (ps_ret (pe_o o_is_ascending (hr.mono (by decide)) (by rfl) (pa_cons (pv 1) pa_nil)))))), ?_⟩
    obtain ⟨n, v, d, rfl, r, t, n1, n2, q⟩ := h
    refine ⟨_, rfl, v, d, rfl, r, fun H1 k1 => ⟨_, rfl, iteB (fun e => iteT ?_) fun e => ?_⟩⟩
    · -- no row
      refine q _ _ k1 ⟨(fun z => nomatch z), fun ⟨rs, hr, ok⟩ => ?_⟩
      have e := not_t e
      rcases hr with rfl | rfl <;> simp [listD, tyd] at e
    have e := not_f e
    obtain ⟨p, xs, ds, rfl, hp, ra, hd⟩ := row_of r e
    have hp1 := hp.mono k1
    have ra1 := ra.mono k1
    have l := rdds_len ra
    obtain ⟨tl, tm⟩ := tame_len t hd
    refine ⟨_, rfl, _, _, rfl, hp1.len, _, rfl, _, _, rfl, rfl, rfl, _, rfl, iteB (fun e2 => ?_) fun e2 => ?_⟩
    · refine q _ _ k1 ⟨(fun z => nomatch z), fun ⟨rs, hr, ok⟩ => ?_⟩
      have e3 := (isRoads_row hd).mp hr
      have e2 := not_t e2
      have e2 := of_decide_eq_false e2
      refine absurd (congrArg V.int ?_) e2
      have := ok.len
      rw [l, e3, List.length_map]
      omega
    have e2 := not_f e2
    have e2 : ((xs.length : Nat) : Int) = (n : Int) - 1 := V.int.inj (of_decide_eq_true e2)
    refine ⟨_, rfl, p, xs, rfl, hp1.sq, fun J w => ?_⟩
    refine for_it w (fun i σ H' => Same H1 H' ∧ (∀ d ∈ ds.take i, Good n d) ∧ ∃ a : Option V, σ = [some (.int n), some (.ref p), a]) ⟨Same.refl _, (fun d hd => by simp at hd), none, rfl⟩ (fun i σ H' _ h => ?_) ?_ ?_
    · rcases hp1 with h1 | h1
      · rw [h1, h.1 _ _ h1]
      · rw [h1, h.1 _ _ h1]
    · rintro i x σ H0 H2 hi ⟨k2, g2, a, rfl⟩ ⟨rfl, hx⟩
      have hdi : i < ds.length := by omega
      obtain ⟨x', hx', rx⟩ := rdds_get (ra1.mono k2) (List.getElem?_eq_getElem hdi)
      rw [hx] at hx'
      obtain rfl : x = x' := Option.some.inj hx'
      have mem : ds[i] ∈ ds := List.getElem_mem hdi
      have bad : ¬ Good n ds[i] → ∀ H', Same H2 H' → Q (.bl false) H' := fun nb H' k => q _ _ (k1.trans (k2.trans k)) ⟨(fun z => nomatch z), fun ⟨rs, hr, ok⟩ => absurd (good_of ((isRoads_row hd).mp hr) ok _ mem) nb⟩
      have tw := tm _ mem
      refine ⟨_, rfl, x, ds[i], 2, rfl, rx, (fun es z => ?_), _, rfl, iteB (fun e3 => iteT ?_) fun e3 => ?_⟩
      · rw [z] at tw
        simp only [wt] at tw
        have := wtAll_len es
        omega
      · refine bad (fun ⟨u, v, z, _⟩ => ?_) _ (Same.refl _)
        rw [z] at e3
        exact absurd e3 (by simp [tupD, rd])
      have e3 := not_f e3
      generalize hdd : ds[i] = di at *
      cases rx with
      | @tup pt ys es h r2 =>
        have le : es.length = 2 := of_decide_eq_true e3
        obtain ⟨d1, d2, rfl⟩ : ∃ d1 d2, es = [d1, d2] := match es, le with
          | [a, b], _ => ⟨a, b, rfl⟩
        obtain ⟨y1, y2, rfl, r1, r3⟩ := rdds_two r2
        have i0 : ∀ {Q : VK}, Q y1 H2 → rIx K (.ref pt) (.int 0) H2 Q := fun z => ixTup (SqT.of h) rfl z
        have i1 : ∀ {Q : VK}, Q y2 H2 → rIx K (.ref pt) (.int 1) H2 Q := fun z => ixTup (SqT.of h) rfl z
        refine ⟨_, rfl, i0 ⟨_, rfl, y1, d1, (n : Int), rfl, r1, _, rfl, iteB (fun e4 => iteT ?_) fun e4 => ?_⟩⟩
        · refine bad (fun ⟨u, v, z, h1, h2⟩ => ?_) _ (Same.refl _)
          simp [rd] at z
          rw [z.1, belowD_of (by omega)] at e4
          cases e4
        refine ⟨_, rfl, i1 ⟨_, rfl, y2, d2, (n : Int), rfl, r3, _, rfl, iteB (fun e5 => ?_) fun e5 => ?_⟩⟩
        · refine bad (fun ⟨u, v, z, h1, h2⟩ => ?_) _ (Same.refl _)
          simp [rd] at z
          rw [z.2, belowD_of (by omega)] at e5
          cases e5
        obtain ⟨u, rfl, hu⟩ := belowD_nat (not_f e4)
        obtain ⟨u2, rfl, hu2⟩ := belowD_nat (not_f e5)
        cases r1
        cases r3
        refine ⟨_, rfl, i0 ⟨_, rfl, i1 ⟨_, _, rfl, rfl, _, rfl, iteB (fun e6 => ?_) fun e6 => ?_⟩⟩⟩
        · refine bad (fun ⟨a, b, z, h1, h2⟩ => ?_) _ (Same.refl _)
          simp [rd] at z
          have := of_decide_eq_true e6
          omega
        · refine ⟨k2, fun d hd' => ?_, _, rfl⟩
          rw [List.take_succ_eq_append_getElem hdi] at hd'
          rcases List.mem_append.mp hd' with hd' | hd'
          · exact g2 d hd'
          · have := of_decide_eq_false e6
            simp at hd'
            subst hd'
            rw [hdd]
            exact ⟨u, u2, rfl, by omega, hu2⟩
      | _ => exact absurd e3 (by simp [tupD])
    · rintro σ H2 ⟨k2, g2, a, rfl⟩
      have e5 : xs.length = ds.length := l
      rw [e5, List.take_length] at g2
      obtain ⟨rs, rfl, hb⟩ := goods g2
      rw [List.length_map] at l
      refine ⟨_, rfl, p, xs, rs, rfl, hp1.mono k2, ra1.mono k2, by omega, fun b H3 k3 hbi => ?_⟩
      refine q b H3 (k1.trans (k2.trans k3)) ?_
      rw [hbi]
      constructor
      · intro h
        exact ⟨rs, (isRoads_row hd).mpr rfl, by omega, hb, asc_of h⟩
      · rintro ⟨qs, hq, ok⟩
        have := rds_inj ((isRoads_row hd).mp hq)
        subst this
        exact of_asc ok.asc
end
end K03

/-! a list of lists, each changed by its place; dicts of whole numbers -/
namespace L2
open PySem PySem.Spec PyProof.Rows
/-- at L: the list of the lists at as, the h-th of them f h -/
structure LL (H : Hp) (L : Addr) (as : List Addr) (f : Nat → List V) : Prop where
  top : H L = some (.lst (as.map V.ref))
  nd : as.Nodup
  nin : L ∉ as
  row : ∀ (h : Nat) (a : Addr), as[h]? = some a → H a = some (.lst (f h))
theorem LL.set {H : Hp} {L : Addr} {as : List Addr} {f : Nat → List V} (S : LL H L as f) {u : Nat} {a : Addr} (ha : as[u]? = some a) (ys : List V) : LL (upd H a (.lst ys)) L as (fun h => if h = u then ys else f h) where
  top := by rw [upd_ne (fun e => S.nin (by rw [e]; exact List.mem_of_getElem? ha))]; exact S.top
  nd := S.nd
  nin := S.nin
  row := fun h b hb => by
    by_cases e : h = u
    · subst e
      rw [ha] at hb
      cases hb
      rw [if_pos rfl, upd_same]
    · rw [if_neg e]
      have ne : b ≠ a := fun z => by
        subst z
        obtain ⟨l1, e1⟩ := List.getElem?_eq_some_iff.mp hb
        obtain ⟨l2, e2⟩ := List.getElem?_eq_some_iff.mp ha
        have nd := List.pairwise_iff_getElem.mp S.nd
        rcases Nat.lt_trichotomy h u with c | c | c
        · exact nd h u l1 l2 c (e1.trans e2.symm)
        · exact e c
        · exact nd u h l2 l1 c (e2.trans e1.symm)
      rw [upd_ne ne]
      exact S.row h b hb
theorem LL.congr {H : Hp} {L : Addr} {as : List Addr} {f g : Nat → List V} (S : LL H L as f) (h : ∀ i, i < as.length → f i = g i) : LL H L as g :=
  ⟨S.top, S.nd, S.nin, fun i a ha => by rw [← h i (List.getElem?_eq_some_iff.mp ha).1]; exact S.row i a ha⟩
/-- [[] for .. in ..] -/
theorem lc_empties {J : It} {n : Nat} {G : Hp → Prop} {Y : Nat → Hp → V → Hp → Prop} (w : Walk J n G Y) {g : TG} {tt : TT} {te : TE} {vs : List Nat} {σ : St} {H : Hp} {D : Addr} {Qd : Hp → Prop} (hD : H D = none) (hn : n ≤ 16777215) (hG : ∀ H', Same H (del H' D) → G H')
    (he : ∀ i x H1 H2 (K : V → Hp → Prop) (N : Hp → Prop), i < n → Same H (del H1 D) → Y i H1 x H2 → (∀ a, H1 a = none → K (.ref a) (upd H1 a (.lst []))) → g x (wipe σ vs) H2 fun σ2 H2' => wipe σ2 vs = wipe σ vs ∧ tt σ2 H2' fun b H3 => if b = true then te σ2 H3 K else N H3)
    (q : ∀ as H', as.length = n → (∀ a ∈ as, H a = none) → Same H (del H' D) → Same H H' → LL H' D as (fun _ => []) → Qd H') :
    ∃ W : Nat → Nat → Hp → Prop, (∃ m, W 0 m (upd H D (.lst []))) ∧ ∀ i m H, W i m H →
      (J.stop i H ∧ Qd H) ∨ (J.go i H ∧ ∃ Nx : Hp → Prop, (∀ H', Nx H' → ∃ m', m' < m ∧ W (i + 1) m' H') ∧ ∀ x H', J.yld i H x H' → g x (wipe σ vs) H' fun σ2 H2 => wipe σ2 vs = wipe σ vs ∧ tt σ2 H2 fun b H3 =>
        if b = true then te σ2 H3 fun y H4 => ∃ acc, H4 D = some (.lst acc) ∧ acc.length < sizeLine ∧ Nx (upd H4 D (.lst (acc ++ [y]))) else Nx H3) := by
  refine lc_it w (fun i H' => Same H (del H' D) ∧ ∃ as : List Addr, as.length = i ∧ (∀ a ∈ as, H a = none) ∧ LL H' D as (fun _ => [])) ?_ (fun i H' _ h => hG H' h.1) ?_ ?_
  · refine ⟨fun b o e => ?_, [], rfl, (fun _ z => nomatch z), upd_same, .nil, (fun z => nomatch z), fun h a z => by simp at z⟩
    rw [del_ne (ne_of_none e hD), upd_ne (ne_of_none e hD)]
    exact e
  · rintro i x H1 H2 hi ⟨k1, as, l1, f1, S⟩ hy
    refine he i x H1 H2 _ _ hi k1 hy fun a ha => ?_
    have nD : a ≠ D := fun e => by rw [e, S.top] at ha; cases ha
    have na : a ∉ as := fun m => by
      obtain ⟨j, lj, e⟩ := List.mem_iff_getElem.mp m
      have := S.row j a (by rw [List.getElem?_eq_getElem lj, e])
      rw [this] at ha
      cases ha
    have Ha : H a = none := by
      cases e : H a with
      | none => rfl
      | some o =>
        have := k1 a o e
        rw [del_ne nD, ha] at this
        cases this
    refine ⟨as.map V.ref, by rw [upd_ne nD.symm]; exact S.top, by rw [List.length_map, l1]; exact lt_ln (by omega), (fun b o z => ?_), as ++ [a], by rw [List.length_append, l1]; rfl, ?_, ?_⟩
    · have z1 := k1 b o z
      have nb : b ≠ D := ne_of_none z hD
      rw [del_ne nb] at z1 ⊢
      rw [upd_ne nb, upd_ne (ne_of_none z1 ha)]
      exact z1
    · intro b hb
      rcases List.mem_append.mp hb with hb | hb
      · exact f1 b hb
      · rw [List.mem_singleton.mp hb]
        exact Ha
    · refine ⟨by rw [upd_same, List.map_append]; rfl, ?_, ?_, ?_⟩
      · refine List.nodup_append.mpr ⟨S.nd, by simp, fun b hb c hc e => ?_⟩
        rw [List.mem_singleton.mp hc] at e
        subst e
        exact na hb
      · intro m
        rcases List.mem_append.mp m with m | m
        · exact S.nin m
        · exact nD (List.mem_singleton.mp m).symm
      · intro h b hb
        have nb : b ≠ D := fun e => by
          subst e
          have m := List.mem_of_getElem? hb
          rcases List.mem_append.mp m with m | m
          · exact S.nin m
          · exact nD (List.mem_singleton.mp m).symm
        rw [upd_ne nb]
        by_cases c : h < as.length
        · rw [List.getElem?_append_left c] at hb
          have z := S.row h b hb
          rw [upd_ne (ne_of_none z ha)]
          exact z
        · rw [List.getElem?_append_right (by omega)] at hb
          have : b = a := by
            cases k : h - as.length with
            | zero => rw [k] at hb; simpa using hb.symm
            | succ m => rw [k] at hb; simp at hb
          rw [this, upd_same]
  · rintro H1 ⟨k1, as, l1, f1, S⟩
    exact q as H1 l1 f1 k1 (del_sub k1) S
/-! ### dicts of whole numbers -/
/-- the entries of a dict from numbers to numbers -/
def dkv (b : List (Nat × Nat)) : List (Key × V) := b.map fun e => (Sum.inl (e.1 : Int), V.int (e.2 : Int))
theorem dkv_val {b : List (Nat × Nat)} {x : Nat} : (valV (dkv b) (Sum.inl (x : Int))).isSome = decide (x ∈ b.map (·.1)) := by
  induction b with
  | nil => rfl
  | cons e b ih =>
    show (valV ((Sum.inl (e.1 : Int), V.int (e.2 : Int)) :: dkv b) (Sum.inl (x : Int))).isSome = _
    by_cases c : e.1 = x
    · subst c
      rw [valV_pos rfl]
      simp
    · have n : ¬ (Sum.inl (e.1 : Int) : Key) = Sum.inl (x : Int) := fun z => c (by have := Sum.inl.inj z; omega)
      rw [valV_neg n, ih]
      have n2 : ¬ x = e.1 := fun z => c z.symm
      simp [n2]
theorem dkv_get {b : List (Nat × Nat)} {x p : Nat} (nd : (b.map (·.1)).Nodup) (h : (x, p) ∈ b) : valV (dkv b) (Sum.inl (x : Int)) = some (.int p) := by
  induction b with
  | nil => cases h
  | cons e b ih =>
    have nd' : e.1 ∉ b.map (·.1) ∧ (b.map (·.1)).Nodup := by simpa using nd
    show valV ((Sum.inl (e.1 : Int), V.int (e.2 : Int)) :: dkv b) (Sum.inl (x : Int)) = _
    rcases List.mem_cons.mp h with h | h
    · subst h
      exact valV_pos rfl
    · have n : ¬ (Sum.inl (e.1 : Int) : Key) = Sum.inl (x : Int) := fun z => by
        have : e.1 = x := by have := Sum.inl.inj z; omega
        exact nd'.1 (by rw [this]; exact List.mem_map.mpr ⟨_, h, rfl⟩)
      rw [valV_neg n]
      exact ih nd'.2 h
theorem dkv_put {b : List (Nat × Nat)} {x p : Nat} (h : x ∉ b.map (·.1)) : putK (dkv b) (Sum.inl (x : Int)) (.int p) = dkv (b ++ [(x, p)]) := by
  have e : valV (dkv b) (Sum.inl (x : Int)) = none := by
    have := dkv_val (b := b) (x := x)
    rw [decide_eq_false h] at this
    cases z : valV (dkv b) (Sum.inl (x : Int)) with
    | none => rfl
    | some v => rw [z] at this; cases this
  rw [putK_new _ e]
  simp [dkv]
end L2

namespace K03
open PySem PySem.Spec PyProof.Rows L2
abbrev sNear : Stmt := top 18
theorem scNear : FnScope ["houses", "roads", "near", "_", "u", "v", "row"] ["houses", "roads"] (defScope sNear) := ⟨rfl, rfl, rfl, by decide +kernel, rfl, by decide +kernel, by decide +kernel⟩
abbrev sFrom : Stmt := top 19
theorem scFrom : FnScope ["near", "start", "barred", "before", "fresh", "house", "other"] ["near", "start", "barred"] (defScope sFrom) := ⟨rfl, rfl, rfl, by decide +kernel, rfl, by decide +kernel, by decide +kernel⟩
/-- whole numbers as values, as data -/
def natV (l : List Nat) : List V := l.map fun x : Nat => V.int (x : Int)
def natD (l : List Nat) : List PyData := l.map fun x : Nat => PyData.int (x : Int)
def nearD (n : Nat) (rs : List Tm.Road) : PyData := .tuple ((List.range n).map fun h => .tuple (natD (Tm.near rs h)))
theorem nat_rdd {H : Hp} : ∀ l : List Nat, RddAll H (natV l) (natD l)
  | [] => .nil
  | x :: l => .cons (.int _) (nat_rdd l)
theorem rdd_nat {H : Hp} : ∀ {l : List Nat} {xs : List V}, RddAll H xs (natD l) → xs = natV l
  | [], _, .nil => rfl
  | x :: l, _, .cons r t => by
    cases r
    rw [rdd_nat t]
    rfl
abbrev Bnd (n : Nat) (rs : List Tm.Road) : Prop := ∀ r ∈ rs, r.1 < r.2 ∧ r.2 < n
def spNear : Sp := fun vs H Q _ => ∃ (n : Nat) (p : Addr) (xs : List V) (rs : List Tm.Road), vs = [.int n, .ref p] ∧ RowAt H p xs ∧ RddAll H xs (rs.map rd) ∧ Bnd n rs ∧ n ≤ 100 ∧ rs.length ≤ 100 ∧
  ∀ nt H', Same H H' → Rdd H' (.ref nt) (nearD n rs) → Q (.ref nt) H'
def barV : Option Nat → V
  | none => .non
  | some x => .int x
def spFrom : Sp := fun vs H Q _ => ∃ (nt : Addr) (n s : Nat) (rs : List Tm.Road) (bar : Option Nat), vs = [.ref nt, .int s, barV bar] ∧ Rdd H (.ref nt) (nearD n rs) ∧ Bnd n rs ∧ s < n ∧ n ≤ 100 ∧
  ∀ d b H', Same H H' → H d = none → Tm.Dfs (Tm.near rs) bar [(s, s)] [s] b → Tm.Going (Tm.near rs) bar s b [] → H' d = some (.dK (dkv b)) → Q (.ref d) H'
/-- the row of a house -/
theorem near_row {H : Hp} {nt : Addr} {n h : Nat} {rs : List Tm.Road} (r : Rdd H (.ref nt) (nearD n rs)) (hh : h < n) : ∃ xs t, H nt = some (.tup xs) ∧ atI xs (h : Int) = some (.ref t) ∧ H t = some (.tup (natV (Tm.near rs h))) := by
  cases r with
  | tup h1 ra =>
    have e : ((List.range n).map fun h => PyData.tuple (natD (Tm.near rs h)))[h]? = some (.tuple (natD (Tm.near rs h))) := by
      rw [List.getElem?_map, List.getElem?_eq_getElem (by rw [List.length_range]; exact hh)]
      simp
    obtain ⟨x, hx, rx⟩ := rdds_get ra e
    cases rx with
    | tup h2 r2 =>
      rw [rdd_nat r2] at h2
      exact ⟨_, _, h1, atI_nat hx, h2⟩
theorem near_len {n : Nat} {rs : List Tm.Road} (h : Nat) : (Tm.near rs h).length ≤ rs.length := List.length_filterMap_le _ _
theorem nat_get {l : List Nat} {i : Nat} {x : V} (h : (natV l)[i]? = some x) : ∃ (lt : i < l.length), x = .int (l[i] : Nat) := by
  unfold natV at h
  rw [List.getElem?_map] at h
  cases e : l[i]? with
  | none => rw [e] at h; cases h
  | some y =>
    rw [e] at h
    obtain ⟨lt, z⟩ := List.getElem?_eq_some_iff.mp e
    refine ⟨lt, ?_⟩
    rw [z]
    exact (Option.some.inj h).symm
section
variable {P : Program} {w : World} {K : PySem.W.Frag} {mg : Str → Option Value} {base : Heap} {f : Addr} {fd : FuncData}
theorem ok_houses_near (F : Fd K "houses_near" sNear f fd) (g : mg "houses_near" = some (.ref f)) (B : Bl mg) : Ok P w K mg base CX0 1 "houses_near" sNear ["houses", "roads"] spNear := by
  refine ⟨f, fd, g, F, F.bindsN fun _ _ _ _ _ _ us hl => match us, hl with | [_, _], _ => rfl, F.ok scNear (fun vs H Q E h => ?_) (fun cdv A outer s H vs Q E hr h => ?_)⟩
  · obtain ⟨n, p, xs, rs, rfl, _⟩ := h
    rfl
  · refine ⟨_, (pss_cons (ps_setLc (i := 2) (own := [("_", 3)]) (g := gName 3) rfl scNear.nd rfl rfl (sw_true rfl rfl rfl (by decide +kernel)) (pi_range1 (by rfl) (B.u "range" (by decide +kernel)) (pa_cons (pv 0) pa_nil)) (blkOk_by (N := ["houses", "roads", "near", "_", "u", "v", "row"]) (sc := defScope sNear) (by decide +kernel)) (fun _ _ _ _ _ => (pg_name (i := 3) scNear.nd rfl (Or.inl rfl))) (fun _ _ _ _ _ => pts_nil) (fun _ _ _ _ _ => (pe_lst pa_nil)))
      (pss_cons (ps_for (passes_of rfl) rfl (pi_seq (pv 1)) (pg_tup rfl (pgs_cons (pg_name (i := 4) scNear.nd rfl (Or.inl rfl)) (pgs_cons (pg_name (i := 5) scNear.nd rfl (Or.inl rfl)) pgs_nil)))
        (pss_cons (ps_expr (pe_bm PySem.F.plainAttrs_list PySem.F.slot_list_append PySem.F.type_list_append mt_append (pe_ix ix_seq (pv 2) (pv 4) fun _ _ => rfl) (pa_cons (pv 5) pa_nil)))
        (pss_one (ps_expr (pe_bm PySem.F.plainAttrs_list PySem.F.slot_list_append PySem.F.type_list_append mt_append (pe_ix ix_seq (pv 2) (pv 5) fun _ _ => rfl) (pa_cons (pv 4) pa_nil))))))
      (pss_one (ps_ret (pe_callTy call_tuple_of (by rfl) (B.u "tuple" (by decide +kernel)) (by decide +kernel) (pa_cons (pe_lc (own := [("row", 6)]) (g := gName 6) rfl scNear.nd (pi_list (pv 2)) (blkOk_by (N := ["houses", "roads", "near", "_", "u", "v", "row"]) (sc := defScope sNear) (by decide +kernel)) (fun _ _ _ _ _ => (pg_name (i := 6) scNear.nd rfl (Or.inl rfl))) (fun _ _ _ _ _ => pts_nil) (fun _ _ _ _ _ => (pe_callTy (r := rTupOf K) (by exact call_tuple_of) (by rfl) (B.u "tuple" (by decide +kernel)) (by decide +kernel) (pa_cons (pv 6) pa_nil)))) pa_nil)))))), ?_⟩
    obtain ⟨n, p, xs, rs, rfl, hp, ra, bd, n1, n2, q⟩ := h
    have l := rdds_len ra
    rw [List.length_map] at l
    refine ⟨_, rfl, _, rfl, by omega, by omega, fun D hD => ?_⟩
    refine lc_empties walk_range hD (by omega) (fun _ _ => True.intro) ?_ ?_
    · rintro i x H0 H1 K1 N1 hi k1 ⟨rfl, rfl⟩ hK
      exact ⟨rfl, two_ln (by decide), fun a ha => hK a ha⟩
    · intro as H1 l1 f1 k1 k2 S
      refine ⟨_, rfl, p, xs, rfl, (hp.mono k2).sq, fun J w => ?_⟩
      have keep : ∀ {H' : Hp} {a : Addr} {ys : List V}, Same H H' → a ∈ as → Same H (upd H' a (.lst ys)) := fun k m b o e => by
        rw [upd_ne (ne_of_none e (f1 _ m))]
        exact k b o e
      refine for_it w (fun i σ H' => Same H H' ∧ LL H' D as (fun h => natV (Tm.near (rs.take i) h)) ∧ ∃ a b c : Option V, σ = [some (.int n), some (.ref p), some (.ref D), a, b, c, none]) ⟨k2, S.congr fun i _ => rfl, none, none, none, rfl⟩ (fun i σ H' _ h => ?_) ?_ ?_
      · rcases hp with h1 | h1
        · rw [h.1 _ _ h1, k2 _ _ h1]
        · rw [h.1 _ _ h1, k2 _ _ h1]
      · rintro i x σ H0 H2 hi ⟨k3, S2, a, b, c, rfl⟩ ⟨rfl, hx⟩
        have hdi : i < rs.length := by omega
        obtain ⟨x', hx', rx⟩ := rdds_get (ra.mono k3) (show (rs.map rd)[i]? = some (rd rs[i]) by rw [List.getElem?_map, List.getElem?_eq_getElem hdi]; rfl)
        rw [hx] at hx'
        obtain rfl : x = x' := Option.some.inj hx'
        have bi := bd _ (List.getElem_mem hdi)
        generalize hr2 : rs[i] = r at rx bi
        obtain ⟨u, v⟩ := r
        unfold rd at rx
        cases rx with
        | @tup pt ys es h r2 =>
          obtain ⟨y1, y2, rfl, r3, r4⟩ := rdds_two r2
          cases r3
          cases r4
          simp only at bi
          have lu : u < as.length := by omega
          have lv : v < as.length := by omega
          have au : as[u]? = some as[u] := List.getElem?_eq_getElem lu
          have av : as[v]? = some as[v] := List.getElem?_eq_getElem lv
          have mu := List.getElem_mem lu
          have mv := List.getElem_mem lv
          have len : ∀ h, (natV (Tm.near (rs.take i) h)).length ≤ 100 := fun h => by
            unfold natV
            rw [List.length_map]
            have := near_len (n := n) (rs := rs.take i) h
            rw [List.length_take] at this
            omega
          have S3 := S2.set au (natV (Tm.near (rs.take i) u) ++ [V.int (v : Int)])
          have S4 := S3.set av (natV (Tm.near (rs.take i) v) ++ [V.int (u : Int)])
          have ne : ¬ v = u := by omega
          refine ⟨pt, _, rfl, SqT.of h, rfl, _, _, rfl, _, _, rfl, rfl, ?_⟩
          refine ⟨_, rfl, _, rfl, ixAt (v := .ref as[u]) S2.top (atI_nat (by rw [List.getElem?_map, au]; rfl)) ⟨.inl ⟨rfl, _, SqL.of (S2.row u _ au)⟩, _, rfl, _, _, _, rfl, rfl, S2.row u _ au, lt_ln (by have := len u; omega), ?_⟩⟩
          refine ⟨_, rfl, _, rfl, ixAt (v := .ref as[v]) S3.top (atI_nat (by rw [List.getElem?_map, av]; rfl)) ⟨.inl ⟨rfl, _, SqL.of (S3.row v _ av)⟩, _, rfl, _, _, _, rfl, rfl, S3.row v _ av, ?_, ?_⟩⟩
          · rw [if_neg ne]
            exact lt_ln (by have := len v; omega)
          · rw [if_neg ne]
            refine ⟨keep (keep k3 mu) mv, S4.congr fun j hj => ?_, _, _, _, rfl⟩
            rw [List.take_succ_eq_append_getElem hdi, Tm.near_snoc, hr2]
            unfold natV Tm.nb
            rw [List.map_append]
            by_cases c1 : j = v
            · subst c1
              rw [if_pos rfl, if_neg (by simp only; omega), if_pos rfl]
              rfl
            · rw [if_neg c1]
              by_cases c2 : j = u
              · subst c2
                rw [if_pos rfl, if_pos rfl]
                rfl
              · rw [if_neg c2, if_neg (by simp only; omega), if_neg (by simp only; omega)]
                simp
      · rintro σ H2 ⟨k3, S2, a, b, c, rfl⟩
        rw [l, List.take_length] at S2
        refine ⟨_, rfl, _, rfl, ⟨_, SqL.of S2.top⟩, fun D2 hD2 => ?_⟩
        refine lc_gen walk_list (fun _ => true) (fun i y H' => Rdd H' y (.tuple (natD (Tm.near rs i)))) (fun i y _ _ k h => h.mono k) hD2 (by rw [List.length_map]; omega) (fun H' k => SqL.of (del_sub k _ _ S2.top)) ?_ ?_
        · rintro i x H0 H3 K1 N1 hi k4 ⟨o, ho⟩ ⟨rfl, hx⟩ hK _
          rw [List.length_map] at hi
          have ai : as[i]? = some as[i] := List.getElem?_eq_getElem hi
          rw [List.getElem?_map, ai] at hx
          obtain rfl : V.ref as[i] = x := Option.some.inj hx
          have k5 := del_sub k4
          refine ⟨rfl, _, rfl, _, _, rfl, .inl ⟨SqL.of (k5 _ _ (S2.row i _ ai)), fun t ht => hK rfl _ _ (upd_grow ht) (.tup (del_new ho ht) (nat_rdd _))⟩⟩
        · intro ys H3 k4 h3 l3 r3
          rw [filt_all] at l3 r3
          rw [List.length_map, List.length_range] at l3
          rw [List.length_map] at r3
          refine ⟨D2, ys, rfl, .inl ⟨SqL.of h3, fun t ht => q t _ (fun b o e => ?_) (.tup upd_same ?_)⟩⟩
          · have z := del_sub k4 _ _ (k3 b o e)
            rw [upd_ne (ne_of_none z ht)]
            exact z
          · refine rdds_of (by rw [List.length_map, List.length_range]; omega) fun i y d h1 h2 => ?_
            have lt := (List.getElem?_eq_some_iff.mp h1).1
            rw [List.getElem?_map, List.getElem?_eq_getElem (by rw [List.length_range]; omega)] at h2
            simp at h2
            subst h2
            have := r3 i i y (by rw [List.getElem?_eq_getElem (by rw [List.length_range]; omega)]; simp) h1
            exact (this.mono del_le).mono (upd_grow ht)
theorem ok_houses_from (F : Fd K "houses_from" sFrom f fd) (g : mg "houses_from" = some (.ref f)) (B : Bl mg) : Ok P w K mg base CX0 1 "houses_from" sFrom ["near", "start", "barred"] spFrom := by
  refine ⟨f, fd, g, F, F.bindsN fun _ _ _ _ _ _ us hl => match us, hl with | [_, _, _], _ => rfl, F.ok scFrom (fun vs H Q E h => ?_) (fun cdv A outer s H vs Q E hr h => ?_)⟩
  · obtain ⟨nt, n, s, rs, bar, rfl, _⟩ := h
    rfl
  · have hu : (cxOf CX0 P w K mg base ["near", "start", "barred", "before", "fresh", "house", "other"] "houses_from" (defScope sFrom) f cdv A outer s H E).A.units + 1 < cLine := by
      have z := hr.un
      show (A.deeper _).units + 1 < cLine
      omega
    refine ⟨_, (pss_cons (ps_set (i := 3) scFrom.nd rfl (Or.inl rfl) (pe_disp (pps_cons (pv 1) (pv 1) pps_nil) (by rfl) (by rfl) (fun z => by cases z) (by decide)))
      (pss_cons (ps_set (i := 4) scFrom.nd rfl (Or.inl rfl) (pe_lst (pa_cons (pv 1) pa_nil)))
      (pss_cons (ps_while (passes_of rfl) (pt_truth (pv 4) (by intro _; rfl))
        (pss_cons (ps_set (i := 5) scFrom.nd rfl (Or.inl rfl) (pe_bm0 PySem.F.plainAttrs_list PySem.F.slot_list_pop PySem.F.type_list_pop mt_pop (pv 4)))
        (pss_one (ps_for (passes_of rfl) rfl (pi_seq (pe_ix ix_seq (pv 0) (pv 5) fun _ _ => rfl)) (pg_name (i := 6) scFrom.nd rfl (Or.inl rfl))
          (pss_one (ps_if (pw_and (pt_cmpR op_ne (pv 6) (pv 2) (nomark _)) (pw_and1 (pt_cmp (pc_dnotin hu (pv 6) (pv 3))))).pt
            (pss_cons (ps_dput hu (pv 3) (pv 6) (pv 5) rfl)
            (pss_one (ps_expr (pe_bm PySem.F.plainAttrs_list PySem.F.slot_list_append PySem.F.type_list_append mt_append (pv 4) (pa_cons (pv 6) pa_nil)))))
            pss_nil))))))
      (pss_one (ps_ret (pv 3)))))), ?_⟩
    obtain ⟨nt, n, s, rs, bar, rfl, hn, bd, sn, n1, q⟩ := h
    have lt : ∀ h, ∀ x ∈ Tm.near rs h, x < n := fun h x hx => (Tm.near_lt bd hx).1
    refine fun pd hpd => ⟨_, rfl, _, rfl, upd_same, [(Sum.inl (s : Int), .int s)], rfl, (by show 1 ≤ 15; decide), ?_⟩
    have em : mergeK [] [((Sum.inl (s : Int) : Key), V.int (s : Int))] = dkv [(s, s)] := rfl
    rw [em, upd_upd]
    refine ⟨_, rfl, two_ln (by show 1 ≤ _; decide), fun pf hpf => ?_⟩
    have nf : pf ≠ pd := fun e => by rw [e, upd_same] at hpf; cases hpf
    have nf' : H pf = none := by rwa [upd_ne nf] at hpf
    dsimp only [gName, tSeq]
    refine while_by (fun σ H' => ∃ b st, Tm.Going (Tm.near rs) bar s b st ∧ st.length ≤ b.length ∧ (∀ r, Tm.Dfs (Tm.near rs) bar b st r → Tm.Dfs (Tm.near rs) bar [(s, s)] [s] r) ∧ Same H H' ∧ H' pd = some (.dK (dkv b)) ∧ H' pf = some (.lst (natV st.reverse)) ∧
        ∃ x y : Option V, σ = [some (.ref nt), some (.int s), some (barV bar), some (.ref pd), some (.ref pf), x, y])
      (fun σ H' => (match H' pf with | some (.lst xs) => xs.length | _ => 0) + (n - match H' pd with | some (.dK kvs) => kvs.length | _ => 0)) ?_ ?_ ?_
    · refine ⟨[(s, s)], [s], .start, Nat.le_refl _, fun r h => h, fun b o e => ?_, ?_, upd_same, none, none, rfl⟩
      · rw [upd_ne (ne_of_none e nf'), upd_ne (ne_of_none e hpd)]
        exact e
      · rw [upd_ne nf.symm, upd_same]
    · rintro σ H1 ⟨b, st, G, sl0, hd, k1, h1, h2, x, y, rfl⟩
      cases st with
      | nil => exact ⟨_, rfl, false, .inl ⟨_, SqL.of h2, rfl⟩, iteF ⟨_, rfl, q pd b H1 k1 hpd (hd b .done) G h1⟩⟩
      | cons a st =>
        obtain ⟨G2, lens⟩ := G.next
        have la : a < n := G.g.bound sn lt a (G.sub a List.mem_cons_self)
        have e1 : natV (a :: st).reverse = natV st.reverse ++ [V.int (a : Int)] := by simp [natV]
        have m0 : (match H1 pf with | some (HO.lst xs) => xs.length | _ => 0) = st.length + 1 := by rw [h2]; simp [natV]
        have m1 : (match H1 pd with | some (HO.dK kvs) => kvs.length | _ => 0) = b.length := by rw [h1]; simp [dkv]
        rw [e1] at h2
        refine ⟨_, rfl, true, .inl ⟨_, SqL.of h2, by simp⟩, iteT ⟨_, rfl, .inl ⟨rfl, _, SqL.of h2⟩, pf, _, .int a, rfl, rfl, h2, ?_, ?_⟩⟩
        · rw [List.length_append]
          simp
        · rw [List.dropLast_concat]
          obtain ⟨rows, t, ht1, ht2, ht3⟩ := near_row hn la
          have k2 : Same H (upd H1 pf (.lst (natV st.reverse))) := fun b o e => by
            rw [upd_ne (ne_of_none e nf')]
            exact k1 b o e
          refine ⟨_, rfl, _, rfl, ixTup (SqT.of (k2 _ _ ht1)) ht2 ⟨t, natV (Tm.near rs a), rfl, .inr (SqT.of (k2 _ _ ht3)), fun J w => ?_⟩⟩
          refine for_it w (fun i σ H' => ∃ b2 st2, (b2, st2) = ((Tm.near rs a).take i).foldl (Tm.visit bar a) (b, st) ∧ Same H H' ∧ H' pd = some (.dK (dkv b2)) ∧ H' pf = some (.lst (natV st2.reverse)) ∧
              ∃ y : Option V, σ = [some (.ref nt), some (.int s), some (barV bar), some (.ref pd), some (.ref pf), some (.int a), y]) ?_ (fun i σ H' _ h => ?_) ?_ ?_
          · exact ⟨b, st, rfl, k2, by rw [upd_ne nf.symm]; exact h1, upd_same, y, rfl⟩
          · obtain ⟨_, _, _, k3, _⟩ := h
            rw [k3 _ _ ht3, k2 _ _ ht3]
          · rintro i x2 σ H0 H2 hi ⟨b2, st2, e2, k3, h3, h4, y2, rfl⟩ ⟨rfl, hx⟩
            obtain ⟨li, rfl⟩ := nat_get hx
            have step : ((Tm.near rs a).take (i + 1)).foldl (Tm.visit bar a) (b, st) = Tm.visit bar a (b2, st2) (Tm.near rs a)[i] := by
              rw [List.take_succ_eq_append_getElem li, List.foldl_append, ← e2]
              rfl
            generalize ho : (Tm.near rs a)[i] = o at step
            have skip : (some o = bar ∨ o ∈ b2.map (·.1)) → ∃ b2 st2, (b2, st2) = ((Tm.near rs a).take (i + 1)).foldl (Tm.visit bar a) (b, st) ∧ Same H H2 ∧ H2 pd = some (.dK (dkv b2)) ∧ H2 pf = some (.lst (natV st2.reverse)) ∧
                ∃ y : Option V, [some (V.ref nt), some (.int s), some (barV bar), some (.ref pd), some (.ref pf), some (.int a), some (.int o)] = [some (.ref nt), some (.int s), some (barV bar), some (.ref pd), some (.ref pf), some (.int a), y] := fun c => by
              refine ⟨b2, st2, ?_, k3, h3, h4, _, rfl⟩
              rw [step]
              unfold Tm.visit
              exact (if_pos c).symm
            have nb : decide (V.int (o : Int) = barV bar) = decide (some o = bar) := by
              apply decide_eq_decide.mpr
              cases bar with
              | none => simp [barV]
              | some z =>
                simp only [barV, V.int.injEq, Option.some.injEq]
                omega
            refine ⟨_, rfl, _, rfl, ?_, _, rfl, iteB (fun c1 => ?_) fun c1 => ?_⟩
            · cases bar <;> rfl
            · rw [nb] at c1
              have c1 := of_decide_eq_false (not_t c1)
              refine ⟨_, rfl, _, rfl, pd, _, rfl, DGet.k (k := Sum.inl (o : Int)) h3, _, rfl, iteB (fun c2 => ?_) fun c2 => ?_⟩
              · rw [dkv_val] at c2
                have c2 := of_decide_eq_false (not_t c2)
                have c3 : ¬ (some o = bar ∨ o ∈ b2.map (·.1)) := fun z => z.elim c1 c2
                have room : b2.length ≤ n := by
                  obtain ⟨g1, _⟩ := Tm.visit_grown (bar := bar) (os := (Tm.near rs a).take i) (st := st) G.g (G.sub a List.mem_cons_self) fun o ho => List.mem_of_mem_take ho
                  rw [← e2] at g1
                  have := Tm.nodup_len g1.nodup (g1.bound sn lt)
                  simpa [Tm.keys] using this
                refine ⟨_, rfl, _, rfl, _, rfl, pd, _, rfl, DPut.k (k := Sum.inl (o : Int)) h3 (lt_ln (by unfold dkv; rw [List.length_map]; omega)), ?_⟩
                rw [dkv_put c2]
                have h5 : upd H2 pd (.dK (dkv (b2 ++ [(o, a)]))) pf = some (.lst (natV st2.reverse)) := by rw [upd_ne nf]; exact h4
                have sl : st2.length ≤ 200 := by
                  obtain ⟨_, _, _, _, _, _, g7⟩ := Tm.visit_grown (bar := bar) (os := (Tm.near rs a).take i) (st := st) G.g (G.sub a List.mem_cons_self) fun o ho => List.mem_of_mem_take ho
                  rw [← e2] at g7
                  simp only at g7
                  rw [List.length_cons] at sl0
                  omega
                refine ⟨_, rfl, .inl ⟨rfl, _, SqL.of h5⟩, _, rfl, pf, _, _, rfl, rfl, h5, lt_ln (by unfold natV; rw [List.length_map, List.length_reverse]; omega), b2 ++ [(o, a)], o :: st2, ?_, ?_, ?_, ?_, _, rfl⟩
                · rw [step]
                  unfold Tm.visit
                  exact (if_neg c3).symm
                · intro b o e
                  rw [upd_ne (ne_of_none e nf'), upd_ne (ne_of_none e hpd)]
                  exact k3 b o e
                · rw [upd_ne nf.symm, upd_same]
                · rw [upd_same]
                  simp [natV]
              · rw [dkv_val] at c2
                exact skip (.inr (of_decide_eq_true (not_f c2)))
            · rw [nb] at c1
              exact skip (.inl (of_decide_eq_true (not_f c1)))
          · rintro σ H2 ⟨b2, st2, e2, k3, h3, h4, y2, rfl⟩
            have ln : (natV (Tm.near rs a)).length = (Tm.near rs a).length := by simp [natV]
            rw [ln, List.take_length] at e2
            have e3 : (Tm.visits (Tm.near rs) bar a b st) = (b2, st2) := e2.symm
            rw [e3] at G2 lens
            have r1 := G2.room sn lt
            have r0 := G.room sn lt
            simp only at lens r1
            refine ⟨⟨b2, st2, G2, (by rw [List.length_cons] at sl0; omega), fun r hr => hd r (.step (by rw [e3]; exact hr)), k3, h3, h4, _, _, rfl⟩, ?_⟩
            show (match H2 pf with | some (HO.lst xs) => xs.length | _ => 0) + (n - match H2 pd with | some (HO.dK kvs) => kvs.length | _ => 0) < (match H1 pf with | some (HO.lst xs) => xs.length | _ => 0) + (n - match H1 pd with | some (HO.dK kvs) => kvs.length | _ => 0)
            rw [m0, m1, h4, h3]
            simp only [natV, dkv, List.length_map, List.length_reverse]
            omega
    · rintro σ H1 Q1 Q2 h ⟨v, hv, k, tr, q⟩
      exact ⟨v, hv, k, tr, h _ _ q⟩
end
end K03

namespace L2
open PySem PySem.Spec PyProof.Rows
mutual
theorem Rdd.dp {K : PySem.W.Frag} {H : Hp} : ∀ {v : V} {d : PyData}, Rdd H v d → d.canLay0 = true → Dp K H v d
  | _, _, .non, _ => .non
  | _, _, .bl b, _ => .bl b
  | _, _, .int i, _ => .int i
  | _, _, .str x, _ => .str x
  | _, _, .lst h r, c => .lst (SqL.of h) (RddAll.dp r (by simpa [PyData.canLay0] using c))
  | _, _, .tup h r, c => .tup (SqT.of h) (RddAll.dp r (by simpa [PyData.canLay0] using c))
  | _, _, .dK h r q, c => by simp [PyData.canLay0] at c
theorem RddAll.dp {K : PySem.W.Frag} {H : Hp} : ∀ {vs : List V} {ds : List PyData}, RddAll H vs ds → PyData.canLayAll0 ds = true → DpAll K H vs ds
  | _, _, .nil, _ => .nil
  | _, _, .cons r t, c => by
    simp only [PyData.canLayAll0, Bool.and_eq_true] at c
    exact .cons (Rdd.dp r c.1) (RddAll.dp t c.2)
end
end L2
namespace K03
open PySem PySem.Spec PyProof.Rows L2
theorem rds_shaped (rs : List Tm.Road) : SeqAt.shaped (.tuple (rs.map rd)) = true := by
  unfold SeqAt.shaped
  have a : PyData.canLayAll0 (rs.map rd) = true ∧ PyData.depthAll (rs.map rd) ≤ 1 := by
    induction rs with
    | nil => exact ⟨rfl, Nat.zero_le _⟩
    | cons r rs ih =>
      refine ⟨?_, ?_⟩
      · simpa [PyData.canLayAll0, PyData.canLay0, rd] using ih.1
      · have := ih.2
        simp only [List.map_cons, PyData.depthAll, PyData.depth, rd]
        omega
  have c : (PyData.tuple (rs.map rd)).canLay0 = true := by simpa [PyData.canLay0] using a.1
  rw [c, Bool.true_and]
  apply decide_eq_true
  simp only [PyData.depth]
  have := a.2
  omega
theorem rds_eqv : ∀ rs qs : List Tm.Road, PyData.eqv (.tuple (rs.map rd)) (.tuple (qs.map rd)) = decide (rs = qs) := by
  intro rs qs
  show PyData.eqvAll (rs.map rd) (qs.map rd) = _
  induction rs generalizing qs with
  | nil =>
    cases qs with
    | nil => rfl
    | cons q qs => simp [PyData.eqvAll]
  | cons r rs ih =>
    cases qs with
    | nil => simp [PyData.eqvAll]
    | cons q qs =>
      simp only [List.map_cons, PyData.eqvAll]
      rw [ih]
      have e : PyData.eqv (rd r) (rd q) = decide (r = q) := by
        obtain ⟨a, b⟩ := r
        obtain ⟨c, d⟩ := q
        simp only [rd, PyData.eqv, PyData.eqvAll, Bool.and_true]
        by_cases h1 : a = c
        · by_cases h2 : b = d
          · subst h1 h2; simp
          · have : ¬ (b : Int) = d := by omega
            simp [h2, this]
        · have : ¬ (a : Int) = c := by omega
          simp [h1, this]
      rw [e]
      by_cases h1 : r = q
      · simp [h1]
      · simp [h1]
/-! ### the class Tree -/
abbrev CT (K : PySem.W.Frag) : Addr := He.ga K "Tree"
abbrev MT (K : PySem.W.Frag) (m : Str) : Addr := He.ma K (CT K) m
abbrev Md (K : PySem.W.Frag) (m qual : Str) (st : Stmt) (f : Addr) (fd : FuncData) : Prop := FunD K m qual (defArgs st) (defBody st) (defScope st) [] [] f fd
structure TreeK (K : PySem.W.Frag) (mg : Str → Option Value) : Prop where
  g : mg "Tree" = some (.ref (CT K))
  cl : Cls K (CT K)
  nh : NoAttr K (CT K) "houses"
  nr : NoAttr K (CT K) "roads"
  nn : NoAttr K (CT K) "near"
  mkT : Mk K (CT K) (MT K "__init__")
  co : PySem.W.findIn K (.ref (CT K)) "__contains__" = some (some (.ref (MT K "__contains__")))
  cof : PySem.W.isFn K (.ref (MT K "__contains__")) = true
  le : PySem.W.findIn K (.ref (CT K)) "__len__" = some (some (.ref (MT K "__len__")))
  lef : PySem.W.isFn K (.ref (MT K "__len__")) = true
  eq : PySem.W.findIn K (.ref (CT K)) "__eq__" = some (some (.ref (MT K "__eq__")))
  eqf : PySem.W.isFn K (.ref (MT K "__eq__")) = true
  ne : PySem.W.findIn K (.ref (CT K)) "__ne__" = some (some (.builtin "object.__ne__"))
  ob : PySem.W.subIn K (.ref (CT K)) (.type "object") = some true
  self : PySem.W.kitOne K (.ref (CT K)) (.ref (CT K)) = some true
  no : ∀ T ∈ tys, PySem.W.kitOne K (.type T) (.ref (CT K)) = some false ∧ PySem.W.notFirst K (CT K) (.type T) = true
  ha : PySem.W.findIn K (.ref (CT K)) "__class__" = some (some (.builtin "object.__class__"))
  hn : PySem.W.specialIn K (.builtin "object.__class__") "__get__" = some (some (.builtin "getset_descriptor.__get__"))
  htk : PySem.W.takesIn K (.builtin "object.__class__") = some true
  hm : PySem.W.mroIn K (CT K) (.type "object") = some true
def fsT (n : Nat) (rt nt : Addr) : List (Str × V) := [("houses", .int n), ("roads", .ref rt), ("near", .ref nt)]
/-- at t a tree of n houses with the roads rs -/
structure TreeAt (K : PySem.W.Frag) (H : Hp) (t : Addr) (n : Nat) (rs : List Tm.Road) : Prop where
  ex : ∃ dx rt nt, H t = some (.ins (CT K) dx (fsT n rt nt)) ∧ Rdd H (.ref rt) (.tuple (rs.map rd)) ∧ Rdd H (.ref nt) (nearD n rs)
  ok : Tm.RoadsOk n rs
  jo : Tm.Joined n rs
  le : n ≤ 64
theorem TreeAt.mono {K : PySem.W.Frag} {H H' : Hp} {t : Addr} {n : Nat} {rs : List Tm.Road} (k : Same H H') (T : TreeAt K H t n rs) : TreeAt K H' t n rs :=
  let ⟨dx, rt, nt, h1, h2, h3⟩ := T.ex
  ⟨⟨dx, rt, nt, k _ _ h1, h2.mono k, h3.mono k⟩, T.ok, T.jo, T.le⟩
abbrev sTInit : Stmt := cdef 16 0
theorem scTInit : FnScope ["self", "houses", "roads", "near", "joined", "house"] ["self", "houses", "roads"] (defScope sTInit) := ⟨rfl, rfl, rfl, by decide +kernel, rfl, by decide +kernel, by decide +kernel⟩
abbrev sTLen : Stmt := cdef 16 1
theorem scTLen : FnScope ["self"] ["self"] (defScope sTLen) := ⟨rfl, rfl, rfl, by decide +kernel, rfl, by decide +kernel, by decide +kernel⟩
abbrev sTCont : Stmt := cdef 16 2
theorem scTCont : FnScope ["self", "value"] ["self", "value"] (defScope sTCont) := ⟨rfl, rfl, rfl, by decide +kernel, rfl, by decide +kernel, by decide +kernel⟩
abbrev sTEq : Stmt := cdef 16 3
theorem scTEq : FnScope ["self", "other"] ["self", "other"] (defScope sTEq) := ⟨rfl, rfl, rfl, by decide +kernel, rfl, by decide +kernel, by decide +kernel⟩
/-- a method of Tree keeps sp -/
structure OkM (P : Program) (w : World) (K : PySem.W.Frag) (mg : Str → Option Value) (base : Heap) (CX : CXT) (k : Nat) (m : Str) (ps : List Str) (sp : Sp) : Prop where
  ex : ∃ fd, Binds K fd ps [] ∧ FnOk P w K mg base CX k (MT K m) fd ps sp
def spCont (K : PySem.W.Frag) : Sp := fun vs H Q _ => ∃ t n rs v d, vs = [.ref t, v] ∧ TreeAt K H t n rs ∧ Rdd H v d ∧ Q (.bl (belowD n d)) H
def spLen (K : PySem.W.Frag) : Sp := fun vs H Q _ => ∃ t n rs, vs = [.ref t] ∧ TreeAt K H t n rs ∧ Q (.int n) H
/-- the other one of a comparison: data, or a tree -/
def Oth (K : PySem.W.Frag) (H : Hp) (v : V) (o : Option (Nat × List Tm.Road)) : Prop := match o with
  | none => ∃ d, Rdd H v d
  | some (n, rs) => ∃ t, v = .ref t ∧ TreeAt K H t n rs
def spEq (K : PySem.W.Frag) : Sp := fun vs H Q _ => ∃ t n rs v o, vs = [.ref t, v] ∧ TreeAt K H t n rs ∧ Oth K H v o ∧ Q (.bl (decide (o = some (n, rs)))) H
section
variable {P : Program} {w : World} {K : PySem.W.Frag} {mg : Str → Option Value} {base : Heap} {fd : FuncData}
theorem ok_cont (F : Md K "__contains__" "Tree.__contains__" sTCont (MT K "__contains__") fd) (C : TreeK K mg) (o_is_below : Ok P w K mg base CX0 1 "is_below" sIsBelow ["value", "bound"] spIsBelow) : OkM P w K mg base CX0 2 "__contains__" ["self", "value"] (spCont K) := by
  refine ⟨fd, F.bindsN fun _ _ _ _ _ _ us hl => match us, hl with | [_, _], _ => rfl, F.ok scTCont (fun vs H Q E h => ?_) (fun cdv A outer s H vs Q E hr h => ?_)⟩
  · obtain ⟨t, n, rs, v, d, rfl, _⟩ := h
    rfl
  · refine ⟨_, (pss_one (ps_ret (pe_o o_is_below (hr.mono (by decide)) (by rfl) (pa_cons (pv 1) (pa_cons (pe_fld (pv 0) rfl) pa_nil))))), ?_⟩
    obtain ⟨t, n, rs, v, d, rfl, T, r, q⟩ := h
    obtain ⟨dx, rt, nt, h1, _, _⟩ := T.ex
    exact ⟨_, rfl, _, rfl, _, _, _, _, _, rfl, h1, C.cl, C.nh, rfl, v, d, _, rfl, r, q⟩
theorem ok_len (F : Md K "__len__" "Tree.__len__" sTLen (MT K "__len__") fd) (C : TreeK K mg) (B : Bl mg) : OkM P w K mg base CX0 1 "__len__" ["self"] (spLen K) := by
  refine ⟨fd, F.bindsN fun _ _ _ _ _ _ us hl => match us, hl with | [_], _ => rfl, F.ok scTLen (fun vs H Q E h => ?_) (fun cdv A outer s H vs Q E hr h => ?_)⟩
  · obtain ⟨t, n, rs, rfl, _⟩ := h
    rfl
  · refine ⟨_, (pss_one (ps_ret (pe_callB call_len (by rfl) (B.u "len" (by decide +kernel)) boot_len (pa_cons (pe_fld (pv 0) rfl) pa_nil)))), ?_⟩
    obtain ⟨t, n, rs, rfl, T, q⟩ := h
    obtain ⟨dx, rt, nt, h1, _, rn⟩ := T.ex
    refine ⟨_, rfl, _, _, _, _, _, rfl, h1, C.cl, C.nn, rfl, ?_⟩
    cases rn with
    | tup h1 ra =>
      have l := rdds_len ra
      rw [List.length_map, List.length_range] at l
      exact ⟨_, _, rfl, .inr ⟨_, SqT.of h1, l.symm⟩, q⟩
theorem ok_eq (F : Md K "__eq__" "Tree.__eq__" sTEq (MT K "__eq__") fd) (C : TreeK K mg) (B : Bl mg) : OkM P w K mg base CX0 1 "__eq__" ["self", "other"] (spEq K) := by
  refine ⟨fd, F.bindsN fun _ _ _ _ _ _ us hl => match us, hl with | [_, _], _ => rfl, F.ok scTEq (fun vs H Q E h => ?_) (fun cdv A outer s H vs Q E hr h => ?_)⟩
  · obtain ⟨t, n, rs, v, o, rfl, _⟩ := h
    rfl
  · have hu : (cxOf CX0 P w K mg base ["self", "other"] "Tree.__eq__" (defScope sTEq) (MT K "__eq__") cdv A outer s H E).A.units + 64 < cLine := by
      have z := hr.un
      show (A.deeper _).units + 64 < cLine
      omega
    refine ⟨_, (pss_one (ps_ret (pe_and (pe_callB call_isi (by rfl) (B.u "isinstance" (by decide +kernel)) boot_isinstance (pa_cons (pv 1) (pa_cons (pe_glob (by rfl) C.g (v := .ref (CT K)) rfl) pa_nil))) (pe_and (pe_cmpR op_eq (pe_fld (pv 0) rfl) (pe_fld (pv 1) rfl) (nomark _)) (pe_one (pe_cmpR (op_eqD hu) (pe_fld (pv 0) rfl) (pe_fld (pv 1) rfl) (nomark _))))))), ?_⟩
    obtain ⟨t, n, rs, v, o, rfl, T, ho, q⟩ := h
    obtain ⟨dx, rt, nt, h1, r1, _⟩ := T.ex
    cases o with
    | none =>
      obtain ⟨d, r⟩ := ho
      exact ⟨_, rfl, v, _, _, _, false, rfl, .own _, r.tx, (C.no _ (tyd_mem d)).1, false, rfl, iteF q⟩
    | some p =>
      obtain ⟨m, qs⟩ := p
      obtain ⟨t2, rfl, T2⟩ := ho
      obtain ⟨dx2, rt2, nt2, h2, r2, _⟩ := T2.ex
      refine ⟨_, rfl, _, _, _, _, true, rfl, .own _, .base (.ins h2 C.cl C.ha C.hn C.htk C.hm), C.self, true, rfl, iteT ?_⟩
      refine ⟨_, rfl, _, _, _, _, _, rfl, h1, C.cl, C.nh, rfl, _, rfl, _, _, _, _, _, rfl, h2, C.cl, C.nh, rfl, rfl, _, rfl, iteB (fun e => ?_) fun e => ?_⟩
      · have e : n = m := by
          have := V.int.inj (of_decide_eq_true e)
          omega
        subst e
        refine ⟨_, rfl, _, _, _, _, _, rfl, h1, C.cl, C.nr, rfl, _, rfl, _, _, _, _, _, rfl, h2, C.cl, C.nr, rfl, _, _, r1.dp (SeqAt.canLay_of_shaped (rds_shaped rs)), r2.dp (SeqAt.canLay_of_shaped (rds_shaped qs)), rds_shaped rs, rds_shaped qs, ?_⟩
        rw [rds_eqv]
        have : decide (some (n, qs) = some (n, rs)) = decide (rs = qs) := by
          apply decide_eq_decide.mpr
          simp [eq_comm]
        rw [← this]
        exact q
      · have e : ¬ n = m := fun z => by
          rw [z] at e
          exact of_decide_eq_false e rfl
        have : decide (some (m, qs) = some (n, rs)) = false := by
          apply decide_eq_false
          intro z
          simp at z
          exact e z.1.symm
        rw [this] at q
        exact q
end
end K03

namespace L2
open PySem PySem.Spec PyProof.Rows
/-- all but instances is kept -/
def KeepI (H H' : Hp) : Prop := ∀ b o, H b = some o → (∀ C d f, o ≠ .ins C d f) → H' b = some o
mutual
theorem Rdd.keepI {H H' : Hp} (k : KeepI H H') : ∀ {v : V} {d : PyData}, Rdd H v d → Rdd H' v d
  | _, _, .non => .non
  | _, _, .bl b => .bl b
  | _, _, .int i => .int i
  | _, _, .str x => .str x
  | _, _, .lst h r => .lst (k _ _ h fun _ _ _ z => nomatch z) (RddAll.keepI k r)
  | _, _, .tup h r => .tup (k _ _ h fun _ _ _ z => nomatch z) (RddAll.keepI k r)
  | _, _, .dK h r q => .dK (k _ _ h fun _ _ _ z => nomatch z) (RddAll.keepI k r) (RddAll.keepI k q)
theorem RddAll.keepI {H H' : Hp} (k : KeepI H H') : ∀ {vs : List V} {ds : List PyData}, RddAll H vs ds → RddAll H' vs ds
  | _, _, .nil => .nil
  | _, _, .cons r t => .cons (Rdd.keepI k r) (RddAll.keepI k t)
end
theorem KeepI.upd {H : Hp} {x C d : Addr} {f : List (Str × V)} {o : HO} (h : H x = some (.ins C d f)) : KeepI H (upd H x o) := fun b u e n => by
  rw [upd_ne (fun z => by rw [z, h] at e; cases e; exact n _ _ _ rfl)]
  exact e
end L2
namespace K03
open PySem PySem.Spec PyProof.Rows L2
/-- refused by the class x, with v as f -/
def Refuses (K : PySem.W.Frag) (x f : Str) (v : V) (H : Hp) (E : XK) : Prop := ∀ d H', Same H H' → H' d = some (.xd [(f, v)]) → E (.ref (He.ga K x)) (some d) H'
theorem Refuses.mono {K : PySem.W.Frag} {x f : Str} {v : V} {H H1 : Hp} {E : XK} (k : Same H H1) (h : Refuses K x f v H E) : Refuses K x f v H1 E := fun d H' k' e => h d H' (k.trans k') e
/-- what becomes of Tree(vh, vr): W the tree's way out -/
structure Made (K : PySem.W.Frag) (H : Hp) (vh vr : V) (dh dr : PyData) (E : XK) (W : Nat → List Tm.Road → Prop) : Prop where
  hs : (¬ ∃ n : Nat, dh = .int n ∧ 1 ≤ n ∧ n ≤ 64) → Refuses K "InvalidHouses" "given" vh H E
  rs : ∀ n : Nat, dh = .int n → 1 ≤ n → n ≤ 64 → (¬ ∃ rs, isRoads dr rs ∧ Tm.RoadsOk n rs) → Refuses K "InvalidRoads" "given" vr H E
  nj : ∀ (n : Nat) (rs : List Tm.Road) (b : Tm.B) (h : Nat), dh = .int n → 1 ≤ n → n ≤ 64 → isRoads dr rs → Tm.RoadsOk n rs → Tm.Dfs (Tm.near rs) none [(0, 0)] [0] b → h < n → h ∉ Tm.keys b → (∀ k, k < h → k ∈ Tm.keys b) → Refuses K "NotJoined" "house" (.int h) H E
  ok : ∀ (n : Nat) (rs : List Tm.Road), dh = .int n → 1 ≤ n → n ≤ 64 → isRoads dr rs → Tm.RoadsOk n rs → Tm.Joined n rs → W n rs
def spInit (K : PySem.W.Frag) : Sp := fun vs H Q E => ∃ (x dx : Addr) (vh vr : V) (dh dr : PyData), vs = [.ref x, vh, vr] ∧ H x = some (.ins (CT K) dx []) ∧ Rdd H vh dh ∧ Rdd H vr dr ∧ Tame dr ∧
  Made K H vh vr dh dr E fun n rs => ∀ H', But x H H' → TreeAt K H' x n rs → Q .non H'
section
variable {P : Program} {w : World} {K : PySem.W.Frag} {mg : Str → Option Value} {base : Heap} {fd : FuncData}
theorem ok_init (F : Md K "__init__" "Tree.__init__" sTInit (MT K "__init__") fd) (C : TreeK K mg) (B : Bl mg) (h_MOST : ∃ t, mg "MOST_HOUSES" = some (.int 64 t)) (O_InvalidHouses : One P w K mg base "InvalidHouses" "given") (O_InvalidRoads : One P w K mg base "InvalidRoads" "given")
    (O_NotJoined : One P w K mg base "NotJoined" "house") (o_is_int : Ok P w K mg base CX0 1 "is_int" sIsInt ["value"] spIsInt) (o_are_roads : Ok P w K mg base CX0 2 "are_roads" sAreRoads ["houses", "value"] spAreRoads)
    (o_houses_near : Ok P w K mg base CX0 1 "houses_near" sNear ["houses", "roads"] spNear) (o_houses_from : Ok P w K mg base CX0 1 "houses_from" sFrom ["near", "start", "barred"] spFrom) : FnOk P w K mg base (L2N.CX P w) 3 (MT K "__init__") fd ["self", "houses", "roads"] (spInit K) := by
  obtain ⟨t64, h_MOST_HOUSES⟩ := h_MOST
  refine F.ok scTInit (fun vs H Q E h => ?_) (fun cdv A outer s H vs Q E hr h => ?_)
  · obtain ⟨x, dx, vh, vr, dh, dr, rfl, _⟩ := h
    rfl
  · have tk : L2N.Takes (cxOf (L2N.CX P w) P w K mg base ["self", "houses", "roads", "near", "joined", "house"] "Tree.__init__" (defScope sTInit) (MT K "__init__") cdv A outer s H E) (fun cls d _ H => E cls d H) := L2N.takes_of rfl rfl rfl rfl
    have hu : (cxOf (L2N.CX P w) P w K mg base ["self", "houses", "roads", "near", "joined", "house"] "Tree.__init__" (defScope sTInit) (MT K "__init__") cdv A outer s H E).A.units + 1 < cLine := by
      have z := hr.un
      show (A.deeper _).units + 1 < cLine
      omega
    refine ⟨_, (pss_cons (ps_if (pw_or (pt_not (pt_val (pe_o o_is_int (hr.mono (by decide)) (by rfl) (pa_cons (pv 1) pa_nil)))) (pw_or1 (pt_not (pt_chain op_le op_le pe_int (pv 1) (pe_glob (by rfl) h_MOST_HOUSES (v := .int 64) ⟨_, rfl⟩))))).pt
        (pss_one (L2N.ps_raise rfl tk (by exact (pmk_e1 O_InvalidHouses (hr.mono (by decide)) (pv 1) (by rfl)))))
        pss_nil)
      (pss_cons (ps_if (pt_not (pt_val (pe_o o_are_roads (hr.mono (by decide)) (by rfl) (pa_cons (pv 1) (pa_cons (pv 2) pa_nil)))))
        (pss_one (L2N.ps_raise rfl tk (by exact (pmk_e1 O_InvalidRoads (hr.mono (by decide)) (pv 2) (by rfl)))))
        pss_nil)
      (pss_cons (ps_set (i := 3) scTInit.nd rfl (Or.inl rfl) (pe_o o_houses_near (hr.mono (by decide)) (by rfl) (pa_cons (pv 1) (pa_cons (pv 2) pa_nil))))
      (pss_cons (ps_set (i := 4) scTInit.nd rfl (Or.inl rfl) (pe_o o_houses_from (hr.mono (by decide)) (by rfl) (pa_cons (pv 3) (pa_cons pe_int (pa_cons pe_non pa_nil)))))
      (pss_cons (ps_for (passes_of rfl) rfl (pi_range1 (by rfl) (B.u "range" (by decide +kernel)) (pa_cons (pv 1) pa_nil)) (pg_name (i := 5) scTInit.nd rfl (Or.inl rfl))
        (pss_one (ps_if (pt_cmp (pc_dnotin hu (pv 5) (pv 4)))
          (pss_one (L2N.ps_raise rfl tk (by exact (pmk_e1 O_NotJoined (hr.mono (by decide)) (pv 5) (by rfl)))))
          pss_nil)))
      (pss_cons (ps_fld (pv 0) (pv 1) rfl)
      (pss_cons (ps_fld (pv 0) (pe_callTy call_tuple_of (by rfl) (B.u "tuple" (by decide +kernel)) (by decide +kernel) (pa_cons (pv 2) pa_nil)) rfl)
      (pss_one (ps_fld (pv 0) (pv 3) rfl))))))))), ?_⟩
    obtain ⟨x, dx, vh, vr, dh, dr, rfl, hx, rh, rr, tr, M⟩ := h
    refine ⟨_, rfl, _, _, rfl, rh, _, rfl, iteB (fun e => iteT ⟨_, rfl, M.hs fun ⟨n, z, _⟩ => ?_⟩) fun e => ?_⟩
    · subst z
      simp [tyd] at e
    obtain ⟨i, rfl, rfl⟩ := rh.int_of (of_decide_eq_true (not_f e))
    refine ⟨_, rfl, _, _, rfl, rfl, _, rfl, iteB (fun e1 => ?_) fun e1 => ?_⟩
    · refine ⟨_, _, rfl, rfl, _, rfl, iteB (fun e2 => ?_) fun e2 => ?_⟩
      · refine ⟨_, rfl, M.hs fun ⟨n, z, h1, h2⟩ => ?_⟩
        have := of_decide_eq_false (not_t e2)
        simp at z
        omega
      have l1 := of_decide_eq_true e1
      have l2 := of_decide_eq_true (not_f e2)
      obtain ⟨n, rfl⟩ : ∃ n : Nat, i = n := ⟨i.toNat, by omega⟩
      have n1 : 1 ≤ n := by omega
      have n2 : n ≤ 64 := by omega
      refine ⟨_, rfl, _, rfl, n, vr, dr, rfl, rr, tr, n1, by omega, fun b H1 k1 hb => ⟨_, rfl, iteB (fun e => ?_) fun e => ?_⟩⟩
      · refine ⟨_, rfl, (M.rs n rfl n1 n2 fun z => ?_).mono k1⟩
        rw [hb.mpr z] at e
        cases e
      obtain ⟨rs, hrs, ok⟩ := hb.mp (not_f e)
      have lD : listD dr = true := by rcases hrs with rfl | rfl <;> rfl
      obtain ⟨p, xs, ds, rfl, hp, ra, hd⟩ := row_of rr lD
      have eds := (isRoads_row hd).mp hrs
      subst eds
      have ll := ok.len
      refine ⟨_, rfl, _, rfl, n, p, xs, rs, rfl, hp.mono k1, ra.mono k1, ok.bnd, by omega, by omega, fun nt H2 k2 rn => ?_⟩
      refine ⟨_, rfl, nt, n, 0, rs, none, rfl, rn, ok.bnd, by omega, by omega, fun d b H3 k3 nd3 hdf G hd3 => ?_⟩
      have k03 : Same H H3 := k1.trans (k2.trans k3)
      have lt : ∀ h, ∀ x ∈ Tm.near rs h, x < n := fun h x hx => (Tm.near_lt ok.bnd hx).1
      refine ⟨_, rfl, _, rfl, by omega, by omega, for_range (n := n) (fun i σ H' => H' = H3 ∧ (∀ k, k < i → k ∈ Tm.keys b) ∧ ∃ a : Option V, σ = [some (.ref x), some (.int n), some (.ref p), some (.ref nt), some (.ref d), a]) ⟨rfl, (fun k z => absurd z (Nat.not_lt_zero _)), none, rfl⟩ ?_ ?_⟩
      · rintro i σ H4 hi ⟨rfl, hk, a, rfl⟩
        have e0 : (0 : Int) + i = (i : Nat) := by omega
        rw [e0]
        refine ⟨_, rfl, _, rfl, d, _, rfl, DGet.k (k := Sum.inl (i : Int)) hd3, _, rfl, iteB (fun c => ?_) fun c => ?_⟩
        · rw [dkv_val] at c
          have c := of_decide_eq_false (not_t c)
          exact ⟨_, rfl, (M.nj n rs b i rfl n1 n2 hrs ok hdf hi c hk).mono k03⟩
        · rw [dkv_val] at c
          have c := of_decide_eq_true (not_f c)
          refine ⟨rfl, fun k lk => ?_, _, rfl⟩
          by_cases z : k = i
          · rw [z]; exact c
          · exact hk k (by omega)
      · rintro σ H4 ⟨rfl, hk, a, rfl⟩
        have bl : b.length = n := by
          have up := G.room (by omega) lt
          have dn : (List.range n).length ≤ (Tm.keys b).length := by
            have c2 : ∀ (l m : List Nat), l.Nodup → (∀ x ∈ l, x ∈ m) → l.length ≤ m.length := by
              intro l
              induction l with
              | nil => intro m _ _; exact Nat.zero_le _
              | cons a l ih =>
                intro m d s
                have d' := List.nodup_cons.mp d
                have ha := s a List.mem_cons_self
                have l1 := List.length_erase_of_mem ha
                have l2 := List.length_pos_of_mem ha
                have i := ih (m.erase a) d'.2 fun y hy => (List.mem_erase_of_ne fun q => d'.1 (by rw [← q]; exact hy)).mpr (s y (List.mem_cons_of_mem _ hy))
                rw [List.length_cons]
                omega
            exact c2 _ _ List.nodup_range fun k hk2 => hk k (List.mem_range.mp hk2)
          rw [List.length_range] at dn
          simp only [Tm.keys, List.length_map] at dn
          omega
        have W := M.ok n rs rfl n1 n2 hrs ok ⟨b, hdf, bl⟩
        have hx3 := k03 _ _ hx
        have fin : ∀ (rt : Addr) (Hb : Hp), Hb x = some (.ins (CT K) dx [("houses", .int n)]) → (∀ b o, b ≠ x → H4 b = some o → Hb b = some o) → Rdd Hb (.ref rt) (.tuple (rs.map rd)) →
            sFld K (tVar 0) (tVar 3) "near" { nx := fun _ H' => Q .non H', rt := Q } [some (.ref x), some (.int n), some (.ref p), some (.ref nt), some (.ref d), a] (upd Hb x (.ins (CT K) dx [("houses", .int n), ("roads", .ref rt)])) := by
          intro rt Hb h5 k5 r5
          refine ⟨_, rfl, _, rfl, x, _, dx, _, rfl, upd_same, C.cl, C.nn, (by show 2 < 1000; decide), ?_⟩
          have kI : KeepI Hb (upd (upd Hb x (.ins (CT K) dx [("houses", .int n), ("roads", .ref rt)])) x (.ins (CT K) dx (putF "near" (.ref nt) [("houses", .int n), ("roads", .ref rt)]))) := fun b o e z => by
            have nb : b ≠ x := fun y => by rw [y, h5] at e; cases e; exact z _ _ _ rfl
            rw [upd_ne nb, upd_ne nb]
            exact e
          refine W _ (fun b o nb e => ?_) ⟨⟨dx, rt, nt, upd_same, r5.keepI kI, ?_⟩, ok, ⟨b, hdf, bl⟩, n2⟩
          · rw [upd_ne nb, upd_ne nb]
            exact k5 _ _ nb (k03 _ _ e)
          · refine Rdd.keepI ?_ (rn.mono k3)
            intro b o e z
            have nb : b ≠ x := fun y => by rw [y, hx3] at e; cases e; exact z _ _ _ rfl
            rw [upd_ne nb, upd_ne nb]
            exact k5 _ _ nb e
        refine ⟨_, rfl, _, rfl, x, _, dx, _, rfl, hx3, C.cl, C.nh, (by show 0 < 1000; decide), ?_⟩
        have kI := KeepI.upd (o := .ins (CT K) dx (putF "houses" (.int n) [])) hx3
        have ra3 : RddAll H4 xs (rs.map rd) := ra.mono k03
        have hp3 := hp.mono k03
        rcases hp3 with h1 | h1
        · have h1' := kI _ _ h1 fun _ _ _ z => nomatch z
          refine ⟨_, rfl, p, xs, rfl, .inl ⟨SqL.of h1', fun t ht => ?_⟩⟩
          have nx : x ≠ t := fun y => by rw [← y, upd_same] at ht; cases ht
          refine ⟨_, rfl, x, _, dx, [("houses", .int n)], rfl, (by rw [upd_ne nx]; exact upd_same), C.cl, C.nr, (by show 1 < 1000; decide), fin t _ (by rw [upd_ne nx]; exact upd_same) (fun b o nb e => ?_) (.tup upd_same ((ra3.keepI kI).mono (upd_grow ht)))⟩
          have e2 : upd H4 x (.ins (CT K) dx (putF "houses" (.int n) [])) b = some o := by rw [upd_ne nb]; exact e
          rw [upd_ne (ne_of_none e2 ht)]
          exact e2
        · have h1' := kI _ _ h1 fun _ _ _ z => nomatch z
          refine ⟨_, rfl, p, xs, rfl, .inr ⟨SqT.of h1', ?_⟩⟩
          refine ⟨_, rfl, x, _, dx, [("houses", .int n)], rfl, upd_same, C.cl, C.nr, (by show 1 < 1000; decide), fin p _ upd_same (fun b o nb e => ?_) (.tup h1' (ra3.keepI kI))⟩
          rw [upd_ne nb]
          exact e
    · refine ⟨false, rfl, iteT ⟨_, rfl, M.hs fun ⟨n, z, h1, h2⟩ => ?_⟩⟩
      have := of_decide_eq_false e1
      simp at z
      omega
end
end K03

namespace K03
open PySem PySem.Spec PyProof.Rows L2
abbrev sCell : Stmt := top 23
theorem scCell : FnScope ["script", "k"] ["script", "k"] (defScope sCell) := ⟨rfl, rfl, rfl, by decide +kernel, rfl, by decide +kernel, by decide +kernel⟩
abbrev sBox : Stmt := top 24
theorem scBox : FnScope ["great"] ["great"] (defScope sBox) := ⟨rfl, rfl, rfl, by decide +kernel, rfl, by decide +kernel, by decide +kernel⟩
abbrev sTake : Stmt := top 25
theorem scTake : FnScope ["box", "many", "digit", "mixed"] ["box", "many"] (defScope sTake) := ⟨rfl, rfl, rfl, by decide +kernel, rfl, by decide +kernel, by decide +kernel⟩
/-- the state of the draws -/
def Box (c : Nat) (xs : List V) : Prop := ∃ (g : Int) (b : Bool) (m k : Int), xs = [.int g, .bl b, .int m, .int k] ∧ 0 ≤ g ∧ 0 ≤ m ∧ m < 2147483629 ∧ 0 ≤ k ∧ k ≤ c
def spCell (K : PySem.W.Frag) : Sp := fun vs H Q _ => ∃ (l : Addr) (ns : List Int) (k : Int), vs = [.ref l, .int k] ∧ SqL K H l (ns.map V.int) ∧ 0 ≤ k ∧ k < 100 ∧
  ∀ (n : Int) H', Same H H' → Q (.int n) H'
def spBox : Sp := fun vs H Q _ => ∃ g : Int, vs = [.int g] ∧ ∀ p xs, H p = none → Box 0 xs → Q (.ref p) (upd H p (.lst xs))
def spTake : Sp := fun vs H Q _ => ∃ (p : Addr) (many : Int) (xs : List V) (c : Nat), vs = [.ref p, .int many] ∧ H p = some (.lst xs) ∧ Box c xs ∧ c < 1000 ∧ 1 ≤ many ∧ many ≤ 100000 ∧
  ∀ (d : Int) ys, 0 ≤ d → d < many → Box (c + 1) ys → Q (.int d) (upd H p (.lst ys))
section
variable {P : Program} {w : World} {K : PySem.W.Frag} {mg : Str → Option Value} {base : Heap} {f : Addr} {fd : FuncData}
theorem ok_cell (F : Fd K "_law_cell" sCell f fd) (g : mg "_law_cell" = some (.ref f)) (B : Bl mg) : Ok P w K mg base CX0 1 "_law_cell" sCell ["script", "k"] (spCell K) := by
  refine ⟨f, fd, g, F, F.bindsN fun _ _ _ _ _ _ us hl => match us, hl with | [_, _], _ => rfl, F.ok scCell (fun vs H Q E h => ?_) (fun cdv A outer s H vs Q E hr h => ?_)⟩
  · obtain ⟨l, ns, k, rfl, _⟩ := h
    rfl
  · refine ⟨_, (pss_one (ps_ret (pe_ifExp (pt_cmpR op_lt (pv 1) (pe_callB call_len (by rfl) (B.u "len" (by decide +kernel)) boot_len (pa_cons (pv 0) pa_nil)) (nomark _)) (pe_ix ix_seq (pv 0) (pv 1) fun _ _ => rfl) (pe_op op_add (pe_op op_mul pe_int (pv 1)) (pe_op op_mod (pe_callB (cr_sum rfl) (by rfl) (B.u "sum" (by decide +kernel)) boot_sum (pa_cons (pe_slice sl_list (pv 0) po_none (po_some pe_int)) pa_nil)) pe_int))))), ?_⟩
    obtain ⟨l, ns, k, rfl, hs, h0, h1, q⟩ := h
    refine ⟨_, rfl, _, rfl, _, _, rfl, .inl ⟨_, hs, rfl⟩, _, _, rfl, rfl, _, rfl, ?_⟩
    have el : ((List.map V.int ns).length : Int) = (ns.length : Int) := by
      rw [List.length_map]
    refine ite2 (fun c => ?_) (fun c => ?_)
    · have c := of_decide_eq_true c
      rw [el] at c
      have hk : k.toNat < ns.length := by omega
      have ha : atI (ns.map V.int) k = some (V.int ns[k.toNat]) := by
        unfold atI ixN
        rw [if_pos h0, if_pos (by rw [List.length_map]; omega)]
        show (ns.map V.int)[k.toNat]? = _
        rw [List.getElem?_map, List.getElem?_eq_getElem hk] <;> rfl
      exact ⟨_, rfl, _, rfl, .inl ⟨l, _, k, _, rfl, rfl, hs, ha, q _ H (Same.refl H)⟩⟩
    · refine ⟨_, rfl, _, _, rfl, rfl, .inl ⟨by decide, by decide⟩, _, rfl, 1, rfl, l, _, rfl, hs, fun p hp => ?_⟩
      have ec : cutV (ns.map V.int) none (some 1) = (ns.take 1).map V.int := by
        cases ns with
        | nil => rfl
        | cons a r =>
          simp [cutV, HT.sIx]
      refine ⟨p, ns.take 1, rfl, ?_, _, _, rfl, rfl, (by show (0 : Int) < 1000033; decide), _, _, rfl, rfl, q _ _ fun b o e => ?_⟩
      · rw [ec]
        exact SqL.of upd_same
      · rw [upd_ne (ne_of_none e hp)]
        exact e
/-- the bounds of the draws -/
theorem ok_box (F : Fd K "_law_box" sBox f fd) (g : mg "_law_box" = some (.ref f)) (B : Bl mg) : Ok P w K mg base CX0 1 "_law_box" sBox ["great"] spBox := by
  refine ⟨f, fd, g, F, F.bindsN fun _ _ _ _ _ _ us hl => match us, hl with | [_], _ => rfl, F.ok scBox (fun vs H Q E h => ?_) (fun cdv A outer s H vs Q E hr h => ?_)⟩
  · obtain ⟨g, rfl, _⟩ := h
    rfl
  · refine ⟨_, (pss_one (ps_ret (pe_lst (pa_cons (pe_callB call_abs (by rfl) (B.u "abs" (by decide +kernel)) (by decide +kernel) (pa_cons (pv 0) pa_nil)) (pa_cons (pe_cmpR op_ge (pe_callB call_abs (by rfl) (B.u "abs" (by decide +kernel)) (by decide +kernel) (pa_cons (pv 0) pa_nil)) (pe_op op_pow pe_int pe_int) (nomark _)) (pa_cons (pe_op op_mod (pe_callTy call_int1 (by rfl) (B.u "int" (by decide +kernel)) (by decide +kernel) (pa_cons (pe_callB call_abs (by rfl) (B.u "abs" (by decide +kernel)) (by decide +kernel) (pa_cons (pv 0) pa_nil)) pa_nil)) pe_int) (pa_cons pe_int pa_nil))))))), ?_⟩
    obtain ⟨g, rfl, q⟩ := h
    refine ⟨_, rfl, _, rfl, _, rfl, _, rfl, _, _, rfl, rfl, ⟨by decide, by decide, by decide⟩, _, _, rfl, rfl, ?_⟩
    refine ⟨_, rfl, _, rfl, .inl ⟨_, rfl, _, _, rfl, rfl, (by show (0 : Int) < 2147483629; decide), ?_⟩⟩
    refine ⟨by show 4 ≤ sizeLine; rw [sizeLine_eq]; decide, fun p hp => q p _ hp ⟨_, _, _, _, rfl, ?_, ?_, ?_, Int.le_refl _, Int.le_refl _⟩⟩
    · split <;> omega
    · exact Int.emod_nonneg _ (by decide)
    · exact Int.emod_lt_of_pos _ (by decide)
theorem ok_take (F : Fd K "_law_take" sTake f fd) (g : mg "_law_take" = some (.ref f)) (B : Bl mg) : Ok P w K mg base CX0 1 "_law_take" sTake ["box", "many"] spTake := by
  refine ⟨f, fd, g, F, F.bindsN fun _ _ _ _ _ _ us hl => match us, hl with | [_, _], _ => rfl, F.ok scTake (fun vs H Q E h => ?_) (fun cdv A outer s H vs Q E hr h => ?_)⟩
  · obtain ⟨p, many, xs, c, rfl, _⟩ := h
    rfl
  · refine ⟨_, (pss_cons (ps_if (pw_and (pt_val (pe_ix ix_seq (pv 0) pe_int fun _ _ => rfl)) (pw_and1 (pt_cmpR op_gt (pe_ix ix_seq (pv 0) pe_int fun _ _ => rfl) pe_int (nomark _)))).pt
        (pss_cons (ps_set (i := 2) scTake.nd rfl (Or.inl rfl) (pe_op op_mod (pe_callTy call_int1 (by rfl) (B.u "int" (by decide +kernel)) (by decide +kernel) (pa_cons (pe_ix ix_seq (pv 0) pe_int fun _ _ => rfl) pa_nil)) (pv 1)))
        (pss_cons (ps_asg (pe_op op_fdiv (pe_ix ix_seq (pv 0) pe_int fun _ _ => rfl) (pv 1)) (pg_sub (pv 0) pe_int set_list fun _ => rfl))
        (pss_one (ps_ret (pv 2)))))
        pss_nil)
      (pss_cons (ps_asg (pe_op op_add (pe_ix ix_seq (pv 0) pe_int fun _ _ => rfl) pe_int) (pg_sub (pv 0) pe_int set_list fun _ => rfl))
      (pss_cons (ps_set (i := 3) scTake.nd rfl (Or.inl rfl) (pe_op op_mod (pe_callTy call_int1 (by rfl) (B.u "int" (by decide +kernel)) (by decide +kernel) (pa_cons (pe_op op_pow (pe_op op_add (pe_op op_add (pe_ix ix_seq (pv 0) pe_int fun _ _ => rfl) (pe_op op_mul pe_int (pe_ix ix_seq (pv 0) pe_int fun _ _ => rfl))) pe_int) pe_int) pa_nil)) pe_int))
      (pss_one (ps_ret (pe_op op_mod (pe_op op_fdiv (pe_op op_mod (pe_callTy call_int1 (by rfl) (B.u "int" (by decide +kernel)) (by decide +kernel) (pa_cons (pe_op op_pow (pe_op op_add (pe_op op_mul (pv 3) pe_int) (pe_op op_mul pe_int (pe_ix ix_seq (pv 0) pe_int fun _ _ => rfl))) pe_int) pa_nil)) pe_int) pe_int) (pv 1))))))), ?_⟩
    obtain ⟨p, many, xs, c, rfl, hp, ⟨g, b, m, k, rfl, b1, b2, b3, b4, b5⟩, hc, m1, m2, q⟩ := h
    have big : sizeLine = 16777216 := sizeLine_eq
    -- the second way
    have last : tSeq (tAsg (tOp (rI0 fun i j => V.int (i + j)) (tOp (rIx K) (tVar 0) (tC (V.int 3))) (tC (V.int 1))) (gSub (tVar 0) (tC (V.int 3)) rSetL))
        (tSeq (tAsg (tOp (rI (fun x j => 0 < j) fun i j => V.int (i % j)) (tCB (fun xs H Q => (∃ i, xs = [V.int i] ∧ Q (V.int i) H) ∨ ∃ k, xs = [V.bl k] ∧ Q (V.int (if k = true then 1 else 0)) H)
          (tCons (tOp (rI CPow fun i j => V.int (i ^ j.toNat)) (tOp (rI0 fun i j => V.int (i + j)) (tOp (rI0 fun i j => V.int (i + j)) (tOp (rIx K) (tVar 0) (tC (V.int 2)))
            (tOp (rI CMul fun i j => V.int (i * j)) (tC (V.int 15485863)) (tOp (rIx K) (tVar 0) (tC (V.int 3))))) (tC (V.int 179424673))) (tC (V.int 5))) tNil)) (tC (V.int 2147483647))) (gName 3))
        (tRet (tOp (rI (fun x j => 0 < j) fun i j => V.int (i % j)) (tOp (rI CDiv fun i j => V.int (i / j)) (tOp (rI (fun x j => 0 < j) fun i j => V.int (i % j))
          (tCB (fun xs H Q => (∃ i, xs = [V.int i] ∧ Q (V.int i) H) ∨ ∃ k, xs = [V.bl k] ∧ Q (V.int (if k = true then 1 else 0)) H)
            (tCons (tOp (rI CPow fun i j => V.int (i ^ j.toNat)) (tOp (rI0 fun i j => V.int (i + j)) (tOp (rI CMul fun i j => V.int (i * j)) (tVar 3) (tC (V.int 48271)))
              (tOp (rI CMul fun i j => V.int (i * j)) (tC (V.int 104729)) (tOp (rIx K) (tVar 0) (tC (V.int 3))))) (tC (V.int 3))) tNil)) (tC (V.int 2147483587))) (tC (V.int 64))) (tVar 1))))
        { nx := fun _ H' => Q V.non H', rt := Q } [some (V.ref p), some (V.int many), none, none] H := by
      refine ⟨_, rfl, ixAt hp rfl ⟨_, _, rfl, rfl, _, rfl, p, _, _, 3, rfl, rfl, hp, rfl, ?_⟩⟩
      refine ⟨_, rfl, ixAt upd_same rfl ⟨_, rfl, ixAt upd_same rfl ⟨_, _, rfl, rfl, .inl ⟨by decide, by decide⟩, _, _, rfl, rfl, _, _, rfl, rfl, ?_⟩⟩⟩
      have hA : (m + 15485863 * (k + 1) + 179424673).natAbs < 2 ^ 64 := by omega
      have n1 : 0 ≤ (m + 15485863 * (k + 1) + 179424673) ^ (5 : Int).toNat % 2147483647 := Int.emod_nonneg _ (by decide)
      have n2 : (m + 15485863 * (k + 1) + 179424673) ^ (5 : Int).toNat % 2147483647 < 2147483647 := Int.emod_lt_of_pos _ (by decide)
      have hB : ((m + 15485863 * (k + 1) + 179424673) ^ (5 : Int).toNat % 2147483647 * 48271 + 104729 * (k + 1)).natAbs < 2 ^ 64 := by
        generalize (m + 15485863 * (k + 1) + 179424673) ^ (5 : Int).toNat % 2147483647 = B1 at n1 n2
        omega
      refine ⟨_, _, rfl, rfl, ⟨by decide, by decide, hA⟩, ?_⟩
      refine .inl ⟨_, rfl, _, _, rfl, rfl, (by show (0 : Int) < 2147483647; decide), ?_⟩
      refine ⟨_, rfl, _, _, rfl, rfl, .inr ⟨by decide, by decide⟩, ?_⟩
      refine ⟨_, rfl, ixAt upd_same rfl ⟨_, _, rfl, rfl, .inl ⟨by decide, by decide⟩, _, _, rfl, rfl, ?_⟩⟩
      refine ⟨_, _, rfl, rfl, ⟨by decide, by decide, hB⟩, ?_⟩
      refine .inl ⟨_, rfl, _, _, rfl, rfl, (by show (0 : Int) < 2147483587; decide), _, _, rfl, rfl, ⟨by decide, by decide⟩, _, rfl, _, _, rfl, rfl, (by show (0 : Int) < many; omega), ?_⟩
      refine q _ _ (Int.emod_nonneg _ (by omega)) (Int.emod_lt_of_pos _ (by omega)) ⟨g, b, m, k + 1, rfl, b1, b2, b3, by omega, by omega⟩
    refine ⟨_, rfl, ixAt hp rfl ⟨b, rfl, ?_⟩⟩
    cases b with
    | false => exact last
    | true =>
      refine ⟨_, rfl, ixAt hp rfl ⟨_, _, rfl, rfl, _, rfl, ?_⟩⟩
      refine ite2 (fun c => ?_) (fun _ => last)
      have c := of_decide_eq_true c
      refine ⟨_, rfl, ixAt hp rfl (.inl ⟨_, rfl, _, rfl, _, _, rfl, rfl, (by show (0 : Int) < many; omega), ?_⟩)⟩
      refine ⟨_, rfl, ixAt hp rfl ⟨_, rfl, _, _, rfl, rfl, ⟨(by show (0 : Int) < many; omega), (by show many < 1073741824; omega)⟩, _, rfl, p, _, _, 0, rfl, rfl, hp, rfl, ?_⟩⟩
      refine ⟨_, rfl, q _ _ (Int.emod_nonneg _ (by omega)) (Int.emod_lt_of_pos _ (by omega)) ⟨g / many, true, m, k, rfl, ?_, b2, b3, b4, by omega⟩⟩
      exact Int.ediv_nonneg b1 (by omega)
end
end K03

/-! comprehensions whose items change what stands at p -/
namespace L2
open PySem PySem.Spec PyProof.Rows
theorem but_refl {p : Addr} {H : Hp} : But p H H := fun _ _ _ e => e
theorem lc_genB {J : It} {n : Nat} {G : Hp → Prop} {Y : Nat → Hp → V → Hp → Prop} (w : Walk J n G Y) {g : TG} {tt : TT} {te : TE} {vs : List Nat} {σ : St} {H : Hp} {p D : Addr} {o : HO} {Qd : Hp → Prop} (S : Nat → Hp → Prop) (R : Nat → V → Hp → Prop)
    (Rm : ∀ i y H1 H2, Same H1 H2 → R i y H1 → R i y H2) (Sm : ∀ i H1 H2, H1 p = H2 p → S i H1 → S i H2) (hp : H p = some o) (s0 : S 0 H) (hD : H D = none) (hn : n ≤ 16777215) (hG : ∀ H', Same (del H p) (del (del H' D) p) → G H')
    (he : ∀ i x H1 H2 (K : V → Hp → Prop) (N : Hp → Prop), i < n → Same (del H p) (del (del H1 D) p) → (∃ o, H1 D = some o) → S i H1 → Y i H1 x H2 → (∀ y H4, But p H1 H4 → S (i + 1) H4 → R i y (del (del H4 D) p) → K y H4) →
      g x (wipe σ vs) H2 fun σ2 H2' => wipe σ2 vs = wipe σ vs ∧ tt σ2 H2' fun b H3 => if b = true then te σ2 H3 K else N H3)
    (q : ∀ (ys : List V) (H' : Hp), Same (del H p) (del (del H' D) p) → S n H' → H' D = some (.lst ys) → ys.length = n → (∀ (i : Nat) (y : V), ys[i]? = some y → R i y (del (del H' D) p)) → Qd H') :
    ∃ W : Nat → Nat → Hp → Prop, (∃ m, W 0 m (upd H D (.lst []))) ∧ ∀ i m H, W i m H →
      (J.stop i H ∧ Qd H) ∨ (J.go i H ∧ ∃ Nx : Hp → Prop, (∀ H', Nx H' → ∃ m', m' < m ∧ W (i + 1) m' H') ∧ ∀ x H', J.yld i H x H' → g x (wipe σ vs) H' fun σ2 H2 => wipe σ2 vs = wipe σ vs ∧ tt σ2 H2 fun b H3 =>
        if b = true then te σ2 H3 fun y H4 => ∃ acc, H4 D = some (.lst acc) ∧ acc.length < sizeLine ∧ Nx (upd H4 D (.lst (acc ++ [y]))) else Nx H3) := by
  have nD : p ≠ D := ne_of_none hp hD
  have dd : ∀ {H4 : Hp} {ys : List V}, del (upd H4 D (.lst ys)) D = del H4 D := fun {H4 ys} => by
    funext b
    by_cases nb : b = D
    · rw [nb, del_same, del_same]
    · rw [del_ne nb, del_ne nb, upd_ne nb]
  have bb : ∀ {H1 H4 : Hp}, But p H1 H4 → Same (del (del H1 D) p) (del (del H4 D) p) := fun k b o e => by
    by_cases nb : b = p
    · rw [nb, del_same] at e; cases e
    · rw [del_ne nb] at e ⊢
      by_cases nd : b = D
      · rw [nd, del_same] at e; cases e
      · rw [del_ne nd] at e ⊢
        exact k b o nb e
  refine lc_it w (fun i H' => Same (del H p) (del (del H' D) p) ∧ S i H' ∧ ∃ ys, H' D = some (.lst ys) ∧ ys.length = i ∧ ∀ (j : Nat) (y : V), ys[j]? = some y → R j y (del (del H' D) p)) ?_ (fun i H' _ h => hG H' h.1) ?_ ?_
  · refine ⟨fun b o e => ?_, Sm 0 H _ (by rw [upd_ne nD]) s0, [], upd_same, rfl, fun j y h => by simp at h⟩
    by_cases nb : b = p
    · rw [nb, del_same] at e; cases e
    · rw [del_ne nb] at e ⊢
      rw [del_ne (ne_of_none e hD), upd_ne (ne_of_none e hD)]
      exact e
  · rintro i x H1 H2 hi ⟨k1, s1, ys, h1, l1, r1⟩ hy
    refine he i x H1 H2 _ _ hi k1 ⟨_, h1⟩ s1 hy (fun y H4 k4 s4 r4 => ?_)
    have h4 := k4 D _ nD.symm h1
    refine ⟨ys, h4, by rw [l1]; exact lt_ln (by omega), ?_, Sm _ H4 _ (by rw [upd_ne nD]) s4, _, upd_same, by rw [List.length_append, l1]; rfl, ?_⟩
    · rw [dd]
      exact k1.trans (bb k4)
    · intro j y2 hy2
      rw [dd]
      by_cases c : j < ys.length
      · rw [List.getElem?_append_left c] at hy2
        exact Rm _ _ _ _ (bb k4) (r1 j y2 hy2)
      · have lt := (List.getElem?_eq_some_iff.mp hy2).1
        rw [List.length_append] at lt
        have ek : j = ys.length := by
          have : ([y] : List V).length = 1 := rfl
          omega
        subst ek
        rw [List.getElem?_append_right (Nat.le_refl _), Nat.sub_self] at hy2
        obtain rfl : y = y2 := by simpa using hy2
        rw [l1]
        exact r4
  · rintro H1 ⟨k1, s1, ys, h1, l1, r1⟩
    exact q ys H1 k1 s1 h1 l1 r1
end L2

namespace K03
open PySem PySem.Spec PyProof.Rows L2
abbrev sRoads : Stmt := top 26
theorem scRoads : FnScope ["box", "houses", "kind", "order", "mixed", "pairs", "k", "a", "b"] ["box", "houses"] (defScope sRoads) := ⟨rfl, rfl, rfl, by decide +kernel, rfl, by decide +kernel, by decide +kernel⟩
/-- the state of the draws stands at p -/
def BoxAt (H : Hp) (p : Addr) (c : Nat) : Prop := ∃ xs, H p = some (.lst xs) ∧ Box c xs
theorem Box.up {c c' : Nat} {xs : List V} (h : Box c xs) (l : c ≤ c') : Box c' xs := by
  obtain ⟨g, b, m, k, e, h1, h2, h3, h4, h5⟩ := h
  exact ⟨g, b, m, k, e, h1, h2, h3, h4, by omega⟩
theorem BoxAt.up {H : Hp} {p : Addr} {c c' : Nat} (h : BoxAt H p c) (l : c ≤ c') : BoxAt H p c' := h.imp fun _ z => ⟨z.1, z.2.up l⟩
theorem BoxAt.eq {H H' : Hp} {p : Addr} {c : Nat} (h : BoxAt H p c) (e : H' p = H p) : BoxAt H' p c := h.imp fun _ z => ⟨e.trans z.1, z.2⟩
theorem BoxAt.same {H H' : Hp} {p : Addr} {c : Nat} (h : BoxAt H p c) (k : Same H H') : BoxAt H' p c := h.imp fun _ z => ⟨k _ _ z.1, z.2⟩
theorem BoxAt.some {H : Hp} {p : Addr} {c : Nat} (h : BoxAt H p c) : ∃ o, H p = Option.some o := let ⟨_, z, _⟩ := h; ⟨_, z⟩
/-- one number is drawn -/
def spDraw1 : Sp := fun vs H Q _ => ∃ (p : Addr) (many : Int) (c : Nat), vs = [.ref p, .int many] ∧ BoxAt H p c ∧ c < 1000 ∧ 1 ≤ many ∧ many ≤ 100000 ∧
  ∀ (d : Int) H', 0 ≤ d → d < many → But p H H' → BoxAt H' p (c + 1) → (∀ b, b ≠ p → H' b = H b) → Q (.int d) H'
theorem take_draw {vs : List V} {H : Hp} {Q : VK} {E : XK} (h : spDraw1 vs H Q E) : spTake vs H Q E := by
  obtain ⟨p, many, c, rfl, ⟨xs, hp, hb⟩, hc, m1, m2, q⟩ := h
  exact ⟨p, many, xs, c, rfl, hp, hb, hc, m1, m2, fun d ys d0 d1 b => q d _ d0 d1 But.upd ⟨ys, upd_same, b⟩ fun b nb => upd_ne nb⟩
def spRoads : Sp := fun vs H Q _ => ∃ (p : Addr) (n c : Nat), vs = [.ref p, .int n] ∧ BoxAt H p c ∧ 1 ≤ n ∧ n ≤ 64 ∧ c + 2 * n < 1000 ∧
  ∀ rs q H', Tm.RoadsOk n rs → Tm.Joined n rs → But p H H' → BoxAt H' p (c + 2 * n) → H q = none → q ≠ p → Rdd (del H' p) (.ref q) (.list (rs.map rd)) → Q (.ref q) H'
theorem seqIx {j len : Nat} (h : j < len) : seqIndex? (j : Int) len = some j := by
  unfold seqIndex?
  have c1 : ¬ (j : Int) < 0 := by omega
  simp only [if_neg c1]
  have c2 : decide (0 ≤ (j : Int)) = true := decide_eq_true (by omega)
  have c3 : decide ((j : Int) < (len : Int)) = true := decide_eq_true (by omega)
  rw [c2, c3]
  simp
theorem natV_erase : ∀ (l : List Nat) (k : Nat), natV (l.eraseIdx k) = (natV l).eraseIdx k
  | [], _ => rfl
  | x :: l, 0 => rfl
  | x :: l, k + 1 => by
    show V.int (x : Int) :: natV (l.eraseIdx k) = V.int (x : Int) :: (natV l).eraseIdx k
    rw [natV_erase l k]
theorem erase_perm : ∀ {l : List Nat} {i : Nat} (h : i < l.length), (l[i] :: l.eraseIdx i).Perm l
  | a :: l, 0, _ => .refl _
  | a :: l, i + 1, h => by
    have := erase_perm (l := l) (i := i) (by simpa using h)
    simp only [List.getElem_cons_succ, List.eraseIdx_cons_succ]
    exact (List.Perm.swap _ _ _).trans (this.cons a)
theorem natD_lay (l : List Nat) : (PyData.list (natD l)).canLay0 = true := by
  show PyData.canLayAll0 (natD l) = true
  induction l with
  | nil => rfl
  | cons x l ih => simpa [natD, PyData.canLayAll0, PyData.canLay0] using ih
theorem natD_shaped (l : List Nat) : SeqAt.shaped (.list (natD l)) = true := by
  unfold SeqAt.shaped
  rw [natD_lay, Bool.true_and]
  apply decide_eq_true
  simp only [PyData.depth]
  have e : PyData.depthAll (natD l) = 0 := by
    induction l with
    | nil => rfl
    | cons x l ih => simpa [natD, PyData.depthAll, PyData.depth] using ih
  omega
theorem natD_nil (l : List Nat) : PyData.eqv (.list (natD l)) (.list []) = l.isEmpty := by cases l <;> rfl
section
variable {P : Program} {w : World} {K : PySem.W.Frag} {mg : Str → Option Value} {base : Heap} {f : Addr} {fd : FuncData}
theorem ok_roads (F : Fd K "_law_roads" sRoads f fd) (g : mg "_law_roads" = some (.ref f)) (B : Bl mg) (o_law_take : Ok P w K mg base CX0 1 "_law_take" sTake ["box", "many"] spDraw1) : Ok P w K mg base CX0 2 "_law_roads" sRoads ["box", "houses"] spRoads := by
  refine ⟨f, fd, g, F, F.bindsN fun _ _ _ _ _ _ us hl => match us, hl with | [_, _], _ => rfl, F.ok scRoads (fun vs H Q E h => ?_) (fun cdv A outer s H vs Q E hr h => ?_)⟩
  · obtain ⟨p, n, c, rfl, _⟩ := h
    rfl
  · have hu : (cxOf CX0 P w K mg base ["box", "houses", "kind", "order", "mixed", "pairs", "k", "a", "b"] "_law_roads" (defScope sRoads) f cdv A outer s H E).A.units + 64 < cLine := by
      have z := hr.un
      show (A.deeper _).units + 64 < cLine
      omega
    refine ⟨_, (pss_cons (ps_asg (pe_tup (pa_cons (pe_o o_law_take (hr.mono (by decide)) (by rfl) (pa_cons (pv 0) (pa_cons pe_int pa_nil))) (pa_cons (pe_listRg rfl (by rfl) (B.u "list" (by decide +kernel)) (prg_1 (by rfl) (B.u "range" (by decide +kernel)) (pv 1))) (pa_cons (pe_lst pa_nil) pa_nil)))) (pg_tup rfl (pgs_cons (pg_name (i := 2) scRoads.nd rfl (Or.inr rfl)) (pgs_cons (pg_name (i := 3) scRoads.nd rfl (Or.inl rfl)) (pgs_cons (pg_name (i := 4) scRoads.nd rfl (Or.inr rfl)) pgs_nil)))))
      (pss_cons (ps_while (passes_of rfl) (pt_cmpR (op_neD hu) (pv 3) (pe_lst pa_nil) (nomark _))
        (pss_one (ps_expr (pe_bm PySem.F.plainAttrs_list PySem.F.slot_list_append PySem.F.type_list_append mt_append (pv 4) (pa_cons (pe_bm PySem.F.plainAttrs_list PySem.F.slot_list_pop PySem.F.type_list_pop mt_popAt (pv 3) (pa_cons (pe_o o_law_take (hr.mono (by decide)) (by rfl) (pa_cons (pv 0) (pa_cons (pe_callB call_len (by rfl) (B.u "len" (by decide +kernel)) boot_len (pa_cons (pv 3) pa_nil)) pa_nil))) pa_nil)) pa_nil)))))
      (pss_cons (ps_setLc (i := 5) (own := [("k", 6)]) (g := gName 6) rfl scRoads.nd rfl rfl (sw_true rfl rfl rfl (by decide +kernel)) (pi_range2 (by rfl) (B.u "range" (by decide +kernel)) (pa_cons pe_int (pa_cons (pv 1) pa_nil))) (blkOk_by (N := ["box", "houses", "kind", "order", "mixed", "pairs", "k", "a", "b"]) (sc := defScope sRoads) (by decide +kernel)) (fun _ _ _ _ _ => (pg_name (i := 6) scRoads.nd rfl (Or.inl rfl))) (fun _ _ _ _ _ => pts_nil) (fun _ _ _ _ _ => (pe_tup (pa_cons (pe_ix (r := rIx K) ix_seq (pv 4) (pv 6) fun _ _ => rfl) (pa_cons (pe_ix (r := rIx K) ix_seq (pv 4) (pe_ix (r := rIx K) ix_seq (pe_lst (pa_cons (pe_op op_sub (pv 6) pe_int) (pa_cons pe_int (pa_cons (pe_o o_law_take (hr.mono (by decide)) (by rfl) (pa_cons (pv 0) (pa_cons (pv 6) pa_nil))) pa_nil)))) (pv 2) fun _ _ => rfl) fun _ _ => rfl) pa_nil)))))
      (pss_one (ps_ret (pe_callB cr_sortedPO (by rfl) (B.u "sorted" (by decide +kernel)) (by decide +kernel) (pa_cons (pe_lc (own := [("a", 7), ("b", 8)]) (g := gTup K 2 (gCons (gName 7) (gCons (gName 8) gNil))) rfl scRoads.nd (pi_list (pv 5)) (blkOk_by (N := ["box", "houses", "kind", "order", "mixed", "pairs", "k", "a", "b"]) (sc := defScope sRoads) (by decide +kernel)) (fun _ _ _ _ _ => (pg_tup rfl (pgs_cons (pg_name (i := 7) scRoads.nd rfl (Or.inl rfl)) (pgs_cons (pg_name (i := 8) scRoads.nd rfl (Or.inl rfl)) pgs_nil)))) (fun _ _ _ _ _ => pts_nil) (fun _ _ _ _ _ => (pe_tup (pa_cons (pe_callB (call_min2 rfl) (by rfl) (B.u "min" (by decide +kernel)) (by decide +kernel) (pa_cons (pv 7) (pa_cons (pv 8) pa_nil))) (pa_cons (pe_callB (call_max2 rfl) (by rfl) (B.u "max" (by decide +kernel)) (by decide +kernel) (pa_cons (pv 7) (pa_cons (pv 8) pa_nil))) pa_nil))))) pa_nil))))))), ?_⟩
    obtain ⟨p, n, c, rfl, hp, n1, n2, hc, q⟩ := h
    refine ⟨_, rfl, p, 3, c, rfl, hp, by omega, by decide, by decide, fun kind H1 kd0 kd1 k1 hp1 e1 => ?_⟩
    refine ⟨_, rfl, _, rfl, RgOk.of_le (by decide) (by omega) (by decide) (by omega), fun po hpo => ?_⟩
    refine ⟨two_ln (by decide), fun pm hpm => ⟨two_ln (by show 3 ≤ _; decide), fun pt hpt => ?_⟩⟩
    refine ⟨pt, _, rfl, SqT.of upd_same, rfl, _, _, rfl, _, _, rfl, _, _, rfl, rfl, ?_⟩
    dsimp only [gName, tSeq, gNil, L2.start]
    have bx0 : ∃ o, H p = some o := BoxAt.some hp
    have bx1 : ∃ o, H1 p = some o := BoxAt.some hp1
    have n_po : p ≠ po := fun e => by obtain ⟨o, z⟩ := bx1; rw [e, hpo] at z; cases z
    have n_pm : p ≠ pm := fun e => by obtain ⟨o, z⟩ := bx1; rw [← e, upd_ne n_po] at hpm; rw [hpm] at z; cases z
    have n_pt : p ≠ pt := fun e => by obtain ⟨o, z⟩ := bx1; rw [← e, upd_ne n_pm, upd_ne n_po] at hpt; rw [hpt] at z; cases z
    have n_om : po ≠ pm := fun e => by rw [← e, upd_same] at hpm; cases hpm
    have n_ot : po ≠ pt := fun e => by rw [← e, upd_ne n_om, upd_same] at hpt; cases hpt
    have n_mt : pm ≠ pt := fun e => by rw [← e, upd_same] at hpt; cases hpt
    have f_po : H po = none := by rw [← e1 po n_po.symm]; exact hpo
    have f_pm : H pm = none := by rw [← e1 pm n_pm.symm, ← upd_ne (o := HO.lst (rgV 0 n)) (H := H1) n_om.symm]; exact hpm
    have f_pt : H pt = none := by
      rw [← e1 pt n_pt.symm, ← upd_ne (o := HO.lst (rgV 0 n)) (H := H1) n_ot.symm]
      rwa [upd_ne n_mt.symm] at hpt
    have rg : rgV 0 n = natV (List.range n) := by
      unfold rgV natV
      have : ((n : Int) - 0).toNat = n := by omega
      rw [this]
      refine List.map_congr_left fun x _ => ?_
      rw [Int.zero_add]
    refine while_by (fun σ H' => ∃ os ms : List Nat, (ms ++ os).Perm (List.range n) ∧ H' po = some (.lst (natV os)) ∧ H' pm = some (.lst (natV ms)) ∧ BoxAt H' p (c + 1 + ms.length) ∧ But p H H' ∧
        σ = [some (.ref p), some (.int n), some (.int kind), some (.ref po), some (.ref pm), none, none, none, none])
      (fun σ H' => match H' po with | some (.lst xs) => xs.length | _ => 0) ?_ ?_ ?_
    · refine ⟨List.range n, [], .refl _, ?_, ?_, ?_, fun b o nb e => ?_, rfl⟩
      · rw [upd_ne n_ot, upd_ne n_om, upd_same, rg]
      · rw [upd_ne n_mt, upd_same]; rfl
      · exact hp1.eq (by rw [upd_ne n_pt, upd_ne n_pm, upd_ne n_po])
      · rw [upd_ne (ne_of_none e f_pt), upd_ne (ne_of_none e f_pm), upd_ne (ne_of_none e f_po)]
        exact k1 _ _ nb e
    · rintro σ H2 ⟨os, ms, pr, h2, h3, hb2, k2, rfl⟩
      have lens : ms.length + os.length = n := by
        have := pr.length_eq
        rwa [List.length_append, List.length_range] at this
      refine ⟨_, rfl, two_ln (by decide), fun pe hpe => ?_⟩
      have g2 : Same H2 (upd H2 pe (.lst [])) := upd_grow hpe
      have h2' := g2 _ _ h2
      have h3' := g2 _ _ h3
      refine ⟨.list (natD os), .list [], (Rdd.lst h2' (nat_rdd os)).dp (natD_lay os), .lst (SqL.of upd_same) .nil, natD_shaped os, by decide, ?_⟩
      rw [natD_nil]
      refine ⟨_, rfl, iteB (fun e => ?_) fun e => ?_⟩
      · have e := not_t e
        have l0 : 0 < os.length := by
          cases os with
          | nil => cases e
          | cons _ _ => simp
        refine ⟨_, rfl, .inl ⟨rfl, _, SqL.of h3'⟩, _, rfl, .inl ⟨rfl, _, SqL.of h2'⟩, _, rfl, _, rfl, _, _, rfl, .inl ⟨_, SqL.of h2', rfl⟩, p, _, c + 1 + ms.length, rfl, hb2.same g2, by omega, ?_, ?_, fun d H4 d0 d1 k4 hb4 e4 => ?_⟩
        · simp [natV]; omega
        · simp [natV]; omega
        · obtain ⟨dn, rfl⟩ : ∃ dn : Nat, d = dn := ⟨d.toNat, by omega⟩
          have dl : dn < os.length := by simp [natV] at d1; omega
          have h2'' := k4 _ _ n_po.symm h2'
          have h3'' := k4 _ _ n_pm.symm h3'
          refine ⟨po, natV os, (dn : Int), dn, .int (os[dn] : Nat), rfl, rfl, h2'', Int.le_trans (by decide : (-(2 ^ 63) : Int) ≤ 0) (Int.natCast_nonneg _), Int.lt_trans (show (dn : Int) < 64 by omega) (by decide), ?_, ?_, pm, natV ms, _, rfl, rfl, ?_, ?_, ?_, ?_⟩
          · have : (natV os).length = os.length := by simp [natV]
            rw [this]
            exact seqIx dl
          · unfold natV
            rw [List.getElem?_map, List.getElem?_eq_getElem dl]
            rfl
          · rw [upd_ne n_om.symm]; exact h3''
          · exact lt_ln (by simp [natV]; omega)
          · refine ⟨os.eraseIdx dn, ms ++ [os[dn]], ?_, ?_, ?_, ?_, fun b o nb e => ?_, rfl⟩
            · have z : (os[dn] :: os.eraseIdx dn).Perm os := erase_perm dl
              rw [List.append_assoc]
              exact (List.Perm.append_left ms z).trans pr
            · rw [upd_ne n_om, upd_same]
              rw [natV_erase]
            · rw [upd_same]
              simp [natV]
            · refine BoxAt.up (BoxAt.eq hb4 ?_) (by simp; omega)
              rw [upd_ne n_pm, upd_ne n_po]
            · rw [upd_ne (ne_of_none e f_pm), upd_ne (ne_of_none e f_po)]
              exact k4 _ _ nb (g2 _ _ (k2 _ _ nb e))
          · show (match (upd (upd H4 po _) pm _) po with | some (HO.lst xs) => xs.length | _ => 0) < (match H2 po with | some (HO.lst xs) => xs.length | _ => 0)
            rw [upd_ne n_om, upd_same, h2]
            simp only [natV, List.length_map, List.length_eraseIdx]
            split <;> omega
      · have e := not_f e
        have os0 : os = [] := by
          cases os with
          | nil => rfl
          | cons _ _ => cases e
        subst os0
        rw [List.append_nil] at pr
        rw [List.length_nil, Nat.add_zero] at lens
        have hb3 := hb2.same g2
        have k3 : But p H (upd H2 pe (.lst [])) := fun b o nb e => g2 _ _ (k2 _ _ nb e)
        generalize hH3 : upd H2 pe (.lst []) = H3 at h3' hb3 k3
        obtain ⟨ob, hob⟩ := hb3.some
        have nd : ms.Nodup := pr.nodup_iff.mpr List.nodup_range
        have bdm : ∀ x ∈ ms, x < n := fun x hx => List.mem_range.mp (pr.mem_iff.mp hx)
        have mget : ∀ i, i < n → (natV ms)[i]? = some (.int (ms.getD i 0 : Nat)) := fun i hi => by
          unfold natV
          rw [List.getElem?_map, List.getD_eq_getElem?_getD, List.getElem?_eq_getElem (by omega)]
          rfl
        refine ⟨_, rfl, _, _, rfl, ⟨by decide, by decide, by omega, by omega⟩, fun D hD => ?_⟩
        have nDp : p ≠ D := ne_of_none hob hD
        have en : ((n : Int) - 1).toNat = n - 1 := by omega
        show ∃ W : Nat → Nat → Hp → Prop, _
        rw [en]
        refine lc_genB (p := p) (walk_range (lo := 1) (n := n - 1)) (fun i H' => BoxAt H' p (c + 1 + n + i)) (fun i y H' => ∃ t j, y = .ref t ∧ j ≤ i ∧ H' t = some (.tup [.int (ms.getD (i + 1) 0 : Nat), .int (ms.getD j 0 : Nat)]))
          (fun i y _ _ k ⟨t, j, a, b, h⟩ => ⟨t, j, a, b, k _ _ h⟩) (fun i H1 H2 e h => h.eq e.symm) hob (by rw [lens] at hb3; exact hb3) hD (by omega) (fun _ _ => True.intro) ?_ ?_
        · rintro i x H0 H4 K1 N1 hi k4 ⟨o, ho⟩ s4 ⟨rfl, hx⟩ hK
          have e2 : (1 : Int) + i = ((i + 1 : Nat) : Int) := by omega
          have hx : x = V.int ((i + 1 : Nat) : Int) := hx.trans (congrArg V.int e2)
          subst hx
          have keep : ∀ {b o}, b ≠ p → H3 b = some o → H4 b = some o := fun {b o} nb e => by
            have z := k4 b o (by rw [del_ne nb]; exact e)
            rw [del_ne nb] at z
            exact del_le _ _ z
          have hm4 := keep n_pm.symm h3'
          refine ⟨rfl, _, rfl, _, rfl, ixAt hm4 (atI_nat (mget (i + 1) (by omega))) ⟨_, rfl, _, rfl, _, _, rfl, rfl, _, rfl, _, rfl, p, _, _, rfl, s4, by omega, by omega, by omega, fun d H5 d0 d1 k5 hb5 e5 => ⟨two_ln (by show 3 ≤ _; decide), fun pl hpl => ⟨_, rfl, ?_⟩⟩⟩⟩
          have hm5 : upd H5 pl (.lst [.int (((i + 1 : Nat) : Int) - 1), .int 0, .int d]) pm = some (.lst (natV ms)) := by
            rw [upd_ne (ne_of_none (k5 _ _ n_pm.symm hm4) hpl)]
            exact k5 _ _ n_pm.symm hm4
          have fin : ∀ j : Nat, j ≤ i → rIx K (.ref pm) (.int (j : Int)) (upd H5 pl (.lst [.int (((i + 1 : Nat) : Int) - 1), .int 0, .int d])) fun v H' => tNil [] H' fun xs H'' => (v :: xs).length + 1 ≤ sizeLine ∧ ∀ t, H'' t = none → K1 (.ref t) (upd H'' t (.tup (.int (ms.getD (i + 1) 0 : Nat) :: v :: xs))) := by
            intro j hj
            refine ixAt hm5 (atI_nat (mget j (by omega))) ⟨two_ln (by show 2 ≤ _; decide), fun t ht => ?_⟩
            obtain ⟨ob5, hob5⟩ := hb5.some
            have npl : p ≠ pl := ne_of_none hob5 hpl
            have npt : p ≠ t := fun e => by rw [← e, upd_ne npl, hob5] at ht; cases ht
            have ho5 := k5 D o nDp.symm ho
            have nDl : D ≠ pl := ne_of_none ho5 hpl
            have nDt : D ≠ t := fun e => by rw [← e, upd_ne nDl, ho5] at ht; cases ht
            refine hK _ _ (fun b o nb e => ?_) (hb5.eq (by rw [upd_ne npt, upd_ne npl])) ⟨t, j, rfl, hj, by rw [del_ne npt.symm, del_ne nDt.symm, upd_same]⟩
            have z := k5 _ _ nb e
            have z2 : upd H5 pl (.lst [.int (((i + 1 : Nat) : Int) - 1), .int 0, .int d]) b = some o := by rw [upd_ne (ne_of_none z hpl)]; exact z
            rw [upd_ne (ne_of_none z2 ht)]
            exact z2
          have three : kind = 0 ∨ kind = 1 ∨ kind = 2 := by omega
          rcases three with rfl | rfl | rfl
          · have e0 : (((i + 1 : Nat) : Int) - 1) = (i : Nat) := by omega
            exact ixAt (v := .int (i : Nat)) upd_same (by show some (V.int (((i + 1 : Nat) : Int) - 1)) = some (V.int ((i : Nat) : Int)); rw [e0]) (fin i (Nat.le_refl _))
          · exact ixAt (v := .int (0 : Nat)) upd_same rfl (fin 0 (Nat.zero_le _))
          · obtain ⟨dn, rfl⟩ : ∃ dn : Nat, d = dn := ⟨d.toNat, by omega⟩
            exact ixAt (v := .int (dn : Nat)) upd_same rfl (fin dn (by omega))
        · intro ys H4 k4 s4 h4 l4 r4
          have keep : ∀ {b o}, b ≠ p → H3 b = some o → H4 b = some o := fun {b o} nb e => by
            have z := k4 b o (by rw [del_ne nb]; exact e)
            rw [del_ne nb] at z
            exact del_le _ _ z
          refine ⟨_, rfl, D, rfl, ⟨_, SqL.of h4⟩, fun D2 hD2 => ?_⟩
          have pair : ∀ i (y : V), ys[i]? = some y → ∃ t j, y = .ref t ∧ j ≤ i ∧ t ≠ p ∧ H4 t = some (.tup [.int (ms.getD (i + 1) 0 : Nat), .int (ms.getD j 0 : Nat)]) := fun i y hy => by
            obtain ⟨t, j, e, hj, ht⟩ := r4 i y hy
            have nt : t ≠ p := fun z => by rw [z, del_same] at ht; cases ht
            rw [del_ne nt] at ht
            exact ⟨t, j, e, hj, nt, del_le _ _ ht⟩
          refine lc_gen walk_list (fun _ => true) (fun i y H' => ∃ t j, y = .ref t ∧ j ≤ i ∧ H' t = some (.tup [.int ((Tm.mkR (ms.getD (i + 1) 0) (ms.getD j 0)).1 : Nat), .int ((Tm.mkR (ms.getD (i + 1) 0) (ms.getD j 0)).2 : Nat)]))
            (fun i y _ _ k ⟨t, j, a, b, h⟩ => ⟨t, j, a, b, k _ _ h⟩) hD2 (by omega) (fun H' k => SqL.of (del_sub k _ _ h4)) ?_ ?_
          · rintro i x H0 H5 K1 N1 hi k5 ⟨o, ho⟩ ⟨rfl, hx⟩ hK _
            obtain ⟨t, j, rfl, hj, nt, ht⟩ := pair i x hx
            have ht5 := del_sub k5 _ _ ht
            refine ⟨t, _, rfl, SqT.of ht5, rfl, _, _, rfl, _, _, rfl, rfl, ?_⟩
            refine ⟨rfl, _, rfl, _, rfl, _, _, rfl, _, rfl, _, rfl, _, _, rfl, two_ln (by show 2 ≤ _; decide), fun t2 ht2 => ?_⟩
            refine hK rfl _ _ (upd_grow ht2) ⟨t2, j, rfl, hj, ?_⟩
            rw [del_new ho ht2]
            have m1 : (if ((ms.getD j 0 : Nat) : Int) < ((ms.getD (i + 1) 0 : Nat) : Int) then ((ms.getD j 0 : Nat) : Int) else ((ms.getD (i + 1) 0 : Nat) : Int)) = ((min (ms.getD (i + 1) 0) (ms.getD j 0) : Nat) : Int) := by split <;> omega
            have m2 : (if ((ms.getD j 0 : Nat) : Int) > ((ms.getD (i + 1) 0 : Nat) : Int) then ((ms.getD j 0 : Nat) : Int) else ((ms.getD (i + 1) 0 : Nat) : Int)) = ((max (ms.getD (i + 1) 0) (ms.getD j 0) : Nat) : Int) := by split <;> omega
            rw [m1, m2]
            rfl
          · intro zs H5 k5 h5 l5 r5
            rw [filt_all, List.length_range] at l5
            rw [filt_all] at r5
            have hb5 : BoxAt H5 p (c + 2 * n) := by
              have z : BoxAt H5 p (c + 1 + n + (n - 1)) := s4.same (del_sub k5)
              exact z.up (by omega)
            obtain ⟨bxs, hbx, _⟩ := id hb5
            have each : ∀ i, i < n - 1 → ∃ j, j ≤ i ∧ ∃ t, zs[i]? = some (.ref t) ∧ t ≠ p ∧ H5 t = some (.tup [.int ((Tm.mkR (ms.getD (i + 1) 0) (ms.getD j 0)).1 : Nat), .int ((Tm.mkR (ms.getD (i + 1) 0) (ms.getD j 0)).2 : Nat)]) := fun i hi => by
              have lz : i < zs.length := by omega
              obtain ⟨t, j, e, hj, ht⟩ := r5 i i zs[i] (by rw [List.getElem?_eq_getElem (by rw [List.length_range]; omega)]; simp) (List.getElem?_eq_getElem lz)
              have ht2 := del_le _ _ ht
              exact ⟨j, hj, t, by rw [List.getElem?_eq_getElem lz, e], (fun z => by rw [z, hbx] at ht2; cases ht2), ht2⟩
            obtain ⟨js, hjs⟩ : ∃ js : Nat → Nat, ∀ i, i < n - 1 → js (i + 1) ≤ i ∧ ∃ t, zs[i]? = some (.ref t) ∧ t ≠ p ∧ H5 t = some (.tup [.int ((Tm.mkR (ms.getD (i + 1) 0) (ms.getD (js (i + 1)) 0)).1 : Nat), .int ((Tm.mkR (ms.getD (i + 1) 0) (ms.getD (js (i + 1)) 0)).2 : Nat)]) := by
              refine ⟨fun k => if h : k - 1 < n - 1 then Classical.choose (each (k - 1) h) else 0, fun i hi => ?_⟩
              have z := Classical.choose_spec (each i hi)
              have e : (if h : i + 1 - 1 < n - 1 then Classical.choose (each (i + 1 - 1) h) else 0) = Classical.choose (each i hi) := dif_pos (by simpa using hi)
              simp only [e]
              exact z
            let kf : V → Int × Int := fun x => match x with
              | .ref t => match H5 t with
                | some (.tup [.int a, .int b]) => (a, b)
                | _ => (0, 0)
              | _ => (0, 0)
            have kat : ∀ i, i < n - 1 → ∃ t, zs[i]? = some (.ref t) ∧ t ≠ p ∧ H5 t = some (.tup [.int (kf (.ref t)).1, .int (kf (.ref t)).2]) ∧ kf (.ref t) = ((((Tm.mkR (ms.getD (i + 1) 0) (ms.getD (js (i + 1)) 0)).1 : Nat) : Int), (((Tm.mkR (ms.getD (i + 1) 0) (ms.getD (js (i + 1)) 0)).2 : Nat) : Int)) := fun i hi => by
              obtain ⟨_, t, h1, h2, h3⟩ := hjs i hi
              have e : kf (.ref t) = ((((Tm.mkR (ms.getD (i + 1) 0) (ms.getD (js (i + 1)) 0)).1 : Nat) : Int), (((Tm.mkR (ms.getD (i + 1) 0) (ms.getD (js (i + 1)) 0)).2 : Nat) : Int)) := by simp only [kf, h3]
              exact ⟨t, h1, h2, by rw [e]; exact h3, e⟩
            have kmem : ∀ x ∈ zs, ∃ t, x = .ref t ∧ t ≠ p ∧ H5 t = some (.tup [.int (kf x).1, .int (kf x).2]) ∧ ∃ a b : Nat, kf x = ((a : Int), (b : Int)) := fun x hx => by
              obtain ⟨i, hi, e⟩ := List.mem_iff_getElem.mp hx
              obtain ⟨t, h1, h2, h3, h4⟩ := kat i (by omega)
              rw [List.getElem?_eq_getElem hi, e] at h1
              obtain rfl : x = .ref t := Option.some.inj h1
              exact ⟨t, rfl, h2, h3, _, _, h4⟩
            refine ⟨D2, zs, kf, rfl, SqL.of h5, (fun x hx => let ⟨t, a, _, b, _⟩ := kmem x hx; ⟨t, a, b⟩), fun ys' p' srt stb hp' => ?_⟩
            have pm' := stb.perm
            have ymem : ∀ x ∈ ys', ∃ t, x = .ref t ∧ t ≠ p ∧ H5 t = some (.tup [.int (kf x).1, .int (kf x).2]) ∧ ∃ a b : Nat, kf x = ((a : Int), (b : Int)) := fun x hx => kmem x (pm'.mem_iff.mp hx)
            let road : V → Tm.Road := fun y => ((kf y).1.toNat, (kf y).2.toNat)
            have zr : zs.map road = (List.range (n - 1)).map fun i => Tm.mkR (ms.getD (i + 1) 0) (ms.getD (js (i + 1)) 0) := by
              apply List.ext_getElem
              · simp; omega
              · intro i h1 h2
                have hi : i < n - 1 := by simpa using h2
                obtain ⟨t, e1, _, _, e4⟩ := kat i hi
                have lz : i < zs.length := by omega
                rw [List.getElem?_eq_getElem lz] at e1
                have e1 := Option.some.inj e1
                rw [List.getElem_map, List.getElem_map, List.getElem_range, e1]
                simp only [road, e4, Int.toNat_natCast]
            obtain ⟨ok, jo⟩ := Tm.tree_of (ms := ms) (js := js) (rs := ys'.map road) n1 lens nd bdm (fun i hi => (hjs i (by omega)).1) (by rw [← zr]; exact pm'.map road) (by
              refine List.pairwise_map.mpr (srt.imp_of_mem fun {x y} hx hy e => ?_)
              obtain ⟨_, _, _, _, a, b, ex⟩ := ymem x hx
              obtain ⟨_, _, _, _, a2, b2, ey⟩ := ymem y hy
              simp only [ltP, ex, ey] at e
              have e : ¬ SrtO.lexB ((a2 : Int), (b2 : Int)) ((a : Int), (b : Int)) = true := by rw [e]; exact Bool.false_ne_true
              rw [SrtO.lexB_iff] at e
              simp only [road, ex, ey, Int.toNat_natCast, Tm.ltR]
              simp only at e
              have c1 : ¬ (a2 < a ∨ a2 = a ∧ b2 < b) := fun z => e (by omega)
              simpa using c1)
            have hp5 : p ≠ p' := fun z => by rw [← z, hbx] at hp'; cases hp'
            refine q (ys'.map road) p' _ ok jo (fun b o nb e => ?_) (hb5.eq (upd_ne hp5)) ?_ hp5.symm (.lst (by rw [del_ne hp5.symm, upd_same]) ?_)
            · have z := del_sub k5 _ _ (keep nb (k3 _ _ nb e))
              rw [upd_ne (ne_of_none z hp')]
              exact z
            · cases e : H p' with
              | none => rfl
              | some o => rw [del_sub k5 _ _ (keep hp5.symm (k3 _ _ hp5.symm e))] at hp'; cases hp'
            · refine rdds_of (by simp) fun i y d hy hd => ?_
              rw [List.map_map, List.getElem?_map, hy] at hd
              obtain rfl := Option.some.inj hd
              obtain ⟨t, rfl, nt, ht, a, b, ek⟩ := ymem y (List.mem_of_getElem? hy)
              have e : rd (road (.ref t)) = .tuple [.int (kf (.ref t)).1, .int (kf (.ref t)).2] := by simp only [rd, road, ek, Int.toNat_natCast]
              show Rdd _ _ (rd (road (.ref t)))
              rw [e]
              exact .tup (by rw [del_ne nt, upd_ne (ne_of_none ht hp')]; exact ht) (.cons (.int _) (.cons (.int _) .nil))
    · rintro σ H1 Q1 Q2 h ⟨v, hv, hz⟩
      refine ⟨v, hv, hz.1, fun pe hpe => ?_⟩
      obtain ⟨d1, d2, a1, a2, a3, a4, k, hk, q⟩ := hz.2 pe hpe
      exact ⟨d1, d2, a1, a2, a3, a4, k, hk, h _ _ q⟩
end
end K03

/-! numbers as signs, there and back -/
namespace Tn
open PySem PySem.NumText TL
/-- the signs of a number -/
def dg (n : Nat) : List Nat := (Nat.toDigits 10 n).map Char.toNat
theorem dg_all (n : Nat) : AllDigits (dg n) := by
  intro c hc
  obtain ⟨ch, hch, e⟩ := List.mem_map.mp hc
  have r := PyProof.Rows.digit_range (Nat.isDigit_of_mem_toDigits (by decide) (by decide) hch)
  rw [← e]
  exact r
theorem dg_ne (n : Nat) : dg n ≠ [] := by
  intro e
  have h := PySem.toDigits_len_ge 10 n
  rw [List.map_eq_nil_iff.mp e] at h
  exact absurd h (by decide)
theorem dg_val (n : Nat) : digitsVal (dg n) = n := PySem.W.KIN.val_back n
/-- no zero ahead -/
def Canon (cs : List Nat) : Prop := cs = [48] ∨ cs.head? ≠ some 48
instance (cs : List Nat) : Decidable (Canon cs) := inferInstanceAs (Decidable (_ ∨ _))
theorem dg_small {n : Nat} (h : n < 10) : dg n = [48 + n] := by
  unfold dg
  rw [Nat.toDigits_of_lt_base h, digitChar_of n h]
  have : ∀ d : Nat, d < 10 → [(Char.ofNat (48 + d)).toNat] = [48 + d] := by decide
  exact this n h
theorem dg_step {n : Nat} (h : 10 ≤ n) : dg n = dg (n / 10) ++ dg (n % 10) := by
  have hm : n % 10 < 10 := Nat.mod_lt n (by decide)
  have t : Nat.toDigits 10 (n / 10) ++ Nat.toDigits 10 (n % 10) = Nat.toDigits 10 (10 * (n / 10) + n % 10) := Nat.toDigits_append_toDigits (by decide) (by omega) hm
  rw [Nat.div_add_mod] at t
  unfold dg
  rw [← t, List.map_append]
theorem dg_head (n : Nat) (h : 0 < n) : (dg n).head? ≠ some 48 := by
  induction n using Nat.strongRecOn with
  | _ n ih =>
    by_cases c : n < 10
    · rw [dg_small c]
      simp
      omega
    · rw [dg_step (by omega)]
      have i := ih (n / 10) (by omega) (by omega)
      cases e : dg (n / 10) with
      | nil => exact absurd e (dg_ne _)
      | cons a l => rw [e] at i; simpa using i
theorem dg_canon (n : Nat) : Canon (dg n) := by
  by_cases h : n = 0
  · subst h
    exact .inl (dg_small (by decide))
  · exact .inr (dg_head n (by omega))
theorem canon_dg {cs : List Nat} (h : AllDigits cs) (ne : cs ≠ []) (c : Canon cs) : dg (digitsVal cs) = cs := by
  have l : ∃ n, cs.length = n + 1 := ⟨cs.length - 1, by have := List.length_pos_iff.mpr ne; omega⟩
  obtain ⟨n, l⟩ := l
  have k := toDigits_digitsVal n cs l h ?_
  · unfold dg
    rw [k, List.map_map]
    conv => rhs; rw [← List.map_id cs]
    apply List.map_congr_left
    intro a ha
    have r := h a ha
    have : ∀ d : Nat, d < 58 → (Char.ofNat d).toNat = d := by decide
    exact this a (by omega)
  · rcases c with c | c
    · subst c
      left
      simpa using l.symm
    · right
      cases cs with
      | nil => exact absurd rfl ne
      | cons a r =>
        refine ⟨a, r, rfl, ?_⟩
        have := h.head
        have : a ≠ 48 := fun z => c (by rw [z]; rfl)
        omega
theorem dg_inj {a b : Nat} (h : dg a = dg b) : a = b := by
  rw [← dg_val a, ← dg_val b, h]
/-- a number's signs, each of it looked at -/
def isNum (cs : List Nat) : Bool := decide (cs ≠ []) && (cs.all (fun c => decide (48 ≤ c) && decide (c ≤ 57)) && decide (Canon cs))
theorem isNum_iff {cs : List Nat} : isNum cs = true ↔ ∃ n, cs = dg n := by
  unfold isNum
  simp only [Bool.and_eq_true, decide_eq_true_eq, List.all_eq_true]
  constructor
  · rintro ⟨h1, h2, h3⟩
    exact ⟨digitsVal cs, (canon_dg (fun c hc => h2 c hc) h1 h3).symm⟩
  · rintro ⟨n, rfl⟩
    exact ⟨dg_ne n, dg_all n, dg_canon n⟩
theorem dg_len {n : Nat} (h : n < 100) : (dg n).length ≤ 2 := by
  have : ∀ n : Nat, n < 100 → (dg n).length ≤ 2 := by decide +kernel
  exact this n h
theorem dg_two {n : Nat} (h : (dg n).length ≤ 2) : n < 100 := by
  by_cases c : n < 100
  · exact c
  · have e := dg_step (n := n) (by omega)
    have e2 := dg_step (n := n / 10) (by omega)
    have l0 : ∀ m, 1 ≤ (dg m).length := fun m => List.length_pos_iff.mpr (dg_ne m)
    rw [e, e2, List.length_append, List.length_append] at h
    have := l0 (n / 10 / 10)
    have := l0 (n / 10 % 10)
    have := l0 (n % 10)
    omega
theorem dg_free {n k : Nat} (h : k < 48 ∨ 57 < k) : k ∉ dg n := fun m => by
  have := dg_all n k m
  omega
/-- the text of a number -/
theorem num_tl (n : Nat) : tl (Str.ofString (toString ((n : Nat) : Int))) = dg n := PySem.W.KIN.signs_num n
theorem int_num {x : Str} {n : Nat} (h : tl x = dg n) (l : x.length ≤ 640) : PySem.intText? x = some (n : Int) := by
  have a : AllDigits x.cps.toList := by
    show AllDigits (tl x)
    rw [h]
    exact dg_all n
  have ne : x.cps.toList ≠ [] := by
    show tl x ≠ []
    rw [h]
    exact dg_ne n
  rw [intText_digits a ne (by omega)]
  show some ((digitsVal (tl x) : Nat) : Int) = _
  rw [h, dg_val]
/-! ### one separator -/
theorem pre_one (s c : Nat) (r : List Nat) : pre [s] (c :: r) = decide (c = s) := by
  show ([c] == [s]) = _
  by_cases h : c = s
  · subst h; simp
  · rw [decide_eq_false h]
    simp [h]
theorem joinL_cons {S p : List Nat} {l : List (List Nat)} (h : l ≠ []) : joinL S (p :: l) = p ++ (S ++ joinL S l) := by
  cases l with
  | nil => exact absurd rfl h
  | cons q r => rfl
theorem spl_ne (s : Nat) : ∀ (acc l : List Nat), spl [s] 0 acc l ≠ []
  | acc, [] => by rw [spl_nil]; simp
  | acc, c :: r => by
    by_cases h : c = s
    · rw [spl_hit (by rw [pre_one]; exact decide_eq_true h)]
      simp
    · rw [spl_miss (by rw [pre_one]; exact decide_eq_false h)]
      exact spl_ne s _ r
theorem join_spl (s : Nat) : ∀ (acc l : List Nat), joinL [s] (spl [s] 0 acc l) = acc ++ l
  | acc, [] => by rw [spl_nil, List.append_nil]; rfl
  | acc, c :: r => by
    by_cases h : c = s
    · rw [spl_hit (by rw [pre_one]; exact decide_eq_true h)]
      show joinL [s] (acc :: spl [s] 0 [] r) = _
      rw [joinL_cons (spl_ne s _ _), join_spl s [] r, h]
      rfl
    · rw [spl_miss (by rw [pre_one]; exact decide_eq_false h), join_spl s _ r, List.append_assoc]
      rfl
theorem spl_free (s : Nat) : ∀ (acc l : List Nat), s ∉ acc → ∀ p ∈ spl [s] 0 acc l, s ∉ p
  | acc, [], h, p, hp => by
    rw [spl_nil, List.mem_singleton] at hp
    rw [hp]
    exact h
  | acc, c :: r, h, p, hp => by
    by_cases e : c = s
    · rw [spl_hit (by rw [pre_one]; exact decide_eq_true e)] at hp
      rcases List.mem_cons.mp hp with rfl | hp
      · exact h
      · exact spl_free s [] r (by simp) p hp
    · rw [spl_miss (by rw [pre_one]; exact decide_eq_false e)] at hp
      refine spl_free s _ r (fun m => ?_) p hp
      rcases List.mem_append.mp m with m | m
      · exact h m
      · exact e (List.mem_singleton.mp m).symm
/-- a text's words, by the sign s -/
abbrev parts (s : Nat) (l : List Nat) : List (List Nat) := spl [s] 0 [] l
theorem join_parts (s : Nat) (l : List Nat) : joinL [s] (parts s l) = l := by
  rw [join_spl, List.nil_append]
theorem parts_join {s : Nat} {ps : List (List Nat)} (h : ps ≠ []) (f : ∀ p ∈ ps, s ∉ p) : parts s (joinL [s] ps) = ps := spl_join h f
theorem parts_len (s : Nat) : ∀ (acc l : List Nat), ∀ p ∈ spl [s] 0 acc l, p.length ≤ acc.length + l.length
  | acc, [], p, hp => by
    rw [spl_nil, List.mem_singleton] at hp
    rw [hp]
    simp
  | acc, c :: r, p, hp => by
    by_cases e : c = s
    · rw [spl_hit (by rw [pre_one]; exact decide_eq_true e)] at hp
      rcases List.mem_cons.mp hp with rfl | hp
      · omega
      · have := parts_len s [] r p hp
        simp only [List.length_cons, List.length_nil] at this ⊢
        omega
    · rw [spl_miss (by rw [pre_one]; exact decide_eq_false e)] at hp
      have := parts_len s _ r p hp
      simp only [List.length_append, List.length_cons, List.length_nil] at this ⊢
      omega
theorem parts_many (s : Nat) : ∀ (acc l : List Nat), (spl [s] 0 acc l).length ≤ l.length + 1
  | acc, [] => by rw [spl_nil]; simp
  | acc, c :: r => by
    by_cases e : c = s
    · rw [spl_hit (by rw [pre_one]; exact decide_eq_true e)]
      have := parts_many s [] r
      show (acc :: spl [s] 0 [] r).length ≤ _
      simp only [List.length_cons] at this ⊢
      omega
    · rw [spl_miss (by rw [pre_one]; exact decide_eq_false e)]
      have := parts_many s (acc ++ [c]) r
      simp only [List.length_cons] at this ⊢
      omega
/-- two parts -/
theorem par_some {s : Nat} : ∀ (acc : List Nat) {l a b : List Nat}, s ∉ acc → par [s] acc l = some (a, b) → acc ++ l = a ++ s :: b ∧ s ∉ a
  | acc, [], a, b, _, h => by cases h
  | acc, c :: r, a, b, n, h => by
    by_cases e : c = s
    · rw [par_hit (by rw [pre_one]; exact decide_eq_true e)] at h
      cases h
      subst e
      exact ⟨rfl, n⟩
    · rw [par_miss (by rw [pre_one]; exact decide_eq_false e)] at h
      obtain ⟨h1, h2⟩ := par_some (acc ++ [c]) (l := r) (fun m => by
        rcases List.mem_append.mp m with m | m
        · exact n m
        · exact e (List.mem_singleton.mp m).symm) h
      refine ⟨?_, h2⟩
      rw [← h1, List.append_assoc]
      rfl
theorem par_of {s : Nat} {a b : List Nat} (n : s ∉ a) : par [s] [] (a ++ s :: b) = some (a, b) := by
  have := par_part1 (S := []) (rest := b) (acc := []) n
  simpa using this
theorem par_non {s : Nat} : ∀ (acc : List Nat) {l : List Nat}, par [s] acc l = none → s ∉ l
  | acc, [], _ => by simp
  | acc, c :: r, h => by
    by_cases e : c = s
    · rw [par_hit (by rw [pre_one]; exact decide_eq_true e)] at h
      cases h
    · rw [par_miss (by rw [pre_one]; exact decide_eq_false e)] at h
      intro m
      rcases List.mem_cons.mp m with m | m
      · exact e m.symm
      · exact par_non _ h m
end Tn

namespace Tm
/-! ways in a tree, from any house -/
theorem Up.head {b : B} {s x : Nat} {l : List Nat} (u : Up b s x l) : l.head? = some x := by cases u <;> rfl
/-- step by step -/
theorem Up.get {b : B} {s x : Nat} {l : List Nat} (u : Up b s x l) : ∀ i (h : i < l.length), (i + 1 < l.length → ∃ h2 : i + 1 < l.length, (l[i], l[i + 1]) ∈ b ∧ l[i] ≠ s) ∧ (i + 1 = l.length → l[i] = s) := by
  induction u with
  | here =>
    intro i h
    simp only [List.length_cons, List.length_nil] at h
    have : i = 0 := by omega
    subst this
    exact ⟨fun z => by simp at z, fun _ => rfl⟩
  | @step x p l ne m u ih =>
    intro i h
    cases i with
    | zero =>
      cases u with
      | here => exact ⟨fun z => ⟨z, m, ne⟩, fun z => by simp at z⟩
      | step a c d => exact ⟨fun z => ⟨z, m, ne⟩, fun z => by simp at z⟩
    | succ i =>
      have h' : i < l.length := by simpa using h
      obtain ⟨h1, h2⟩ := ih i h'
      refine ⟨fun z => ?_, fun z => ?_⟩
      · have z' : i + 1 < l.length := by simpa using z
        obtain ⟨z2, e1, e2⟩ := h1 z'
        exact ⟨z, e1, e2⟩
      · have z' : i + 1 = l.length := by simpa using z
        exact h2 z'
/-- from any house all others are reached -/
theorem joined_from {n : Nat} {rs : List Road} (ok : RoadsOk n rs) (j : Joined n rs) {s : Nat} (hs : s < n) {r : B} (d : Dfs (near rs) none [(s, s)] [s] r) : ∀ x, x < n → x ∈ keys r := by
  obtain ⟨b, d0, e⟩ := j
  have G0 := d0.going .start
  have G := d.going .start
  have ne : ∀ r ∈ rs, r.1 < r.2 := fun r hr => (ok.bnd r hr).1
  have lt : ∀ h, ∀ x ∈ near rs h, x < n := fun h x hx => (near_lt ok.bnd hx).1
  have n0 : 0 < n := by omega
  have cl : ∀ x y, x ∈ keys r → y ∈ near rs x → y ∈ keys r := fun x y hx hy => G.c x hx (fun z => nomatch z) y hy (fun z => nomatch z)
  have key : ∀ b : B, Grown (near rs) none 0 b → ∀ x ∈ keys b, (x ∈ keys r ↔ 0 ∈ keys r) := by
    intro b g
    induction g with
    | base =>
      intro x hx
      simp [keys] at hx
      rw [hx]
    | @grow b x p g hp hx nb nk ih =>
      intro y hy
      rw [keys_snoc] at hy
      rcases List.mem_append.mp hy with hy | hy
      · exact ih y hy
      · simp at hy
        subst hy
        rw [← ih p hp]
        exact ⟨fun z => cl _ _ z (near_sym ne hx), fun z => cl _ _ z hx⟩
  have all := all_keys G0.g.nodup (G0.g.bound n0 lt) (by simpa [keys] using e)
  intro x hx
  rw [key b G0.g x (all x hx), ← key b G0.g s (all s hs)]
  exact G.g.start
/-- l is the way from a to b -/
def Way (rs : List Road) (a b : Nat) (l : List Nat) : Prop := ∃ r, Dfs (near rs) none [(b, b)] [b] r ∧ Up r b a l
theorem Way.det {rs : List Road} {a b : Nat} {l l' : List Nat} (h : Way rs a b l) (k : Way rs a b l') : l = l' := by
  obtain ⟨r, d, u⟩ := h
  obtain ⟨r', d', u'⟩ := k
  have := d.det d'
  subst this
  exact u.det (d.going .start).g.nodup u'
theorem way_path {n : Nat} {rs : List Road} {a b : Nat} {l : List Nat} (ok : RoadsOk n rs) (j : Joined n rs) (ha : a < n) (hb : b < n) (h : Way rs a b l) : Path (near rs) a b l ∧ ∀ x ∈ l, x < n := by
  obtain ⟨r, d, u⟩ := h
  have G := d.going .start
  have lt : ∀ h, ∀ x ∈ near rs h, x < n := fun h x hx => (near_lt ok.bnd hx).1
  obtain ⟨l', u', p, sub⟩ := G.g.up a (joined_from ok j hb d a ha)
  have := u.det G.g.nodup u'
  subst this
  exact ⟨p, fun x hx => G.g.bound hb lt x (sub x hx)⟩
theorem way_ex {n : Nat} {rs : List Road} {a b : Nat} (ok : RoadsOk n rs) (j : Joined n rs) (ha : a < n) (hb : b < n) : ∃ l, Way rs a b l := by
  have lt : ∀ h, ∀ x ∈ near rs h, x < n := fun h x hx => (near_lt ok.bnd hx).1
  obtain ⟨r, d, G⟩ := dfs_all (nr := near rs) (bar := none) hb lt
  obtain ⟨l, u, _⟩ := G.g.up a (joined_from ok j hb d a ha)
  exact ⟨l, r, d, u⟩
/-- the foot of c on the way from a to b -/
theorem way_foot {n : Nat} {rs : List Road} {a b c : Nat} {L M1 M2 : List Nat} (ok : RoadsOk n rs) (j : Joined n rs) (ha : a < n) (hb : b < n) (hc : c < n) (h : Way rs a b L) (h1 : Way rs c a M1) (h2 : Way rs c b M2) :
    ∃ m, (M1.filter fun h => decide (h ∈ L)).head? = some m ∧ (L.filter fun h => decide (h ∈ M1) && decide (h ∈ M2)).head? = some m ∧ m ∈ L := by
  obtain ⟨b0, R⟩ := rooted ok j
  exact foot_eq R hb hc (way_path ok j ha hb h).1 (way_path ok j hc ha h1).1 (way_path ok j hc hb h2).1
/-- sorted lists with the same items are equal -/
theorem sort_one : ∀ {l l' : List Int}, l.Perm l' → l.Pairwise (· ≤ ·) → l'.Pairwise (· ≤ ·) → l = l'
  | [], l', p, _, _ => by rw [List.nil_perm.mp p]
  | a :: l, [], p, _, _ => by have := p.length_eq; simp at this
  | a :: l, b :: l', p, h, h' => by
    have h1 := List.pairwise_cons.mp h
    have h2 := List.pairwise_cons.mp h'
    have e : a = b := by
      have m1 : a ∈ b :: l' := p.mem_iff.mp List.mem_cons_self
      have m2 : b ∈ a :: l := p.mem_iff.mpr List.mem_cons_self
      have l1 : b ≤ a := by
        rcases List.mem_cons.mp m1 with z | z
        · omega
        · exact h2.1 a z
      have l2 : a ≤ b := by
        rcases List.mem_cons.mp m2 with z | z
        · omega
        · exact h1.1 b z
      omega
    subst e
    rw [sort_one (List.perm_cons a |>.mp p) h1.2 h2.2]
end Tm

/-! trees as lines of signs -/
namespace Tn
open PySem PySem.NumText TL
def wordL (r : Tm.Road) : List Nat := dg r.1 ++ 45 :: dg r.2
def headL (n : Nat) : List Nat := dg n ++ [58]
def lineL (n : Nat) (rs : List Tm.Road) : List Nat := joinL [32] (headL n :: rs.map wordL)
/-- z is the line of the tree n, rs -/
structure Reads (z : List Nat) (n : Nat) (rs : List Tm.Road) : Prop where
  eq : z = lineL n rs
  ge : 1 ≤ n
  le : n ≤ 64
  ok : Tm.RoadsOk n rs
  jo : Tm.Joined n rs
theorem word_free (r : Tm.Road) : 32 ∉ wordL r := fun m => by
  unfold wordL at m
  rcases List.mem_append.mp m with m | m
  · exact dg_free (.inl (by decide)) m
  · rcases List.mem_cons.mp m with m | m
    · cases m
    · exact dg_free (.inl (by decide)) m
theorem head_free (n : Nat) : 32 ∉ headL n := fun m => by
  unfold headL at m
  rcases List.mem_append.mp m with m | m
  · exact dg_free (.inl (by decide)) m
  · simp at m
theorem parts_line (n : Nat) (rs : List Tm.Road) : parts 32 (lineL n rs) = headL n :: rs.map wordL := by
  refine parts_join (by simp) fun p hp => ?_
  rcases List.mem_cons.mp hp with rfl | hp
  · exact head_free n
  · obtain ⟨r, _, rfl⟩ := List.mem_map.mp hp
    exact word_free r
theorem app_one {a b c d : List Nat} {s : Nat} (h : a ++ s :: b = c ++ s :: d) (na : s ∉ a) (nc : s ∉ c) : a = c ∧ b = d := by
  have h1 := par_of (b := b) na
  rw [h, par_of nc] at h1
  have := Option.some.inj h1
  exact ⟨(Prod.mk.inj this).1.symm, (Prod.mk.inj this).2.symm⟩
theorem dash_free (n : Nat) : 45 ∉ dg n := dg_free (.inl (by decide))
theorem word_inj {r q : Tm.Road} (h : wordL r = wordL q) : r = q := by
  obtain ⟨h1, h2⟩ := app_one h (dash_free _) (dash_free _)
  exact Prod.ext (dg_inj h1) (dg_inj h2)
theorem head_inj {n m : Nat} (h : headL n = headL m) : n = m := by
  unfold headL at h
  exact dg_inj (List.append_cancel_right h)
theorem map_word_inj : ∀ {rs qs : List Tm.Road}, rs.map wordL = qs.map wordL → rs = qs
  | [], [], _ => rfl
  | [], _ :: _, h => by simp at h
  | _ :: _, [], h => by simp at h
  | a :: rs, b :: qs, h => by
    rw [List.map_cons, List.map_cons] at h
    injection h with h1 h2
    rw [word_inj h1, map_word_inj h2]
theorem line_inj {n m : Nat} {rs qs : List Tm.Road} (h : lineL n rs = lineL m qs) : n = m ∧ rs = qs := by
  have e := congrArg (parts 32) h
  rw [parts_line, parts_line] at e
  injection e with h1 h2
  exact ⟨head_inj h1, map_word_inj h2⟩
theorem Reads.inj {z : List Nat} {n m : Nat} {rs qs : List Tm.Road} (h : Reads z n rs) (k : Reads z m qs) : n = m ∧ rs = qs := line_inj (h.eq.symm.trans k.eq)
theorem parts_word (r : Tm.Road) : parts 45 (wordL r) = [dg r.1, dg r.2] := by
  have e : wordL r = joinL [45] [dg r.1, dg r.2] := rfl
  rw [e]
  refine parts_join (by simp) fun p hp => ?_
  simp only [List.mem_cons, List.not_mem_nil, or_false] at hp
  rcases hp with rfl | rfl <;> exact dash_free _
theorem word_of {w a b : List Nat} (h : parts 45 w = [a, b]) : w = a ++ 45 :: b := by
  rw [← join_parts 45 w, h]
  rfl
theorem par_word (r : Tm.Road) : par [45] [] (wordL r) = some (dg r.1, dg r.2) := par_of (dash_free _)
/-- z's words are those of a line -/
theorem line_of {z : List Nat} {n : Nat} {rs : List Tm.Road} (h : parts 32 z = headL n :: rs.map wordL) : z = lineL n rs := by
  rw [← join_parts 32 z, h]
  rfl
theorem joinL_flat (s : Nat) : ∀ (p : List Nat) (ps : List (List Nat)), joinL [s] (p :: ps) = p ++ (ps.map (s :: ·)).flatten
  | p, [] => by simp [joinL]
  | p, q :: ps => by
    rw [joinL_cons (by simp), joinL_flat s q ps]
    simp
theorem joinL_nil : ∀ (ps : List (List Nat)), joinL [] ps = ps.flatten
  | [] => rfl
  | [p] => by simp [joinL]
  | p :: q :: r => by
    rw [joinL_cons (by simp), joinL_nil (q :: r)]
    simp
theorem line_flat (n : Nat) (rs : List Tm.Road) : lineL n rs = headL n ++ (rs.map fun r => 32 :: wordL r).flatten := by
  unfold lineL
  rw [joinL_flat, List.map_map]
  rfl
theorem word_len {r : Tm.Road} (h1 : r.1 < 100) (h2 : r.2 < 100) : (wordL r).length ≤ 5 := by
  have := dg_len h1
  have := dg_len h2
  unfold wordL
  rw [List.length_append, List.length_cons]
  omega
theorem head_len {n : Nat} (h : n < 100) : (headL n).length ≤ 3 := by
  have := dg_len h
  unfold headL
  rw [List.length_append]
  simp only [List.length_cons, List.length_nil]
  omega
theorem flat_len : ∀ {rs : List Tm.Road}, (∀ r ∈ rs, r.1 < 100 ∧ r.2 < 100) → ((rs.map fun r => 32 :: wordL r).flatten).length ≤ 6 * rs.length
  | [], _ => by simp
  | r :: rs, h => by
    have h1 := h r List.mem_cons_self
    have := word_len h1.1 h1.2
    have := flat_len (rs := rs) fun q hq => h q (List.mem_cons_of_mem _ hq)
    simp only [List.map_cons, List.flatten_cons, List.length_append, List.length_cons] at this ⊢
    omega
theorem line_len {n : Nat} {rs : List Tm.Road} (h : n < 100) (b : ∀ r ∈ rs, r.1 < 100 ∧ r.2 < 100) : (lineL n rs).length ≤ 3 + 6 * rs.length := by
  rw [line_flat, List.length_append]
  have := head_len h
  have := flat_len b
  omega
/-! ### joined, by lots that are drawn together -/
def mrg (lot : List Nat) (r : Tm.Road) : List Nat := lot.map fun one => if one = lot.getD r.1 0 then lot.getD r.2 0 else one
def lots (n : Nat) (rs : List Tm.Road) : List Nat := rs.foldl mrg (List.range n)
theorem mrg_len (lot : List Nat) (r : Tm.Road) : (mrg lot r).length = lot.length := List.length_map _
theorem mrg_get {lot : List Nat} {r : Tm.Road} {a : Nat} (h : a < lot.length) : (mrg lot r).getD a 0 = if lot.getD a 0 = lot.getD r.1 0 then lot.getD r.2 0 else lot.getD a 0 := by
  unfold mrg
  rw [List.getD_eq_getElem?_getD, List.getElem?_map, List.getElem?_eq_getElem h]
  have e : lot.getD a 0 = lot[a] := by rw [List.getD_eq_getElem?_getD, List.getElem?_eq_getElem h]; rfl
  rw [e]
  rfl
theorem lots_snoc (n : Nat) (rs : List Tm.Road) (r : Tm.Road) : lots n (rs ++ [r]) = mrg (lots n rs) r := by
  unfold lots
  rw [List.foldl_append]
  rfl
theorem fold_len : ∀ (rs : List Tm.Road) (lot : List Nat), (rs.foldl mrg lot).length = lot.length
  | [], _ => rfl
  | r :: rs, lot => by
    rw [List.foldl_cons, fold_len rs, mrg_len]
theorem lots_len (n : Nat) (rs : List Tm.Road) : (lots n rs).length = n := by
  unfold lots
  rw [fold_len, List.length_range]
theorem fold_keep {a b : Nat} : ∀ (rs : List Tm.Road) (lot : List Nat), a < lot.length → b < lot.length → lot.getD a 0 = lot.getD b 0 → (rs.foldl mrg lot).getD a 0 = (rs.foldl mrg lot).getD b 0
  | [], _, _, _, h => h
  | r :: rs, lot, ha, hb, h => by
    rw [List.foldl_cons]
    refine fold_keep rs _ (by rw [mrg_len]; exact ha) (by rw [mrg_len]; exact hb) ?_
    rw [mrg_get ha, mrg_get hb, h]
theorem fold_road {u v : Nat} : ∀ (rs : List Tm.Road) (lot : List Nat), u < lot.length → v < lot.length → (u, v) ∈ rs → (rs.foldl mrg lot).getD u 0 = (rs.foldl mrg lot).getD v 0
  | r :: rs, lot, ha, hb, h => by
    rw [List.foldl_cons]
    rcases List.mem_cons.mp h with rfl | h
    · refine fold_keep rs _ (by rw [mrg_len]; exact ha) (by rw [mrg_len]; exact hb) ?_
      rw [mrg_get ha, mrg_get hb, if_pos rfl]
      simp only
      split <;> rfl
    · exact fold_road rs _ (by rw [mrg_len]; exact ha) (by rw [mrg_len]; exact hb) h
theorem fold_sound {n : Nat} {S : List Nat} : ∀ (rs : List Tm.Road) (lot : List Nat), lot.length = n → (∀ r ∈ rs, r.1 < n ∧ r.2 < n ∧ (r.1 ∈ S ↔ r.2 ∈ S)) → (∀ a b, a < n → b < n → lot.getD a 0 = lot.getD b 0 → (a ∈ S ↔ b ∈ S)) →
    ∀ a b, a < n → b < n → (rs.foldl mrg lot).getD a 0 = (rs.foldl mrg lot).getD b 0 → (a ∈ S ↔ b ∈ S)
  | [], _, _, _, h => h
  | r :: rs, lot, hl, hr, h => by
    rw [List.foldl_cons]
    have ⟨r1, r2, r3⟩ := hr r List.mem_cons_self
    refine fold_sound rs _ (by rw [mrg_len]; exact hl) (fun q hq => hr q (List.mem_cons_of_mem _ hq)) fun a b ha hb e => ?_
    rw [mrg_get (by omega), mrg_get (by omega)] at e
    by_cases c1 : lot.getD a 0 = lot.getD r.1 0
    · by_cases c2 : lot.getD b 0 = lot.getD r.1 0
      · exact h a b ha hb (c1.trans c2.symm)
      · rw [if_pos c1, if_neg c2] at e
        exact (h a r.1 ha r1 c1).trans (r3.trans (h r.2 b r2 hb e))
    · by_cases c2 : lot.getD b 0 = lot.getD r.1 0
      · rw [if_neg c1, if_pos c2] at e
        exact (h a r.2 ha r2 e).trans (r3.symm.trans (h b r.1 hb r1 c2).symm)
      · rw [if_neg c1, if_neg c2] at e
        exact h a b ha hb e
theorem joined_iff {n : Nat} {rs : List Tm.Road} (ok : Tm.RoadsOk n rs) : Tm.Joined n rs ↔ ∀ a, a < n → (lots n rs).getD a 0 = (lots n rs).getD 0 0 := by
  have n0 : 0 < n := by have := ok.len; omega
  have lt : ∀ h, ∀ x ∈ Tm.near rs h, x < n := fun h x hx => (Tm.near_lt ok.bnd hx).1
  have ne : ∀ r ∈ rs, r.1 < r.2 := fun r hr => (ok.bnd r hr).1
  have rl : (List.range n).length = n := List.length_range
  constructor
  · rintro ⟨b, hd, hb⟩ a ha
    have G := hd.going (s := 0) .start
    have key : ∀ x ∈ Tm.keys b, (lots n rs).getD x 0 = (lots n rs).getD 0 0 := by
      have gr := G.g
      generalize b = b' at gr
      induction gr with
      | base =>
        intro x hx
        simp [Tm.keys] at hx
        rw [hx]
      | @grow b x p g hp hx _ _ ih =>
        intro y hy
        rw [Tm.keys_snoc] at hy
        rcases List.mem_append.mp hy with hy | hy
        · exact ih y hy
        · rw [List.mem_singleton.mp hy, ← ih p hp]
          have := (Tm.near_lt ok.bnd hx)
          rcases Tm.mem_near hx with m | m
          · exact (fold_road rs _ (by rw [rl]; omega) (by rw [rl]; omega) m).symm
          · exact fold_road rs _ (by rw [rl]; omega) (by rw [rl]; omega) m
    exact key a (Tm.joined_from ok ⟨b, hd, hb⟩ n0 hd a ha)
  · intro h
    obtain ⟨b, hd, G⟩ := Tm.dfs_all (nr := Tm.near rs) (bar := none) n0 lt
    refine ⟨b, hd, ?_⟩
    have cl : ∀ {x y : Nat}, x ∈ Tm.keys b → y ∈ Tm.near rs x → y ∈ Tm.keys b := fun {x y} hx hy => G.c x hx (by simp) y hy (by simp)
    have snd := fold_sound (n := n) (S := Tm.keys b) rs (List.range n) rl (fun r hr => by
      have bd := ok.bnd r hr
      refine ⟨by omega, bd.2, fun m => cl m (Tm.near_of ne (.inl hr)), fun m => cl m (Tm.near_of ne (.inr hr))⟩) (fun a c ha hc e => by
      have g : ∀ a, a < n → (List.range n).getD a 0 = a := fun a ha => by
        rw [List.getD_eq_getElem?_getD, List.getElem?_eq_getElem (by rw [rl]; exact ha)]
        simp
      rw [g a ha, g c hc] at e
      rw [e])
    have all : ∀ a, a < n → a ∈ Tm.keys b := fun a ha => (snd a 0 ha n0 (h a ha)).mpr G.g.start
    have up := G.room n0 lt
    have dn : n ≤ b.length := by
      have c2 : ∀ (l m : List Nat), l.Nodup → (∀ x ∈ l, x ∈ m) → l.length ≤ m.length := by
        intro l
        induction l with
        | nil => intro m _ _; exact Nat.zero_le _
        | cons a l ih =>
          intro m d s
          have d' := List.nodup_cons.mp d
          have ha := s a List.mem_cons_self
          have l1 := List.length_erase_of_mem ha
          have l2 := List.length_pos_of_mem ha
          have i := ih (m.erase a) d'.2 fun y hy => (List.mem_erase_of_ne fun q => d'.1 (by rw [← q]; exact hy)).mpr (s y (List.mem_cons_of_mem _ hy))
          rw [List.length_cons]
          omega
      have := c2 (List.range n) (Tm.keys b) List.nodup_range fun x hx => all x (List.mem_range.mp hx)
      rw [rl] at this
      simpa [Tm.keys] using this
    omega
end Tn

namespace L2
open PySem PySem.Spec PyProof.Rows
/-- f'..' of more than one part -/
def tJn (ts : List TE) : TE := fun σ H Q => tJs ts Str.empty σ H fun out H1 => Q (.str out) H1
theorem pe_joinN {X : Cx} {v1 v2 : Expr} {rest : List Expr} {ts : List TE} {pos : Pos} (h : PJ X (v1 :: v2 :: rest) ts) : PE X (.JoinedStr (v1 :: v2 :: rest) pos) (tJn ts) := pe_joined h
end L2
namespace K03
open PySem PySem.Spec PyProof.Rows L2 Tn TL
abbrev sIsNum : Stmt := top 11
theorem scIsNum : FnScope ["word", "most", "sign"] ["word", "most"] (defScope sIsNum) := ⟨rfl, rfl, rfl, by decide +kernel, rfl, by decide +kernel, by decide +kernel⟩
abbrev sRoadOf : Stmt := top 21
theorem scRoadOf : FnScope ["word", "first", "_", "second"] ["word"] (defScope sRoadOf) := ⟨rfl, rfl, rfl, by decide +kernel, rfl, by decide +kernel, by decide +kernel⟩
abbrev sTLine : Stmt := cdef 16 4
theorem scTLine : FnScope ["self", "words", "u", "v"] ["self"] (defScope sTLine) := ⟨rfl, rfl, rfl, by decide +kernel, rfl, by decide +kernel, by decide +kernel⟩
/-- the text of signs -/
def mkS (l : List Nat) : Str := ⟨l.toArray⟩
theorem tl_mkS (l : List Nat) : tl (mkS l) = l := rfl
theorem mkS_eq {z : Str} {l : List Nat} (h : tl z = l) : z = mkS l := ext_tl h
/-- the signs of z are a number of at most m figures -/
def NumW (z : Str) (m : Nat) : Prop := z.length ≤ m ∧ ∃ n, tl z = dg n
def spIsNum : Sp := fun vs H Q _ => ∃ (z : Str) (m : Nat), vs = [.str z, .int m] ∧ z.length ≤ 100000 ∧ ∀ b H', Same H H' → (b = true ↔ NumW z m) → Q (.bl b) H'
def spRoadOf : Sp := fun vs H Q _ => ∃ (z : Str), vs = [.str z] ∧ z.length ≤ 100000 ∧
  (∀ r : Tm.Road, r.1 < 100 → r.2 < 100 → tl z = wordL r → ∀ t H', H t = none → Same H H' → H' t = some (.tup [.int r.1, .int r.2]) → Q (.ref t) H') ∧
  ((¬ ∃ r : Tm.Road, r.1 < 100 ∧ r.2 < 100 ∧ tl z = wordL r) → ∀ H', Same H H' → Q .non H')
theorem digit (c : Nat) : decide (c ∈ ("0123456789" : Str).cps.toList) = (decide (48 ≤ c) && decide (c ≤ 57)) := by
  have e : ("0123456789" : Str).cps.toList = [48, 49, 50, 51, 52, 53, 54, 55, 56, 57] := by decide +kernel
  rw [e, Bool.eq_iff_iff]
  simp
  omega
theorem tl_get {z : Str} {i c : Nat} (h : z.cps[i]? = some c) : (tl z)[i]? = some c := by
  rw [← h]
  exact Array.getElem?_toList ..
theorem str_one {z : Str} {c : Nat} : decide (V.str z = V.str ⟨#[c]⟩) = decide (tl z = [c]) := by
  apply decide_eq_decide.mpr
  constructor
  · intro h
    injection h with h
    rw [h]
  · intro h
    rw [ext_tl (x := z) (y := ⟨#[c]⟩) h]
theorem zero_eq : ("0" : Str) = ⟨#[48]⟩ := by rfl
section
variable {P : Program} {w : World} {K : PySem.W.Frag} {mg : Str → Option Value} {base : Heap} {f : Addr} {fd : FuncData}
theorem ok_is_number (F : Fd K "is_number" sIsNum f fd) (g : mg "is_number" = some (.ref f)) (B : Bl mg) : Ok P w K mg base CX0 1 "is_number" sIsNum ["word", "most"] spIsNum := by
  refine ⟨f, fd, g, F, F.bindsN fun _ _ _ _ _ _ us hl => match us, hl with | [_, _], _ => rfl, F.ok scIsNum (fun vs H Q E h => ?_) (fun cdv A outer s H vs Q E hr h => ?_)⟩
  · obtain ⟨z, m, rfl, _⟩ := h
    rfl
  · refine ⟨_, (pss_cons (ps_if (pw_or (pt_not (pt_chain op_le op_le pe_int (pe_callB call_len (by rfl) (B.u "len" (by decide +kernel)) boot_len (pa_cons (pv 0) pa_nil)) (pv 1))) (pw_or1 (pt_not (pt_val (pe_callB (cr_all rfl) (by rfl) (B.u "all" (by decide +kernel)) (by decide +kernel) (pa_cons (pe_lc (own := [("sign", 2)]) (g := gName 2) rfl scIsNum.nd (pi_str (pv 0)) (blkOk_by (N := ["word", "most", "sign"]) (sc := defScope sIsNum) (by decide +kernel)) (fun _ _ _ _ _ => (pg_name (i := 2) scIsNum.nd rfl (Or.inl rfl))) (fun _ _ _ _ _ => pts_nil) (fun _ _ _ _ _ => (pe_cmpR op_in_sign (pv 2) pe_str rfl))) pa_nil)))))).pt
        (pss_one (ps_ret pe_bl))
        pss_nil)
      (pss_one (ps_ret (pe_or (pe_cmpR op_eq (pv 0) pe_str (nomark _)) (pe_one (pe_cmpR op_ne (pe_ix ix_seq (pv 0) pe_int fun _ _ => rfl) pe_str (nomark _))))))), ?_⟩
    obtain ⟨z, m, rfl, hz, q⟩ := h
    have lz := len_tl z
    have szz : z.cps.size = (tl z).length := lz
    have no : ∀ H', Same H H' → (¬ NumW z m) → Q (.bl false) H' := fun H' k e => q false H' k ⟨(fun z => nomatch z), fun z => absurd z e⟩
    have pos : ∀ {n}, tl z = dg n → 1 ≤ z.length := fun e => by
      rw [lz, e]
      exact List.length_pos_iff.mpr (dg_ne _)
    refine ⟨_, rfl, _, _, rfl, ⟨two_ln (by omega), rfl⟩, _, _, rfl, rfl, _, rfl, iteB (fun e1 => ?_) fun e1 => ?_⟩
    · have l1 : 1 ≤ z.length := by
        have := of_decide_eq_true e1
        omega
      refine ⟨_, rfl, _, _, rfl, rfl, _, rfl, iteB (fun e2 => ?_) fun e2 => ?_⟩
      · refine no H (Same.refl H) fun y => ?_
        have e3 : decide ((z.length : Int) ≤ (m : Int)) = true := decide_eq_true (by have := y.1; omega)
        rw [e3] at e2
        cases e2
      · have l2 : z.length ≤ m := by
          have := of_decide_eq_true (not_f e2)
          omega
        refine ⟨_, rfl, _, rfl, fun D hD => ?_⟩
        refine lc_gen walk_str (fun _ => true) (fun i y _ => y = .bl (decide (48 ≤ (tl z).getD i 0) && decide ((tl z).getD i 0 ≤ 57))) (fun _ _ _ _ _ h => h) hD (by rw [szz, ← lz]; omega) (fun _ _ => True.intro) ?_ ?_
        · rintro i x H1 H2 K1 N1 hi k1 ⟨o, ho⟩ ⟨rfl, c, hc, rfl⟩ hK _
          have gc : (tl z).getD i 0 = c := by
            rw [List.getD_eq_getElem?_getD, tl_get hc]
            rfl
          refine ⟨rfl, _, rfl, c, _, rfl, rfl, hK rfl _ _ (Same.refl _) ?_⟩
          rw [digit, gc]
        · intro ys H1 k1 h1 l1' r1
          rw [filt_all] at l1' r1
          have e := map_of (F := fun i => V.bl (decide (48 ≤ (tl z).getD i 0) && decide ((tl z).getD i 0 ≤ 57))) l1' r1
          rw [szz] at e
          subst e
          have e2 : ((List.range (tl z).length).map fun i => V.bl (decide (48 ≤ (tl z).getD i 0) && decide ((tl z).getD i 0 ≤ 57))) = ((tl z).map fun c => decide (48 ≤ c) && decide (c ≤ 57)).map V.bl := by
            apply List.ext_getElem
            · simp
            · intro i a b
              simp only [List.length_map, List.length_range] at a
              simp only [List.getElem_map, List.getElem_range, List.getD_eq_getElem?_getD, List.getElem?_eq_getElem a, Option.getD_some]
          rw [e2] at h1
          have k2 := del_sub k1
          refine ⟨D, _, rfl, SqL.of h1, _, rfl, iteB (fun e3 => ?_) fun e3 => ?_⟩
          · refine no H1 k2 fun ⟨_, n, y⟩ => ?_
            have : (((tl z).map fun c => decide (48 ≤ c) && decide (c ≤ 57)).all id) = true := by
              rw [List.all_map, List.all_eq_true]
              intro c hc
              rw [y] at hc
              have := dg_all n c hc
              simp [this.1, this.2]
            rw [this] at e3
            cases e3
          · have all : (tl z).all (fun c => decide (48 ≤ c) && decide (c ≤ 57)) = true := by
              have := not_f e3
              rw [List.all_map] at this
              exact this
            have fin : ∀ b, (b = true ↔ Canon (tl z)) → Q (.bl b) H1 := fun b hb => q b H1 k2 (by
              rw [hb]
              constructor
              · intro c
                refine ⟨l2, isNum_iff.mp ?_⟩
                unfold isNum
                have ne : tl z ≠ [] := fun e => by rw [lz, e] at l1; simp at l1
                rw [decide_eq_true c, all, decide_eq_true ne]
                rfl
              · rintro ⟨_, n, e⟩
                rw [e]
                exact dg_canon n)
            obtain ⟨c, r, hc⟩ : ∃ c r, tl z = c :: r := by
              cases h : tl z with
              | nil => rw [lz, h] at l1; simp at l1
              | cons c r => exact ⟨c, r, rfl⟩
            refine ⟨_, rfl, rfl, _, rfl, ?_⟩
            show if decide (V.str z = V.str "0") = true then _ else _
            rw [zero_eq, str_one]
            refine iteB (fun e4 => ?_) fun e4 => ?_
            · exact fin true ⟨fun _ => .inl (of_decide_eq_true e4), fun _ => rfl⟩
            · have e5 := of_decide_eq_false e4
              refine ⟨_, rfl, .inr (.inr ⟨z, 0, c, rfl, rfl, two_ln (by omega), by show atI (tl z) 0 = _; rw [hc]; exact (atI_nat (j := 0) rfl : atI (c :: r) ((0 : Nat) : Int) = some c), rfl, ?_⟩)⟩
              refine fin _ ?_
              rw [hc] at e5 ⊢
              show (!decide (V.str ⟨#[c]⟩ = V.str "0")) = true ↔ _
              rw [zero_eq, str_one]
              show (!decide ([c] = [48])) = true ↔ _
              rw [Bool.not_eq_true', decide_eq_false_iff_not]
              constructor
              · intro h
                refine .inr fun z => h ?_
                simp at z
                rw [z]
              · intro h z
                have z : c = 48 := by simpa using z
                rcases h with h | h
                · exact e5 h
                · exact h (by rw [z]; rfl)
    · have l1 : ¬ 1 ≤ z.length := fun y => by
        have e3 : decide ((1 : Int) ≤ (z.length : Int)) = true := decide_eq_true (by omega)
        rw [e3] at e1
        cases e1
      exact ⟨false, rfl, iteT (no H (Same.refl H) fun ⟨_, n, y⟩ => l1 (pos y))⟩
theorem dash_eq : tl ("-" : Str) = [45] := by decide +kernel
theorem part_dash (z : Str) : Txt.partition z "-" = (match par [45] [] (tl z) with | some (a, b) => (mkS a, ("-" : Str), mkS b) | none => (z, Str.empty, Str.empty)) := by
  rw [partition_par z "-" (by rw [dash_eq]; simp), dash_eq]
  rfl
theorem ok_road_of (F : Fd K "road_of" sRoadOf f fd) (g : mg "road_of" = some (.ref f)) (B : Bl mg) (h_F : ∃ t, mg "FIGURES" = some (.int 2 t)) (o_is_number : Ok P w K mg base CX0 1 "is_number" sIsNum ["word", "most"] spIsNum) : Ok P w K mg base CX0 2 "road_of" sRoadOf ["word"] spRoadOf := by
  obtain ⟨t2, h_FIGURES⟩ := h_F
  refine ⟨f, fd, g, F, F.bindsN fun _ _ _ _ _ _ us hl => match us, hl with | [_], _ => rfl, F.ok scRoadOf (fun vs H Q E h => ?_) (fun cdv A outer s H vs Q E hr h => ?_)⟩
  · obtain ⟨z, rfl, _⟩ := h
    rfl
  · refine ⟨_, (pss_cons (ps_asg (pe_partition (pv 0) pe_str) (pg_tup rfl (pgs_cons (pg_name (i := 1) scRoadOf.nd rfl (Or.inl rfl)) (pgs_cons (pg_name (i := 2) scRoadOf.nd rfl (Or.inl rfl)) (pgs_cons (pg_name (i := 3) scRoadOf.nd rfl (Or.inl rfl)) pgs_nil)))))
      (pss_cons (ps_if (pw_or (pt_not (pt_val (pe_o o_is_number (hr.mono (by decide)) (by rfl) (pa_cons (pv 1) (pa_cons (pe_glob (by rfl) h_FIGURES (v := .int 2) ⟨_, rfl⟩) pa_nil))))) (pw_or1 (pt_not (pt_val (pe_o o_is_number (hr.mono (by decide)) (by rfl) (pa_cons (pv 3) (pa_cons (pe_glob (by rfl) h_FIGURES (v := .int 2) ⟨_, rfl⟩) pa_nil))))))).pt
        (pss_one (ps_ret pe_non))
        pss_nil)
      (pss_one (ps_ret (pe_tup (pa_cons (pe_callTy call_int_str (by rfl) (B.u "int" (by decide +kernel)) (by decide +kernel) (pa_cons (pv 1) pa_nil)) (pa_cons (pe_callTy call_int_str (by rfl) (B.u "int" (by decide +kernel)) (by decide +kernel) (pa_cons (pv 3) pa_nil)) pa_nil))))))), ?_⟩
    obtain ⟨z, rfl, hz, yes, no⟩ := h
    have lz := len_tl z
    refine ⟨_, rfl, ⟨z, rfl⟩, z, _, rfl, rfl, rfl, two_ln (by omega), fun p hp => ⟨p, _, rfl, SqT.of upd_same, rfl, _, _, rfl, _, _, rfl, _, _, rfl, rfl, ?_⟩⟩
    have k1 := upd_grow (o := .tup [.str (Txt.partition z "-").1, .str (Txt.partition z "-").2.1, .str (Txt.partition z "-").2.2]) hp
    generalize upd H p (.tup [.str (Txt.partition z "-").1, .str (Txt.partition z "-").2.1, .str (Txt.partition z "-").2.2]) = H1 at k1 ⊢
    obtain ⟨a, m, b, e, la, lb, case⟩ : ∃ a m b, Txt.partition z "-" = (a, m, b) ∧ a.length ≤ 100000 ∧ b.length ≤ 100000 ∧ ((par [45] [] (tl z) = some (tl a, tl b)) ∨ (par [45] [] (tl z) = none ∧ b = Str.empty)) := by
      rw [part_dash]
      cases hp : par [45] [] (tl z) with
      | none => exact ⟨z, _, _, rfl, hz, Nat.zero_le _, .inr ⟨rfl, rfl⟩⟩
      | some ab =>
        obtain ⟨a, b⟩ := ab
        obtain ⟨e, _⟩ := par_some [] (by simp) hp
        have l := congrArg List.length e
        rw [List.nil_append, ← lz, List.length_append, List.length_cons] at l
        refine ⟨_, _, _, rfl, ?_, ?_, .inl rfl⟩
        · rw [len_tl, tl_mkS]; omega
        · rw [len_tl, tl_mkS]; omega
    rw [e]
    have bad : (¬ (NumW a 2 ∧ NumW b 2)) → ¬ ∃ r : Tm.Road, r.1 < 100 ∧ r.2 < 100 ∧ tl z = wordL r := fun h ⟨r, r1, r2, er⟩ => by
      rw [er, par_word] at case
      rcases case with c | ⟨c, _⟩
      · have c := Option.some.inj c
        have c1 := (Prod.mk.inj c).1
        have c2 := (Prod.mk.inj c).2
        refine h ⟨⟨?_, _, c1.symm⟩, ⟨?_, _, c2.symm⟩⟩
        · rw [len_tl, ← c1]; exact dg_len r1
        · rw [len_tl, ← c2]; exact dg_len r2
      · cases c
    refine ⟨_, rfl, a, 2, rfl, la, fun b1 H2 k2 hb1 => ⟨_, rfl, iteB (fun e1 => iteT ?_) fun e1 => ?_⟩⟩
    · exact no (bad fun h => by rw [hb1.mpr h.1] at e1; cases e1) H2 (k1.trans k2)
    · refine ⟨_, rfl, b, 2, rfl, lb, fun b2 H3 k3 hb2 => ⟨_, rfl, iteB (fun e2 => ?_) fun e2 => ?_⟩⟩
      · exact no (bad fun h => by rw [hb2.mpr h.2] at e2; cases e2) H3 (k1.trans (k2.trans k3))
      · obtain ⟨l1, n1, d1⟩ := hb1.mp (not_f e1)
        obtain ⟨l2, n2, d2⟩ := hb2.mp (not_f e2)
        refine ⟨_, rfl, _, n1, rfl, int_num d1 (show a.length ≤ 640 by omega), (show a.length ≤ 640 by omega), _, rfl, _, n2, rfl, int_num d2 (show b.length ≤ 640 by omega), (show b.length ≤ 640 by omega), two_ln (by show 2 ≤ _; decide), fun t ht => ?_⟩
        have b1 : n1 < 100 := dg_two (by rw [← d1, ← len_tl]; exact l1)
        have b2 : n2 < 100 := dg_two (by rw [← d2, ← len_tl]; exact l2)
        refine yes (n1, n2) b1 b2 ?_ t _ ?_ (k1.trans (k2.trans (k3.trans (upd_grow ht)))) upd_same
        · rcases case with c | ⟨c, c2⟩
          · obtain ⟨e3, _⟩ := par_some [] (by simp) c
            rw [List.nil_append] at e3
            rw [e3, d1, d2]
            rfl
          · rw [c2] at d2
            exact absurd d2.symm (dg_ne _)
        · cases e5 : H t with
          | none => rfl
          | some o => rw [k3 _ _ (k2 _ _ (k1 _ _ e5))] at ht; cases ht
theorem nat_log {k : Nat} (h : k < 100) : ((k : Int).natAbs).log2 < 1920 := by
  have : ∀ k : Nat, k < 100 → ((k : Int).natAbs).log2 < 1920 := by decide +kernel
  exact this k h
theorem head_str (n : Nat) : Str.empty ++ Str.ofString (toString (n : Int)) ++ (":" : Str) = mkS (headL n) := by
  refine ext_tl ?_
  rw [tl_append, tl_append, num_tl, tl_mkS]
  rfl
theorem word_str (u v : Nat) : Str.empty ++ Str.ofString (toString (u : Int)) ++ ("-" : Str) ++ Str.ofString (toString (v : Int)) = mkS (wordL (u, v)) := by
  refine ext_tl ?_
  rw [tl_append, tl_append, tl_append, num_tl, num_tl, tl_mkS, dash_eq]
  show [] ++ dg u ++ [45] ++ dg v = dg u ++ 45 :: dg v
  simp
theorem num_len {k : Nat} (h : k < 100) : (Str.ofString (toString (k : Int))).length ≤ 2 := by
  rw [len_tl, num_tl]
  exact dg_len h
def spTLine (K : PySem.W.Frag) : Sp := fun vs H Q _ => ∃ t n rs, vs = [.ref t] ∧ TreeAt K H t n rs ∧ ∀ H', Same H H' → Q (.str (mkS (lineL n rs))) H'
theorem sum_le {α : Type} (f : α → Nat) (c : Nat) : ∀ {l : List α}, (∀ x ∈ l, f x ≤ c) → (l.map f).sum ≤ c * l.length
  | [], _ => by simp
  | x :: l, h => by
    have h1 := h x List.mem_cons_self
    have h2 := sum_le f c (l := l) fun y hy => h y (List.mem_cons_of_mem _ hy)
    rw [List.map_cons, List.sum_cons, List.length_cons, Nat.mul_succ]
    omega
theorem ok_line (F : Md K "line" "Tree.line" sTLine (MT K "line") fd) (C : TreeK K mg) (B : Bl mg) : OkM P w K mg base CX0 1 "line" ["self"] (spTLine K) := by
  refine ⟨fd, F.bindsN fun _ _ _ _ _ _ us hl => match us, hl with | [_], _ => rfl, F.ok scTLine (fun vs H Q E h => ?_) (fun cdv A outer s H vs Q E hr h => ?_)⟩
  · obtain ⟨t, n, rs, rfl, _⟩ := h
    rfl
  · refine ⟨_, (pss_cons (ps_set (i := 1) scTLine.nd rfl (Or.inl rfl) (pe_lst (pa_cons (pe_joinN (PJ.cons (pe_fmt (pe_fld (pv 0) rfl)) (PJ.cons pe_str PJ.nil))) pa_nil)))
      (pss_cons (ps_expr (pe_bm PySem.F.plainAttrs_list PySem.F.slot_list_extend PySem.F.type_list_extend mt_extend (pv 1) (pa_cons (pe_lc (own := [("u", 2), ("v", 3)]) (g := gTup K 2 (gCons (gName 2) (gCons (gName 3) gNil))) rfl scTLine.nd (pi_seq (pe_fld (pv 0) rfl)) (blkOk_by (N := ["self", "words", "u", "v"]) (sc := defScope sTLine) (by decide +kernel)) (fun _ _ _ _ _ => (pg_tup rfl (pgs_cons (pg_name (i := 2) scTLine.nd rfl (Or.inl rfl)) (pgs_cons (pg_name (i := 3) scTLine.nd rfl (Or.inl rfl)) pgs_nil)))) (fun _ _ _ _ _ => pts_nil) (fun _ _ _ _ _ => (pe_joinN (PJ.cons (pe_fmt (pv 2)) (PJ.cons pe_str (PJ.cons (pe_fmt (pv 3)) PJ.nil)))))) pa_nil)))
      (pss_one (ps_ret (pe_join pe_str (pv 1)))))), ?_⟩
    obtain ⟨t, n, rs, rfl, T, q⟩ := h
    obtain ⟨dx, rt, nt, h1, hr1, _⟩ := T.ex
    have n1 : n < 100 := by have := T.le; omega
    have bd : ∀ r ∈ rs, r.1 < 100 ∧ r.2 < 100 := fun r hr => by have := T.ok.bnd r hr; omega
    have lr := T.ok.len
    have tle := T.le
    have ln := num_len n1
    refine ⟨_, rfl, _, _, _, _, _, rfl, h1, C.cl, C.nh, rfl, .inr ⟨_, rfl, nat_log n1, _, rfl, two_ln ?_, _, rfl, two_ln ?_, ?_⟩⟩
    · rw [strLen_append]
      show 0 + _ ≤ _
      omega
    · rw [strLen_append, strLen_append]
      show 0 + _ + 1 ≤ _
      omega
    rw [head_str]
    refine ⟨two_ln (by show 1 ≤ _; decide), fun p hp => ?_⟩
    have k1 := upd_grow (o := .lst [.str (mkS (headL n))]) hp
    have hp1 : upd H p (.lst [.str (mkS (headL n))]) p = some (.lst [.str (mkS (headL n))]) := upd_same
    have ne1 : ∀ b o, H b = some o → b ≠ p := fun b o e => ne_of_none e hp
    have T1 := T.mono k1
    generalize hH1 : upd H p (.lst [.str (mkS (headL n))]) = H1 at k1 hp1 T1 ⊢
    obtain ⟨dx, rt, nt, h1, hr1, _⟩ := T1.ex
    cases hr1 with
    | @tup _ xs ds ht ra =>
      have lx := rdds_len ra
      rw [List.length_map] at lx
      refine ⟨_, rfl, .inl ⟨rfl, _, SqL.of hp1⟩, _, rfl, _, _, _, _, _, rfl, h1, C.cl, C.nr, rfl, rt, xs, rfl, .inr (SqT.of ht), fun J w D hD => ?_⟩
      dsimp only [tNil]
      refine lc_gen w (fun _ => true) (fun i y _ => y = .str (mkS (wordL (rs.getD i (0, 0))))) (fun _ _ _ _ _ h => h) hD (by omega) (fun H' k => by rw [del_sub k _ _ ht, ht]) ?_ ?_
      · rintro i x H2 H3 K1 N1 hi k2 ⟨o, ho⟩ ⟨rfl, hx⟩ hK _
        have hdi : i < rs.length := by omega
        obtain ⟨x', hx', rx⟩ := rdds_get (ra.mono (del_sub k2)) (show (rs.map rd)[i]? = some (rd rs[i]) by rw [List.getElem?_map, List.getElem?_eq_getElem hdi]; rfl)
        rw [hx] at hx'
        obtain rfl : x = x' := Option.some.inj hx'
        have gi : rs.getD i (0, 0) = rs[i] := by rw [List.getD_eq_getElem?_getD, List.getElem?_eq_getElem hdi]; rfl
        have bi := bd _ (List.getElem_mem hdi)
        rw [gi] at hK
        generalize rs[i] = ro at rx bi hK
        obtain ⟨u, v⟩ := ro
        unfold rd at rx
        cases rx with
        | @tup pt ys es h r2 =>
          obtain ⟨y1, y2, rfl, r3, r4⟩ := rdds_two r2
          cases r3
          cases r4
          simp only at bi
          have l1 := num_len bi.1
          have l2 := num_len bi.2
          refine ⟨pt, _, rfl, SqT.of h, rfl, _, _, rfl, _, _, rfl, rfl, rfl, ?_⟩
          refine ⟨_, rfl, .inr ⟨_, rfl, nat_log bi.1, _, rfl, two_ln ?_, _, rfl, two_ln ?_, _, rfl, .inr ⟨_, rfl, nat_log bi.2, _, rfl, two_ln ?_, ?_⟩⟩⟩
          · rw [strLen_append]
            show 0 + (Str.ofString (toString (u : Int))).length ≤ _
            omega
          · rw [strLen_append, strLen_append]
            show 0 + (Str.ofString (toString (u : Int))).length + 1 ≤ _
            omega
          · rw [strLen_append, strLen_append, strLen_append]
            show 0 + (Str.ofString (toString (u : Int))).length + 1 + (Str.ofString (toString (v : Int))).length ≤ _
            omega
          · rw [word_str]
            exact hK rfl _ _ (Same.refl _) rfl
      · intro ys H2 k2 h2 l2 r2
        rw [filt_all] at l2 r2
        have e := map_of (F := fun i => V.str (mkS (wordL (rs.getD i (0, 0))))) l2 r2
        have e2 : ys = (rs.map fun r => mkS (wordL r)).map V.str := by
          rw [e, lx]
          apply List.ext_getElem
          · simp
          · intro i a b
            simp only [List.length_map, List.length_range] at a
            simp only [List.getElem_map, List.getElem_range, List.getD_eq_getElem?_getD, List.getElem?_eq_getElem a, Option.getD_some]
        have k3 := del_sub k2
        rw [e2] at h2
        refine ⟨p, D, _, _, rfl, rfl, k3 _ _ hp1, h2, two_ln ?_, ?_⟩
        · simp only [List.length_cons, List.length_nil, List.length_map]
          omega
        · refine ⟨⟨_, rfl⟩, _, rfl, _, p, mkS (headL n) :: rs.map fun r => mkS (wordL r), rfl, rfl, .inl (SqL.of upd_same), ?_, ?_⟩
          · have s1 : (rs.map ((fun x => x.length) ∘ fun r => mkS (wordL r))).sum ≤ 5 * rs.length := sum_le _ 5 fun r hr => by
              show (mkS (wordL r)).length ≤ 5
              rw [len_tl, tl_mkS]
              exact word_len (bd r hr).1 (bd r hr).2
            have s2 : (mkS (headL n)).length ≤ 3 := by
              rw [len_tl, tl_mkS]
              exact head_len n1
            have s3 : (" " : Str).length = 1 := rfl
            rw [List.map_cons, List.sum_cons, List.map_map, List.length_cons, List.length_map, s3]
            omega
          · have ej : Txt.join " " (mkS (headL n) :: rs.map fun r => mkS (wordL r)) = mkS (lineL n rs) := by
              refine ext_tl ?_
              rw [join_eq, tl_join, tl_mkS, List.map_cons, List.map_map]
              rfl
            rw [ej]
            refine q _ fun b o e => ?_
            rw [upd_ne (ne1 b o e)]
            exact k3 _ _ (k1 _ _ e)
end
end K03

namespace K03
open PySem PySem.Spec PyProof.Rows L2
/-- data with bounds -/
structure Nc (k m : Nat) (d : PyData) : Prop where
  a : asc d = true
  s : d.showable = true
  h : d.depth ≤ k
  w : wt d ≤ m
theorem Nc.tame {k m : Nat} {d : PyData} (n : Nc k m d) (hk : k ≤ 32 := by decide) (hm : m ≤ 1000000 := by decide) : Tame d := ⟨n.a, n.s, Nat.le_trans n.h hk, Nat.le_trans n.w hm⟩
theorem Nc.up {k m k' m' : Nat} {d : PyData} (n : Nc k m d) (hk : k ≤ k' := by decide) (hm : m ≤ m' := by decide) : Nc k' m' d := ⟨n.a, n.s, Nat.le_trans n.h hk, Nat.le_trans n.w hm⟩
theorem nc_all {k m : Nat} : ∀ {ds : List PyData}, (∀ d ∈ ds, Nc k m d) → ascAll ds = true ∧ PyData.showableAll ds = true ∧ PyData.depthAll ds ≤ k ∧ wtAll ds ≤ ds.length * (m + 2)
  | [], _ => ⟨rfl, rfl, Nat.zero_le _, Nat.zero_le _⟩
  | d :: ds, h => by
    obtain ⟨h1, h2, h3, h4⟩ := h d List.mem_cons_self
    obtain ⟨i1, i2, i3, i4⟩ := nc_all fun e he => h e (List.mem_cons_of_mem _ he)
    refine ⟨?_, ?_, ?_, ?_⟩
    · simp only [ascAll]
      rw [h1, i1] <;> rfl
    · simp only [PyData.showableAll]
      rw [h2, i2] <;> rfl
    · simp only [PyData.depthAll]
      omega
    · simp only [wtAll, List.length_cons]
      rw [Nat.add_mul]
      omega
theorem nc_list {k m l : Nat} {ds : List PyData} (h : ∀ d ∈ ds, Nc k m d) (hl : ds.length ≤ l) : Nc (k + 1) (l * (m + 2) + 3) (.list ds) := by
  obtain ⟨i1, i2, i3, i4⟩ := nc_all h
  have y : ds.length * (m + 2) ≤ l * (m + 2) := Nat.mul_le_mul_right _ hl
  exact ⟨by simp only [asc]; exact i1, by simp only [PyData.showable]; exact i2, by simp only [PyData.depth]; omega, by simp only [wt]; omega⟩
theorem nc_tup {k m l : Nat} {ds : List PyData} (h : ∀ d ∈ ds, Nc k m d) (hl : ds.length ≤ l) : Nc (k + 1) (l * (m + 2) + 3) (.tuple ds) := by
  obtain ⟨i1, i2, i3, i4⟩ := nc_all h
  have y : ds.length * (m + 2) ≤ l * (m + 2) := Nat.mul_le_mul_right _ hl
  exact ⟨by simp only [asc]; exact i1, by simp only [PyData.showable]; exact i2, by simp only [PyData.depth]; omega, by simp only [wt]; omega⟩
theorem nat_small : ∀ x : Nat, x < 100 → asc (.int (x : Int)) = true ∧ PyData.showable (.int (x : Int)) = true ∧ wt (.int (x : Int)) ≤ 3 := by decide +kernel
theorem nc_nat {x : Nat} (h : x < 100) : Nc 0 40 (.int (x : Int)) := ⟨(nat_small x h).1, (nat_small x h).2.1, Nat.le_refl _, Nat.le_trans (nat_small x h).2.2 (by decide)⟩
theorem nc_bool (b : Bool) : Nc 0 40 (.bool b) := by
  cases b <;> exact ⟨rfl, rfl, Nat.le_refl _, by decide⟩
theorem nc_rd {r : Tm.Road} (h1 : r.1 < 100) (h2 : r.2 < 100) : Nc 1 100 (rd r) := by
  refine (nc_tup (k := 0) (m := 40) (l := 2) (fun e he => ?_) (Nat.le_refl _)).up
  simp only [List.mem_cons, List.not_mem_nil, or_false] at he
  rcases he with rfl | rfl
  · exact nc_nat h1
  · exact nc_nat h2
theorem nc_non : Nc 0 40 .none := ⟨rfl, rfl, by decide, by decide⟩
end K03

/-! a, *b = a list -/
namespace L2
open PySem PySem.Spec PyProof.Rows
open PySem.W (kun_draw kun_collect)
section
variable {prog : Program} {w : World} {A : Around} {E : Value → Shared → Prop} {s : Shared}
theorem star_items {l : Addr} {v : Value} {vs : List Value} {Q : List Value → Shared → Prop} (hl : s.heap.IsList l (v :: vs).toArray) (hh : A.handled = none) (hz : vs.length ≤ 16000)
    (h : ∀ h2 tk, Heap.ExtBut s.heap.objs.size s.heap h2 → Q [v, .ref h2.objs.size] { s with heap := h2.push { cls := .type "list", data := .seq vs.toArray }, toks := tk }) :
    wpAny (model prog w) A (unpackItems (.ref l) 2 (some 1)) Q E s := by
  have hlt : l ≠ s.heap.objs.size := by obtain ⟨o, ho, _⟩ := hl; exact Nat.ne_of_lt (Heap.lt_size ho)
  have hll : l < s.heap.objs.size := by obtain ⟨o, ho, _⟩ := hl; exact Heap.lt_size ho
  have sz : (v :: vs).toArray.size = vs.length + 1 := by simp
  unfold unpackItems
  refine wpAny_bind ?_
  unfold notIterableAtAll
  refine wpAny_bind (wpAny_specialOf hl.typeIs slot_list_iter.lookup ?_)
  refine wpAny_pure ?_
  simp only [Bool.false_eq_true, if_false]
  refine wpAny_bind (wpAny_holding (wpAny_pyIter_list hl ?_))
  refine wpAny_bind (wpAny_holding (kun_draw hlt 1 0 _ _ ⟨_, Heap.get?_push_size _ rfl, rfl, rfl⟩ (hl.push _) (by omega) fun h₁ hit₁ hs₁ => ?_))
  have hl₁ : h₁.IsList l (v :: vs).toArray := (hl.push _).extBut hs₁.extBut hlt
  rw [Nat.zero_add] at hit₁
  have hit₁' := hit₁
  obtain ⟨oi, hoi, _⟩ := hit₁'
  have hl₁' := hl₁
  obtain ⟨ol, hol, _⟩ := hl₁'
  show wpAny _ _ (if ([v] : List Value).length < 1 then _ else _) _ _ _
  rw [if_neg (by simp)]
  refine wpAny_bind (wpAny_holding (kun_collect (s := { s with heap := h₁ }) (T := "list_iterator") (.inr (.inr (.inl rfl))) (Walks.list (A := A.in1) hh s.heap.objs.size l hlt (v :: vs).toArray) (fun j u st => st.1.typeIs) (k := 1) (by omega) ⟨hit₁, hl₁⟩ (Heap.lt_size hoi) (Heap.lt_size hol) (fun h₂ tk hk => ?_) (by rw [sizeLine_eq]; omega)))
  show wpAny _ _ (if vs.length < 0 then _ else _) _ _ _
  rw [if_neg (by omega)]
  show wpAny _ _ (newList (vs.take vs.length) >>= fun d => pure ([v] ++ [d] ++ vs.drop vs.length)) _ _ _
  rw [List.take_length, List.drop_length]
  have he : Heap.ExtBut s.heap.objs.size s.heap h₂ := fun b o hb e => hk b o hb (hs₁.extBut b o hb (Heap.get?_push_of_some _ e))
  exact wpAny_bind (wpAny_newObj_type (wpAny_pure (h h₂ tk he)) (by show vs.toArray.size ≤ sizeLine; rw [sizeLine_eq, List.size_toArray]; omega))
end
section
variable {X : Cx}
/-- a, *b = a list -/
def gStar (t : TGs) : TG := fun v σ H Q => ∃ a x xs, v = .ref a ∧ H a = some (.lst (x :: xs)) ∧ xs.length ≤ 16000 ∧ ∀ D, H D = none → t [x, .ref D] σ (upd H D (.lst xs)) Q
theorem pg_star {t1 t2 : Expr} {k : Nat} {t : TGs} {p pos : Pos} (hc : X.calm = true) (h : PGs X [t1, t2] t)
    (hn : (assignEach [t1, .Starred t2 p] X.env).length = 2 := by rfl) (hst : (assignEach [t1, .Starred t2 p] X.env).findIdx? (·.1) = some 1 := by rfl)
    (hm : (assignEach [t1, .Starred t2 p] X.env).map (·.2) = (assignEach [t1, t2] X.env).map (·.2) := by rfl) : PG X (.Tuple [t1, .Starred t2 p] k pos) (gStar t) := by
  refine ⟨fun pins s σ H v u Q I r hw => ?_⟩
  obtain ⟨a, x, xs, e1, hq, hl, hw⟩ := hw
  subst e1
  cases r
  obtain ⟨its, rv, pl, hz⟩ := I.list (SqL.of hq)
  obtain ⟨y, ys, rfl, ry, rys⟩ : ∃ y ys, its = y :: ys ∧ RelV x y ∧ Vals xs ys := by
    cases rv with
    | cons r t => exact ⟨_, _, rfl, r, t⟩
  have len := rys.length
  rw [assign_Tuple]
  refine wpAny_bind (wpAny_standAt ?_)
  unfold unpack
  rw [hn, hst, hm]
  refine wpAny_bind (wpAny_holding (star_items pl.isList (I.ok.hd hc) (by omega) fun h2 tk he => ?_))
  have I1 : Inv X pins σ H { s with heap := h2, toks := tk } := I.kept (t' := tk) fun b o e => he b o (Nat.ne_of_lt (Heap.lt_size e)) e
  have I2 : Inv X pins σ (upd H h2.objs.size (.lst xs)) { s with heap := h2.push { cls := .type "list", data := .seq ys.toArray }, toks := tk } :=
    I1.laid (t' := tk) (h' := h2.push { cls := .type "list", data := .seq ys.toArray }) (fun b o e => Heap.get?_push_of_some _ e) (Nat.le_refl _) ⟨by rw [sizeLine_eq]; omega, ys, 0, rys, Heap.get?_push_size _ rfl⟩
  exact h.run pins _ σ _ [x, .ref h2.objs.size] [y, .ref h2.objs.size] Q I2 (.cons ry (.cons rfl .nil)) (hw _ (I1.hok.fresh (Nat.le_refl _)))
end
end L2

namespace L2
open PySem PySem.Spec PyProof.Rows
open L2H (RoomH Hot1 PinOk FnH cxH HotC PMk5)
/-! ### raise X(v) from None, while an exception is handled -/
section
variable {P : Program} {w : World} {K : PySem.W.Frag} {mg : Str → Option Value} {base : Heap} {C fI : Addr} {fd : FuncData} {qual f : Str} {pa : Arguments} {bd : List Stmt} {sc : Scope}
theorem ok_init1H {q1 q2 q3 q4 : Pos} (F : FunD K "__init__" qual pa bd sc [] [] fI fd) (S : FnScope ["self", f] ["self", f] sc) (hb : bd = iB1 f q1 q2 q3 q4)
    (T : OexC K C) (no : PySem.W.findIn K (.ref C) f = some none) (pf : Plain f) : FnH P w K mg base CX0 1 fI fd ["self", f] (spI1 C f) := by
  obtain ⟨oc, od, dV, kV, doc, pm, an, cdv, ct, osl, rfl, lk, hcd, _, _⟩ := F.ex
  refine L2H.fn_ofH lk hcd S (fun vs H Q E h => ?_) (fun A outer s H vs Q E p hot hr h => ?_)
  · obtain ⟨a, v, rfl, _⟩ := h
    rfl
  · subst hb
    refine ⟨_, pss_one (ps_ost (pe_var (i := 0) rfl (visP S List.mem_cons_self)) (pe_var (i := 1) rfl (visP S (List.mem_cons_of_mem _ List.mem_cons_self)) (hd := pf.a) (hcd := pf.b))), ?_⟩
    obtain ⟨a, v, rfl, ha, k⟩ := h
    exact ⟨_, rfl, _, rfl, a, C, rfl, T, no, .inl ⟨ha, fun dx n ne => k dx n ne⟩⟩
end
structure OneH (P : Program) (w : World) (K : PySem.W.Frag) (mg : Str → Option Value) (base : Heap) (x f : Str) : Prop where
  mgx : mg x = some (.ref (He.ga K x))
  T : OexC K (He.ga K x)
  iC : PySem.W.findIn K (.ref (He.ga K x)) "__init__" = some (some (.ref (He.ma K (He.ga K x) "__init__")))
  tI : PySem.W.typeIn K (.ref (He.ma K (He.ga K x) "__init__")) = some (.type "function")
  ini : ∃ fd, FnH P w K mg base CX0 1 (He.ma K (He.ga K x) "__init__") fd ["self", f] (spI1 (He.ga K x) f) ∧ Binds K fd ["self", f] []
section
variable {X : Cx} {x f : Str} {i : Nat} {v : Expr} {p pos : Pos}
theorem pmk5_mono {e : Expr} {t u : St → Hp → XK → Prop} (h : PMk5 X e t) (k : ∀ σ H Q, u σ H Q → t σ H Q) : PMk5 X e u := fun pins s σ H Q I q => h pins s σ H Q I (k _ _ _ q)
theorem pmk_e1H (O : OneH X.prog X.w X.K X.mg X.base x f) (hr : RoomH 2 X.A) (hc : HotC X) (hv : PE X v (tVar i)) (hg : Gl X x) (hdb : (x == ("__debug__" : Str)) = false := by decide)
    (he : starEach [v] X.env = (false, eval v X.env) :: starEach [] X.env := by rfl) (hpl : (backTo pos (starEach [] X.env)).any (·.1) = false := by rfl) :
    PMk5 X (.Call (.Name x p) [v] [] pos) (tRs1 i (He.ga X.K x) f) := by
  obtain ⟨fd, F, b⟩ := O.ini
  refine pmk5_mono (L2H.pmk5_oexH O.T O.iC O.tI F hr hc b pass0 hg O.mgx (pa_cons hv pa_nil he) hdb he hpl) fun σ H Q h => ?_
  obtain ⟨y, hy, q⟩ := h
  refine ⟨y, hy, by show 1 ≤ 1000; decide, fun a ha => ⟨a, y, rfl, upd_same, fun dx n ne => ⟨rfl, raised_at ha n ne q⟩⟩⟩
end
end L2
namespace L2
open PySem PySem.Spec PyProof.Rows
theorem sky_imp {B h : Heap} {l : List Env} {a L : Addr} {Z Z' : Obj → Prop} (z : ∀ o, Z o → Z' o) (x : Sky B l a Z L h) : Sky B l a Z' L h := by
  rcases x with ⟨h1, h2, h3, oe, vs, h4, h5, h6⟩ | x | x
  · exact .inl ⟨h1, h2, h3, oe, vs, h4, z _ h5, h6⟩
  · exact .inr (.inl (L2H.flyingZ_imp z x))
  · exact .inr (.inr ⟨x.1, x.2.1, x.2.2.1, L2H.tracedZ_imp z x.2.2.2⟩)
/-- whoever takes any exception takes one whose context is None -/
theorem takes_N {X : Cx} {W : WX} (t : L2.Takes X W) : L2N.Takes X W := fun u s' ⟨a, B, sI, pins, σ, H, cls, d, e, I, nb, up, sky, na, os, ag, w⟩ =>
  t u s' ⟨a, B, sI, pins, σ, H, cls, d, e, I, nb, up, sky_imp (fun _ => L2N.Zn.zc) sky, na, os, ag, w⟩
end L2

namespace K03
open PySem PySem.Spec PyProof.Rows L2 Tn TL
abbrev sReadT : Stmt := top 20
theorem scReadT : FnScope ["text", "head", "words", "tree", "word"] ["text"] (defScope sReadT) := ⟨rfl, rfl, rfl, by decide +kernel, rfl, by decide +kernel, by decide +kernel⟩
def pick (is : List Nat) {α : Type} (us ws : List α) : List α := is.filterMap fun i => (us ++ ws)[i]?
theorem vals_get : ∀ {xs : List V} {us : List Value} (i : Nat), Vals xs us → (xs[i]? = none ∧ us[i]? = none) ∨ ∃ x u, xs[i]? = some x ∧ us[i]? = some u ∧ RelV x u
  | _, _, _, .nil => .inl ⟨rfl, rfl⟩
  | _, _, 0, .cons r _ => .inr ⟨_, _, rfl, rfl, r⟩
  | _, _, i + 1, .cons _ t => by simpa using vals_get i t
theorem pick_rel (is : List Nat) {vs zs : List V} {us ws : List Value} (r : Vals vs us) (q : Vals zs ws) : Vals (pick is vs zs) (pick is us ws) := by
  unfold pick
  have k : Vals (vs ++ zs) (us ++ ws) := r.append q
  generalize vs ++ zs = xs at k
  generalize us ++ ws = ys at k
  induction is with
  | nil => exact .nil
  | cons i is ih =>
    rcases vals_get i k with ⟨h1, h2⟩ | ⟨x, u, h1, h2, h3⟩
    · rw [List.filterMap_cons, List.filterMap_cons, h1, h2]
      exact ih
    · rw [List.filterMap_cons, List.filterMap_cons, h1, h2]
      exact .cons h3 ih
theorem cut_last (z : Str) : tl (cutS z none (some (-1))) = (tl z).dropLast := by
  have lz := len_tl z
  unfold cutS
  show (((tl z).drop (HT.sIx z.length 0 none)).take (HT.sIx z.length z.length (some (-1)) - HT.sIx z.length 0 none)) = _
  have e0 : HT.sIx z.length 0 none = 0 := rfl
  have e1 : HT.sIx z.length z.length (some (-1)) = z.length - 1 := by
    show (if (-1 : Int) < 0 then ((-1 : Int) + (z.length : Int)).toNat else min (-1 : Int).toNat z.length) = _
    rw [if_pos (by decide)]
    omega
  rw [e0, e1, List.drop_zero, Nat.sub_zero, List.dropLast_eq_take, lz]
/-- the text is a tree's line -/
def IsLine (d : PyData) : Prop := ∃ s n rs, d = .str s ∧ Reads (tl s) n rs
def spReadT (K : PySem.W.Frag) : Sp := fun vs H Q E => ∃ (v : V) (d : PyData), vs = [v] ∧ Rdd H v d ∧ (∀ s, d = .str s → s.length ≤ 640) ∧ (¬ IsLine d → Refuses K "InvalidText" "given" v H E) ∧
  ∀ s n rs, d = .str s → Reads (tl s) n rs → ∀ t H', H t = none → Same H H' → TreeAt K H' t n rs → Q (.ref t) H'
/-- the words make a tree of N houses -/
def GoodW (N : Nat) (ws : List Str) : Prop := ∃ rs, 1 ≤ N ∧ N ≤ 64 ∧ ws.map tl = rs.map wordL ∧ Tm.RoadsOk N rs ∧ Tm.Joined N rs
/-- what the words are as data -/
inductive WordsD : List Str → List PyData → Prop
  | nil : WordsD [] []
  | road {w : Str} {ws : List Str} {ds : List PyData} {r : Tm.Road} : r.1 < 100 → r.2 < 100 → tl w = wordL r → WordsD ws ds → WordsD (w :: ws) (rd r :: ds)
  | none {w : Str} {ws : List Str} {ds : List PyData} : (¬ ∃ r : Tm.Road, r.1 < 100 ∧ r.2 < 100 ∧ tl w = wordL r) → WordsD ws ds → WordsD (w :: ws) (.none :: ds)
theorem WordsD.of_roads : ∀ {ws : List Str} {rs : List Tm.Road} {ds : List PyData}, ws.map tl = rs.map wordL → (∀ r ∈ rs, r.1 < 100 ∧ r.2 < 100) → WordsD ws ds → ds = rs.map rd
  | [], [], _, _, _, .nil => rfl
  | [], _ :: _, _, h, _, _ => by simp at h
  | _ :: _, [], _, h, _, _ => by simp at h
  | w :: ws, q :: rs, _, h, b, W => by
    rw [List.map_cons, List.map_cons] at h
    injection h with h1 h2
    have bq := b q List.mem_cons_self
    cases W with
    | road r1 r2 e W =>
      rw [List.map_cons, WordsD.of_roads h2 (fun r hr => b r (List.mem_cons_of_mem _ hr)) W, word_inj (e.symm.trans h1)]
    | none no W => exact absurd ⟨q, bq.1, bq.2, h1⟩ no
theorem WordsD.to_roads : ∀ {ws : List Str} {rs : List Tm.Road} {ds : List PyData}, WordsD ws ds → ds = rs.map rd → ws.map tl = rs.map wordL
  | _, [], _, .nil, _ => rfl
  | _, _ :: _, _, .nil, h => by simp at h
  | _, [], _, .road _ _ _ _, h => by simp at h
  | _, [], _, .none _ _, h => by simp at h
  | _, q :: rs, _, .road r1 r2 e W, h => by
    rw [List.map_cons] at h
    injection h with h1 h2
    rw [List.map_cons, List.map_cons, e, rd_inj h1, W.to_roads h2]
  | _, q :: rs, _, .none _ _, h => by
    rw [List.map_cons] at h
    injection h with h1 h2
    cases h1
theorem WordsD.nc : ∀ {ws : List Str} {ds : List PyData}, WordsD ws ds → ∀ d ∈ ds, Nc 1 100 d
  | _, _, .nil, d, h => by cases h
  | _, _, .road r1 r2 e W, d, h => by
    rcases List.mem_cons.mp h with rfl | h
    · exact nc_rd r1 r2
    · exact W.nc d h
  | _, _, .none no W, d, h => by
    rcases List.mem_cons.mp h with rfl | h
    · exact nc_non.up
    · exact W.nc d h
theorem WordsD.len : ∀ {ws : List Str} {ds : List PyData}, WordsD ws ds → ds.length = ws.length
  | _, _, .nil => rfl
  | _, _, .road _ _ _ W => by rw [List.length_cons, List.length_cons, W.len]
  | _, _, .none _ W => by rw [List.length_cons, List.length_cons, W.len]
theorem words_of {H : Hp} : ∀ {ws : List Str} {ys : List V}, ys.length = ws.length → (∀ (i : Nat) (w : Str) (y : V), ws[i]? = some w → ys[i]? = some y →
    (∃ r : Tm.Road, r.1 < 100 ∧ r.2 < 100 ∧ tl w = wordL r ∧ Rdd H y (rd r)) ∨ ((¬ ∃ r : Tm.Road, r.1 < 100 ∧ r.2 < 100 ∧ tl w = wordL r) ∧ y = .non)) → ∃ ds, RddAll H ys ds ∧ WordsD ws ds
  | [], [], _, _ => ⟨[], .nil, .nil⟩
  | [], _ :: _, h, _ => by simp at h
  | _ :: _, [], h, _ => by simp at h
  | w :: ws, y :: ys, h, k => by
    obtain ⟨ds, r, W⟩ := words_of (ws := ws) (ys := ys) (by simpa using h) fun i w y h1 h2 => k (i + 1) w y (by simpa using h1) (by simpa using h2)
    rcases k 0 w y rfl rfl with ⟨q, q1, q2, e, rr⟩ | ⟨no, rfl⟩
    · exact ⟨_, .cons rr r, .road q1 q2 e W⟩
    · exact ⟨_, .cons .non r, .none no W⟩
section
variable {P : Program} {w : World} {K : PySem.W.Frag} {mg : Str → Option Value} {base : Heap} {f : Addr} {fd fdI : FuncData}
theorem str_of {H : Hp} {v : V} {d : PyData} (r : Rdd H v d) (h : tyd d = "str") : ∃ s, v = .str s ∧ d = .str s := by
  cases r with
  | str x => exact ⟨x, rfl, rfl⟩
  | _ => exact absurd h (by simp [tyd])
theorem space_eq : tl (" " : Str) = [32] := by decide +kernel
/-- a text's words -/
theorem split_words (s : Str) : ∃ h ws, Txt.split s " " = h :: ws ∧ tl h :: ws.map tl = parts 32 (tl s) ∧ h.length ≤ s.length ∧ (∀ w ∈ ws, w.length ≤ s.length) ∧ ws.length ≤ s.length := by
  have k := split_spl s " " (by rw [space_eq]; simp) (kind_ok (by decide +kernel))
  rw [space_eq] at k
  have ls := len_tl s
  cases e : Txt.split s " " with
  | nil => rw [e] at k; exact absurd k.symm (spl_ne 32 _ _)
  | cons h ws =>
    rw [e] at k
    have m := parts_many 32 [] (tl s)
    rw [← k] at m
    simp only [List.length_map, List.length_cons] at m
    have l : ∀ w ∈ h :: ws, w.length ≤ s.length := fun w hw => by
      have := parts_len 32 [] (tl s) (tl w) (by rw [← k]; exact List.mem_map_of_mem hw)
      rw [← len_tl, ← ls] at this
      simpa using this
    exact ⟨h, ws, rfl, k, l h List.mem_cons_self, fun w hw => l w (List.mem_cons_of_mem _ hw), by omega⟩
/-- the try's body: from which state, and what becomes of it -/
def RT (K : PySem.W.Frag) (W : WX) : TS := fun D σ H => ∃ (v : V) (h : Str) (wp : Addr) (ws : List Str) (N : Nat), σ = [some v, some (.str h), some (.ref wp), none, none] ∧ H wp = some (.lst (ws.map V.str)) ∧ (∀ w ∈ ws, w.length ≤ 640) ∧ ws.length ≤ 700 ∧ h.length ≤ 640 ∧
  (tl h).dropLast = dg N ∧ (∀ x ∈ (["InvalidHouses", "InvalidRoads", "NotJoined"] : List Str), ¬ GoodW N ws → ∀ d H', Same H H' → W (.ref (He.ga K x)) (some d) σ H') ∧
  ∀ t rs H', H t = none → Same H H' → ws.map tl = rs.map wordL → 1 ≤ N → TreeAt K H' t N rs → D.nx [some v, some (.str h), some (.ref wp), some (.ref t), none] H'
theorem ok_read_tree (F : Fd K "read_tree" sReadT f fd) (g : mg "read_tree" = some (.ref f)) (B : Bl mg) (C : TreeK K mg) (FI : Md K "__init__" "Tree.__init__" sTInit (MT K "__init__") fdI) (mL : Meth K (CT K) "line" (MT K "line"))
    (h_F : ∃ t, mg "FIGURES" = some (.int 2 t)) (gL : mg "LostError" = some (.ref (He.ga K "LostError"))) (O_InvalidText : One P w K mg base "InvalidText" "given") (OH : OneH P w K mg base "InvalidText" "given")
    (ex3 : ∀ x ∈ (["InvalidHouses", "InvalidRoads", "NotJoined"] : List Str), PySem.W.exmOne K (.ref (He.ga K x)) (.ref (He.ga K "LostError")) = some true)
    (oI : FnOk P w K mg base (L2N.CX P w) 3 (MT K "__init__") fdI ["self", "houses", "roads"] (spInit K)) (o_is_number : Ok P w K mg base CX0 1 "is_number" sIsNum ["word", "most"] spIsNum)
    (o_road_of : Ok P w K mg base CX0 2 "road_of" sRoadOf ["word"] spRoadOf) (M : OkM P w K mg base CX0 1 "line" ["self"] (spTLine K)) : Ok P w K mg base (L2.CX P w) 6 "read_tree" sReadT ["text"] (spReadT K) := by
  obtain ⟨t2, h_FIGURES⟩ := h_F
  obtain ⟨fdL, bLn, oLn⟩ := M.ex
  refine ⟨f, fd, g, F, F.bindsN fun _ _ _ _ _ _ us hl => match us, hl with | [_], _ => rfl, F.ok scReadT (fun vs H Q E h => ?_) (fun cdv A outer s H vs Q E hr h => ?_)⟩
  · obtain ⟨v, d, rfl, _⟩ := h
    rfl
  · have tk : L2.Takes (cxOf (L2.CX P w) P w K mg base ["text", "head", "words", "tree", "word"] "read_tree" (defScope sReadT) f cdv A outer s H E) (fun cls d _ H => E cls d H) := L2.takes_of rfl rfl rfl rfl
    have tkN := takes_N tk
    refine ⟨_, pss_cons (ps_if (pt_cmpR op_notTyB (pe_callTy call_type1 (by rfl) (B.u "type" (by decide +kernel)) (by decide +kernel) (pa_cons (pv 0) pa_nil)) (pe_bltn (by rfl) (B.u "str" (by decide +kernel)) (by decide +kernel) (v := .ty "str") rfl) (nomark _))
          (pss_one (L2N.ps_raise rfl tkN (by exact (pmk_e1 O_InvalidText (hr.mono (by decide)) (pv 0) (by rfl)))))
          pss_nil) (pss_cons (ps_asg (pe_split (pv 0) pe_str) (pg_star rfl (pgs_cons (pg_name (i := 1) scReadT.nd rfl (Or.inl rfl)) (pgs_cons (pg_name (i := 2) scReadT.nd rfl (Or.inl rfl)) pgs_nil)))) (pss_cons (ps_if (pt_not (pt_val (pe_o o_is_number (hr.mono (by decide)) (by rfl) (pa_cons (pe_slice sl_str (pv 1) po_none (po_some (pe_un un_neg pe_int))) (pa_cons (pe_glob (by rfl) h_FIGURES (v := .int 2) ⟨_, rfl⟩) pa_nil)))))
          (pss_one (L2N.ps_raise rfl tkN (by exact (pmk_e1 O_InvalidText (hr.mono (by decide)) (pv 0) (by rfl)))))
          pss_nil) (pss_cons (L2H.ps_try_onlyX (Wout := fun cls d _ H => E cls d H) (ts := fun _ _ _ _ σ H => tRs1 0 (He.ga K "InvalidText") "given" σ H (fun cls d H' => E cls d H')) (tb := RT K)
        rfl rfl ⟨by rfl, by decide, .inl gL⟩ (fun hd => L2H.passesAt_of rfl hd) tk
        (fun W pn xe tkb _ _ => pss_mono (pss_one (ps_set (i := 3) scReadT.nd rfl (Or.inl rfl) (pe_makeS C.mkT oI (hr.mono (by decide)) (by rfl) C.g (FI.kbn0 3 [] (pick [0, 1, 2]) (pick_rel [0, 1, 2]) fun _ _ _ _ _ _ us ws l1 l2 => match us, ws, l1, l2 with | [_, _, _], [], _, _ => rfl) (fun σ => L2N.passAt tkb σ) (pa_cons (pe_callTy call_int_str (by rfl) (B.u "int" (by decide +kernel)) (by decide +kernel) (pa_cons (pe_slice sl_str (pv 1) po_none (po_some (pe_un un_neg pe_int))) pa_nil)) (pa_cons (pe_lc (own := [("word", 4)]) (g := gName 4) rfl scReadT.nd (pi_list (pv 2)) (blkOk_by (N := ["text", "head", "words", "tree", "word"]) (sc := defScope sReadT) (by decide +kernel)) (fun _ _ _ _ _ => (pg_name (i := 4) scReadT.nd rfl (Or.inl rfl))) (fun _ _ _ _ _ => pts_nil) (fun _ _ _ _ _ => (pe_o o_road_of (hr.mono (by decide)) (by rfl) (pa_cons (pv 4) pa_nil)))) pa_nil))))) (fun D σ H1 h => ?_))
        (fun a oe cls d pn _ _ tkS hot => pss_one (L2H.ps_raiseHN hot tkS (by exact (pmk_e1H OH (L2H.roomH_mark (hr.mono (by decide)) _) hot (pv 0) (by rfl))))))
      (pss_cons (ps_if (pt_cmpR op_ne (pe_meth0 (pv 3) C.cl mL oLn (hr.mono (by decide)) bLn .nil pass0) (pv 0) (nomark _))
          (pss_one (L2N.ps_raise rfl tkN (by exact (pmk_e1 O_InvalidText (hr.mono (by decide)) (pv 0) (by rfl)))))
          pss_nil) (pss_one (ps_ret (pv 3))))))), ?_⟩
    · -- the try's body
      obtain ⟨v, h, wp, ws, N, rfl, hwp, lws, lw, lh, hN, bad, good⟩ := h
      have lN : (cutS h none (some (-1))).length ≤ 640 := by
        rw [len_tl, cut_last, List.length_dropLast, ← len_tl]
        omega
      refine ⟨_, rfl, _, rfl, _, rfl, h, rfl, two_ln (by omega), _, N, rfl, int_num (by rw [cut_last]; exact hN) lN, lN, _, rfl, wp, rfl, ⟨_, SqL.of hwp⟩, fun D2 hD2 => ?_⟩
      refine lc_gen walk_list (fun _ => true) (fun i y H' => (∃ r : Tm.Road, r.1 < 100 ∧ r.2 < 100 ∧ tl (ws.getD i Str.empty) = wordL r ∧ Rdd H' y (rd r)) ∨ ((¬ ∃ r : Tm.Road, r.1 < 100 ∧ r.2 < 100 ∧ tl (ws.getD i Str.empty) = wordL r) ∧ y = .non))
        (fun i y _ _ k h => h.imp (fun ⟨r, h1, h2, h3, h4⟩ => ⟨r, h1, h2, h3, h4.mono k⟩) id) hD2 (by rw [List.length_map]; omega) (fun H' k => SqL.of (del_sub k _ _ hwp)) ?_ ?_
      · rintro i x H2 H3 K1 N1 hi k2 ⟨o, ho⟩ ⟨rfl, hx⟩ hK _
        rw [List.length_map] at hi
        have gi : ws.getD i Str.empty = ws[i] := by rw [List.getD_eq_getElem?_getD, List.getElem?_eq_getElem hi]; rfl
        rw [List.getElem?_map, List.getElem?_eq_getElem hi] at hx
        obtain rfl := Option.some.inj hx
        refine ⟨rfl, _, rfl, ws[i], rfl, by have := lws _ (List.getElem_mem hi); omega, fun r r1 r2 er t H4 nt k4 ht => ?_, fun nr H4 k4 => ?_⟩
        · refine hK rfl _ _ k4 (.inl ⟨r, r1, r2, by rw [gi]; exact er, ?_⟩)
          refine .tup (xs := [.int r.1, .int r.2]) ?_ (.cons (.int _) (.cons (.int _) .nil))
          rw [del_ne (ne_of_none ho nt).symm]
          exact ht
        · exact hK rfl _ _ k4 (.inr ⟨by rw [gi]; exact nr, rfl⟩)
      · intro ys H2 k2 h2 l2 r2
        rw [filt_all] at l2 r2
        rw [List.length_range, List.length_map] at l2
        obtain ⟨ds, rds, W2⟩ := words_of (H := del H2 D2) l2 fun i w y h1 h3 => by
          have li := (List.getElem?_eq_some_iff.mp h1).1
          have := r2 i i y (by rw [List.getElem?_eq_getElem (by rw [List.length_range, List.length_map]; exact li)]; simp) h3
          rw [List.getD_eq_getElem?_getD, h1] at this
          exact this
        have k3 := del_sub k2
        have ld := W2.len
        refine ⟨rfl, rfl, fun x dx nx ndx nxx => ?_⟩
        have k4 : Same H2 (upd (upd H2 dx (.own x)) x (.ins (CT K) dx [])) := fun b o e => by
          rw [upd_ne (ne_of_none e nx), upd_ne (ne_of_none e ndx)]
          exact e
        have k5 := k3.trans k4
        have nc : Nc 2 100000 (.list ds) := (nc_list W2.nc (l := 700) (by omega)).up
        have ref : ∀ x' ∈ (["InvalidHouses", "InvalidRoads", "NotJoined"] : List Str), ∀ {f' : Str} {v' : V}, (¬ GoodW N ws) → Refuses K x' f' v' (upd (upd H2 dx (.own x)) x (.ins (CT K) dx [])) (L2.WE W [some v, some (.str h), some (.ref wp), none, none]) := fun x' hx' f' v' ng d H' k _ => bad x' hx' ng d H' (k5.trans k)
        have b100 : ∀ {rs : List Tm.Road}, Tm.RoadsOk N rs → N ≤ 64 → ∀ r ∈ rs, r.1 < 100 ∧ r.2 < 100 := fun ok l r hr => by have := ok.bnd r hr; omega
        refine ⟨x, dx, .int N, .ref D2, .int N, .list ds, rfl, upd_same, .int _, .lst (k4 _ _ h2) ((rds.mono del_le).mono k4), nc.tame, ⟨fun nh => ?_, fun n en n1 n2 nr => ?_, fun n rs b h0 en n1 n2 ir ok df hh nk _ => ?_, fun n rs en n1 n2 ir ok jo H3 k6 T => ⟨rfl, ?_⟩⟩⟩
        · exact ref "InvalidHouses" (by decide) fun ⟨rs, g1, g2, _⟩ => nh ⟨N, rfl, g1, g2⟩
        · obtain rfl : N = n := by injection en with e; omega
          refine ref "InvalidRoads" (by decide) fun ⟨rs, g1, g2, g3, g4, _⟩ => nr ⟨rs, .inl ?_, g4⟩
          rw [W2.of_roads g3 (b100 g4 g2)]
        · obtain rfl : N = n := by injection en with e; omega
          refine ref "NotJoined" (by decide) fun ⟨qs, g1, g2, g3, g4, b', df', lb⟩ => nk ?_
          have eds := W2.of_roads g3 (b100 g4 g2)
          obtain rfl : qs = rs := by
            rcases ir with e | e
            · injection e with e
              exact rds_inj (eds.symm.trans e)
            · cases e
          obtain rfl := df.det df'
          have lt : ∀ h, ∀ x ∈ Tm.near qs h, x < N := fun h x hx => (Tm.near_lt ok.bnd hx).1
          have G := df.going (s := 0) .start
          exact Tm.all_keys G.g.nodup (G.g.bound (by omega) lt) (by simpa [Tm.keys] using lb) h0 hh
        · obtain rfl : N = n := by injection en with e; omega
          have eds : ds = rs.map rd := by
            rcases ir with e | e
            · injection e
            · cases e
          refine good x rs H3 ?_ (fun b o e => k6 _ _ (ne_of_none (k3 _ _ e) nx) (k5 _ _ e)) (W2.to_roads eds) n1 T
          cases e : H1 x with
          | none => rfl
          | some o => rw [k3 _ _ e] at nx; cases nx
    · obtain ⟨v, d, rfl, r, ld, no, yes⟩ := h
      refine ⟨_, rfl, _, _, rfl, r.tb, _, _, rfl, rfl, _, rfl, iteB (fun e => ?_) fun e => ?_⟩
      · exact ⟨v, rfl, no fun ⟨s, n, rs, ed, _⟩ => by rw [ed] at e; simp [tyd] at e⟩
      obtain ⟨s, rfl, rfl⟩ := str_of r (of_decide_eq_true (not_f e))
      have ls := ld s rfl
      obtain ⟨h, ws, esp, ep, lh, lws, lw⟩ := split_words s
      have no' : ∀ {H'}, Same H H' → (∀ n rs, ¬ Reads (tl s) n rs) → Refuses K "InvalidText" "given" (.str s) H' E := fun k nr d H2 k2 e2 => no (fun ⟨s', n, rs, ed, R⟩ => by
        injection ed with ed
        subst ed
        exact nr n rs R) d H2 (k.trans k2) e2
      have key : ∀ {n rs}, Reads (tl s) n rs → tl h = headL n ∧ ws.map tl = rs.map wordL := fun R => by
        rw [R.eq, parts_line] at ep
        injection ep with h1 h2
        exact ⟨h1, h2⟩
      have hd : ∀ n, (headL n).dropLast = dg n := fun n => by
        unfold headL
        rw [List.dropLast_concat]
      refine ⟨_, rfl, ⟨s, rfl⟩, s, _, rfl, rfl, rfl, two_ln (by omega), fun p hp => ?_⟩
      rw [esp]
      refine ⟨p, .str h, ws.map V.str, rfl, upd_same, by rw [List.length_map]; omega, fun wp hwp => ⟨_, _, rfl, _, _, rfl, rfl, ?_⟩⟩
      have k2 : Same H (upd (upd H p (.lst ((h :: ws).map V.str))) wp (.lst (ws.map V.str))) := (upd_grow hp).trans (upd_grow hwp)
      have hwp2 : upd (upd H p (.lst ((h :: ws).map V.str))) wp (.lst (ws.map V.str)) wp = some (.lst (ws.map V.str)) := upd_same
      generalize upd (upd H p (.lst ((h :: ws).map V.str))) wp (.lst (ws.map V.str)) = H2 at k2 hwp2 ⊢
      have lN : (cutS h none (some (-1))).length ≤ 640 := by
        rw [len_tl, cut_last, List.length_dropLast, ← len_tl]
        omega
      refine ⟨_, rfl, _, rfl, _, rfl, h, rfl, two_ln (by omega), _, 2, rfl, by omega, fun b H3 k3 hb => ⟨_, rfl, iteB (fun e1 => ?_) fun e1 => ?_⟩⟩
      · refine ⟨_, rfl, no' (k2.trans k3) fun n rs R => ?_⟩
        have : b = true := hb.mpr ⟨by
          rw [len_tl, cut_last, (key R).1, hd]
          exact dg_len (by have := R.le; omega), n, by rw [cut_last, (key R).1, hd]⟩
        rw [this] at e1
        cases e1
      obtain ⟨l2, N, eN⟩ := hb.mp (not_f e1)
      rw [cut_last] at eN
      have k03 := k2.trans k3
      have nrd : ∀ {n rs}, Reads (tl s) n rs → n = N ∧ ws.map tl = rs.map wordL := fun R => by
        obtain ⟨h1, h2⟩ := key R
        rw [h1, hd] at eN
        exact ⟨dg_inj eN, h2⟩
      refine ⟨.str s, h, wp, ws, N, rfl, k3 _ _ hwp2, fun w hw => by have := lws w hw; omega, by omega, by omega, eN, fun x hx ng d H4 k4 => ?_, fun t rs H4 nt k4 ew n1 T => ?_⟩
      · refine ⟨true, ex3 x hx, fun _ a ha => ⟨_, rfl, no' (k03.trans k4) fun n rs R => ng ?_⟩, fun z => nomatch z⟩
        obtain ⟨rfl, h2⟩ := nrd R
        exact ⟨rs, R.ge, R.le, h2, R.ok, R.jo⟩
      · obtain ⟨dx, rt, nt', h1, _, _⟩ := T.ex
        refine ⟨_, rfl, t, dx, _, rfl, h1, rfl, t, N, rs, rfl, T, fun H5 k5 => ⟨_, rfl, rfl, _, rfl, iteB (fun e2 => ?_) fun e2 => ?_⟩⟩
        · refine ⟨_, rfl, no' (k03.trans (k4.trans k5)) fun n qs R => ?_⟩
          obtain ⟨rfl, h2⟩ := nrd R
          have := map_word_inj (ew.symm.trans h2)
          subst this
          have e3 := of_decide_eq_false (not_t e2)
          exact e3 (congrArg V.str (mkS_eq R.eq).symm)
        · have e3 := of_decide_eq_true (not_f e2)
          injection e3 with e3
          refine ⟨_, rfl, yes s N rs rfl ⟨by rw [← e3, tl_mkS], n1, T.le, T.ok, T.jo⟩ t H5 ?_ (k03.trans (k4.trans k5)) (T.mono k5)⟩
          cases e : H t with
          | none => rfl
          | some o => rw [k03 _ _ e] at nt; cases nt
end
end K03

/-! xs != [] for any list -/
namespace L2
open PySem PySem.Spec PyProof.Rows
theorem ne_list_lengths {prog : Program} {w : World} {A : Around} {E : Value → Shared → Prop} {s : Shared} {l b : Addr} {items items2 : Array Value} {Q : Value → Shared → Prop}
    (h1 : s.heap.IsList l items) (h2 : s.heap.IsList b items2) (ne : (items.size != items2.size) = true) (hu : A.units < cLine) (q : Q (.bool true) s) : wpAny (model prog w) A (compareOp .NotEq (.ref l) (.ref b)) Q E s := by
  obtain ⟨⟨c1, dd, dt1, sl⟩, g1, e1, n, e2⟩ := id h1
  obtain ⟨⟨c2, dd2, dt2, sl2⟩, g2, e3, n2, e4⟩ := id h2
  simp only at e1 e2 e3 e4
  subst e1 e2 e3 e4
  show wpAny _ _ (richCompare .NotEq _ _) _ _ _
  exact richCompare_meets_room h1.typeIs h2.typeIs F.slot_list_ne F.entry_list_ne (F.args_list_ne_2 _ _) (SeqAt.list_ne_lengthsAt l b items items2 n n2 dd dd2 sl sl2 ne) ⟨g1, g2, by show Value.bool true ≠ Value.notImplemented ∧ _; exact ⟨(fun z => by cases z), q⟩⟩ hu
def rNeNil (K : PySem.W.Frag) : R2 := fun x y H Q => ∃ (a b : Addr) (xs : List V), x = .ref a ∧ y = .ref b ∧ SqL K H a xs ∧ SqL K H b [] ∧ Q (.bl (!xs.isEmpty)) H
theorem op_neNil {X : Cx} (hu : X.A.units + 64 < cLine) : OpR X (compareOp .NotEq) (rNeNil X.K) := by
  intro pins s σ H x y v u Q I rx ry h
  obtain ⟨a, b, xs, rfl, rfl, ha, hb, q⟩ := h
  cases xs with
  | nil => exact op_neD hu pins s σ H _ _ v u Q I rx ry ⟨.list [], .list [], .lst ha .nil, .lst hb .nil, rfl, rfl, q⟩
  | cons z zs =>
    obtain rfl : v = Value.ref a := rx
    obtain rfl : u = Value.ref b := ry
    obtain ⟨i1, r1, p1, _⟩ := I.list ha
    obtain ⟨i2, r2, p2, _⟩ := I.list hb
    cases r2
    cases r1 with
    | cons r1 r3 => exact ne_list_lengths p1.isList p2.isList (by simp) (by omega) ⟨.bl true, H, I, rfl, q⟩
end L2

/-! more comprehensions; small words -/
namespace L2
open PySem PySem.Spec PyProof.Rows
/-- .. the new list told: over what is walked, its test p, its items as R tells; the new list at D is no part of what R speaks of -/
theorem lc_genL {J : It} {n : Nat} {G : Hp → Prop} {Y : Nat → Hp → V → Hp → Prop} (w : Walk J n G Y) {g : TG} {tt : TT} {te : TE} {vs : List Nat} {σ : St} {H : Hp} {D : Addr} {Qd : Hp → Prop} (p : Nat → Bool) (R : Nat → V → Hp → Prop)
    (Rm : ∀ i y H1 H2, Same H1 H2 → R i y H1 → R i y H2) (hD : H D = none) (hn : n ≤ 16777215) (hG : ∀ H', Same H (del H' D) → G H')
    (he : ∀ i x H1 H2 (K : V → Hp → Prop) (N : Hp → Prop), i < n → Same H (del H1 D) → (∃ zs, H1 D = some (.lst zs)) → Y i H1 x H2 → (p i = true → ∀ y H4, Same H1 H4 → R i y (del H4 D) → K y H4) → (p i = false → ∀ H4, Same H1 H4 → N H4) →
      g x (wipe σ vs) H2 fun σ2 H2' => wipe σ2 vs = wipe σ vs ∧ tt σ2 H2' fun b H3 => if b = true then te σ2 H3 K else N H3)
    (q : ∀ (ys : List V) (H' : Hp), Same H (del H' D) → H' D = some (.lst ys) → ys.length = ((List.range n).filter p).length → (∀ (k i : Nat) (y : V), ((List.range n).filter p)[k]? = some i → ys[k]? = some y → R i y (del H' D)) → Qd H') :
    ∃ W : Nat → Nat → Hp → Prop, (∃ m, W 0 m (upd H D (.lst []))) ∧ ∀ i m H, W i m H →
      (J.stop i H ∧ Qd H) ∨ (J.go i H ∧ ∃ Nx : Hp → Prop, (∀ H', Nx H' → ∃ m', m' < m ∧ W (i + 1) m' H') ∧ ∀ x H', J.yld i H x H' → g x (wipe σ vs) H' fun σ2 H2 => wipe σ2 vs = wipe σ vs ∧ tt σ2 H2 fun b H3 =>
        if b = true then te σ2 H3 fun y H4 => ∃ acc, H4 D = some (.lst acc) ∧ acc.length < sizeLine ∧ Nx (upd H4 D (.lst (acc ++ [y]))) else Nx H3) := by
  have step : ∀ i, (List.range (i + 1)).filter p = (List.range i).filter p ++ (if p i = true then [i] else []) := fun i => by
    rw [List.range_succ, List.filter_append]
    by_cases e : p i = true
    · rw [if_pos e, List.filter_cons_of_pos e] <;> rfl
    · rw [if_neg e, List.filter_cons_of_neg e] <;> rfl
  refine lc_it w (fun i H' => Same H (del H' D) ∧ ∃ ys, H' D = some (.lst ys) ∧ ys.length = ((List.range i).filter p).length ∧ ∀ (k j : Nat) (y : V), ((List.range i).filter p)[k]? = some j → ys[k]? = some y → R j y (del H' D)) ?_ (fun i H' _ h => hG H' h.1) ?_ ?_
  · refine ⟨fun b o e => ?_, [], upd_same, rfl, fun k j y h => by simp at h⟩
    rw [del_ne (ne_of_none e hD), upd_ne (ne_of_none e hD)]
    exact e
  · rintro i x H1 H2 hi ⟨k1, ys, h1, l1, r1⟩ hy
    have bound : ((List.range i).filter p).length ≤ i := by
      have := List.length_filter_le p (List.range i)
      rwa [List.length_range] at this
    refine he i x H1 H2 _ _ hi k1 ⟨_, h1⟩ hy (fun e y H4 k4 r4 => ?_) (fun e H4 k4 => ?_)
    · refine ⟨ys, k4 _ _ h1, by rw [l1]; exact lt_ln (by omega), (fun b o z => ?_), _, upd_same, ?_, ?_⟩
      · have z1 := k1 b o z
        have nb : b ≠ D := ne_of_none z hD
        rw [del_ne nb] at z1 ⊢
        rw [upd_ne nb]
        exact k4 _ _ z1
      · rw [step, if_pos e, List.length_append, List.length_append, l1] <;> rfl
      · intro k j y2 hk hy2
        have dd : del (upd H4 D (.lst (ys ++ [y]))) D = del H4 D := by
          funext b
          by_cases nb : b = D
          · rw [nb, del_same, del_same]
          · rw [del_ne nb, del_ne nb, upd_ne nb]
        rw [dd]
        rw [step, if_pos e] at hk
        by_cases c : k < ys.length
        · rw [List.getElem?_append_left (by omega)] at hk
          rw [List.getElem?_append_left c] at hy2
          exact Rm _ _ _ _ (del_mono k4) (r1 k j y2 hk hy2)
        · have lt := (List.getElem?_eq_some_iff.mp hy2).1
          rw [List.length_append] at lt
          have ek : k = ys.length := by
            have : ([y] : List V).length = 1 := rfl
            omega
          subst ek
          rw [List.getElem?_append_right (by omega)] at hk
          rw [List.getElem?_append_right (Nat.le_refl _)] at hy2
          rw [← l1, Nat.sub_self] at hk
          rw [Nat.sub_self] at hy2
          obtain rfl : i = j := by simpa using hk
          obtain rfl : y = y2 := by simpa using hy2
          exact r4
    · refine ⟨(fun b o z => ?_), ys, k4 _ _ h1, ?_, ?_⟩
      · have z1 := k1 b o z
        have nb : b ≠ D := ne_of_none z hD
        rw [del_ne nb] at z1 ⊢
        exact k4 _ _ z1
      · rw [step, if_neg (by rw [e]; exact Bool.false_ne_true), List.append_nil, l1]
      · intro k j y2 hk hy2
        rw [step, if_neg (by rw [e]; exact Bool.false_ne_true), List.append_nil] at hk
        exact Rm _ _ _ _ (del_mono k4) (r1 k j y2 hk hy2)
  · rintro H1 ⟨k1, ys, h1, l1, r1⟩
    exact q ys H1 k1 h1 l1 r1
theorem lc_genBL {J : It} {n : Nat} {G : Hp → Prop} {Y : Nat → Hp → V → Hp → Prop} (w : Walk J n G Y) {g : TG} {tt : TT} {te : TE} {vs : List Nat} {σ : St} {H : Hp} {p D : Addr} {o : HO} {Qd : Hp → Prop} (S : Nat → Hp → Prop) (R : Nat → V → Hp → Prop)
    (Rm : ∀ i y H1 H2, Same H1 H2 → R i y H1 → R i y H2) (Sm : ∀ i H1 H2, H1 p = H2 p → S i H1 → S i H2) (hp : H p = some o) (s0 : S 0 H) (hD : H D = none) (hn : n ≤ 16777215) (hG : ∀ H', Same (del H p) (del (del H' D) p) → G H')
    (he : ∀ i x H1 H2 (K : V → Hp → Prop) (N : Hp → Prop), i < n → Same (del H p) (del (del H1 D) p) → (∃ zs, H1 D = some (.lst zs)) → S i H1 → Y i H1 x H2 → (∀ y H4, But p H1 H4 → S (i + 1) H4 → R i y (del (del H4 D) p) → K y H4) →
      g x (wipe σ vs) H2 fun σ2 H2' => wipe σ2 vs = wipe σ vs ∧ tt σ2 H2' fun b H3 => if b = true then te σ2 H3 K else N H3)
    (q : ∀ (ys : List V) (H' : Hp), Same (del H p) (del (del H' D) p) → S n H' → H' D = some (.lst ys) → ys.length = n → (∀ (i : Nat) (y : V), ys[i]? = some y → R i y (del (del H' D) p)) → Qd H') :
    ∃ W : Nat → Nat → Hp → Prop, (∃ m, W 0 m (upd H D (.lst []))) ∧ ∀ i m H, W i m H →
      (J.stop i H ∧ Qd H) ∨ (J.go i H ∧ ∃ Nx : Hp → Prop, (∀ H', Nx H' → ∃ m', m' < m ∧ W (i + 1) m' H') ∧ ∀ x H', J.yld i H x H' → g x (wipe σ vs) H' fun σ2 H2 => wipe σ2 vs = wipe σ vs ∧ tt σ2 H2 fun b H3 =>
        if b = true then te σ2 H3 fun y H4 => ∃ acc, H4 D = some (.lst acc) ∧ acc.length < sizeLine ∧ Nx (upd H4 D (.lst (acc ++ [y]))) else Nx H3) := by
  have nD : p ≠ D := ne_of_none hp hD
  have dd : ∀ {H4 : Hp} {ys : List V}, del (upd H4 D (.lst ys)) D = del H4 D := fun {H4 ys} => by
    funext b
    by_cases nb : b = D
    · rw [nb, del_same, del_same]
    · rw [del_ne nb, del_ne nb, upd_ne nb]
  have bb : ∀ {H1 H4 : Hp}, But p H1 H4 → Same (del (del H1 D) p) (del (del H4 D) p) := fun k b o e => by
    by_cases nb : b = p
    · rw [nb, del_same] at e; cases e
    · rw [del_ne nb] at e ⊢
      by_cases nd : b = D
      · rw [nd, del_same] at e; cases e
      · rw [del_ne nd] at e ⊢
        exact k b o nb e
  refine lc_it w (fun i H' => Same (del H p) (del (del H' D) p) ∧ S i H' ∧ ∃ ys, H' D = some (.lst ys) ∧ ys.length = i ∧ ∀ (j : Nat) (y : V), ys[j]? = some y → R j y (del (del H' D) p)) ?_ (fun i H' _ h => hG H' h.1) ?_ ?_
  · refine ⟨fun b o e => ?_, Sm 0 H _ (by rw [upd_ne nD]) s0, [], upd_same, rfl, fun j y h => by simp at h⟩
    by_cases nb : b = p
    · rw [nb, del_same] at e; cases e
    · rw [del_ne nb] at e ⊢
      rw [del_ne (ne_of_none e hD), upd_ne (ne_of_none e hD)]
      exact e
  · rintro i x H1 H2 hi ⟨k1, s1, ys, h1, l1, r1⟩ hy
    refine he i x H1 H2 _ _ hi k1 ⟨_, h1⟩ s1 hy (fun y H4 k4 s4 r4 => ?_)
    have h4 := k4 D _ nD.symm h1
    refine ⟨ys, h4, by rw [l1]; exact lt_ln (by omega), ?_, Sm _ H4 _ (by rw [upd_ne nD]) s4, _, upd_same, by rw [List.length_append, l1]; rfl, ?_⟩
    · rw [dd]
      exact k1.trans (bb k4)
    · intro j y2 hy2
      rw [dd]
      by_cases c : j < ys.length
      · rw [List.getElem?_append_left c] at hy2
        exact Rm _ _ _ _ (bb k4) (r1 j y2 hy2)
      · have lt := (List.getElem?_eq_some_iff.mp hy2).1
        rw [List.length_append] at lt
        have ek : j = ys.length := by
          have : ([y] : List V).length = 1 := rfl
          omega
        subst ek
        rw [List.getElem?_append_right (Nat.le_refl _), Nat.sub_self] at hy2
        obtain rfl : y = y2 := by simpa using hy2
        rw [l1]
        exact r4
  · rintro H1 ⟨k1, s1, ys, h1, l1, r1⟩
    exact q ys H1 k1 s1 h1 l1 r1

theorem del_comm {H : Hp} {a b : Addr} : del (del H a) b = del (del H b) a := by
  funext c
  unfold del
  split <;> split <;> rfl
theorem but_of {p D : Addr} {H H' : Hp} (k : Same (del H p) (del (del H' D) p)) : But p H H' := fun b o nb e => del_le _ _ (del_le _ _ (k b o (by rw [del_ne nb]; exact e)))
theorem tSeq_by {a b : TS} {D : Ends} {σ : L2.St} {H : Hp} (R : L2.St → Hp → Prop) (h1 : ∀ σ' H', R σ' H' → b D σ' H') (h2 : (∀ σ' H', R σ' H' → b D σ' H') → a { nx := b D, rt := D.rt, bk := D.bk, ct := D.ct } σ H) : tSeq a b D σ H := h2 h1
theorem rdd_ne {X : Hp} {p : Addr} {v : V} {d : PyData} (r : Rdd (del X p) v d) : v ≠ .ref p := by
  rintro rfl
  cases r with
  | lst h _ => rw [del_same] at h; cases h
  | tup h _ => rw [del_same] at h; cases h
  | dK h _ _ => rw [del_same] at h; cases h
theorem eq_list_lengths {prog : Program} {w : World} {A : Around} {E : Value → Shared → Prop} {s : Shared} {l b : Addr} {items items2 : Array Value} {Q : Value → Shared → Prop}
    (h1 : s.heap.IsList l items) (h2 : s.heap.IsList b items2) (ne : (items.size != items2.size) = true) (hu : A.units < cLine) (q : Q (.bool false) s) : wpAny (model prog w) A (compareOp .Eq (.ref l) (.ref b)) Q E s := by
  obtain ⟨⟨c1, dd, dt1, sl⟩, g1, e1, n, e2⟩ := id h1
  obtain ⟨⟨c2, dd2, dt2, sl2⟩, g2, e3, n2, e4⟩ := id h2
  simp only at e1 e2 e3 e4
  subst e1 e2 e3 e4
  show wpAny _ _ (richCompare .Eq _ _) _ _ _
  exact richCompare_meets_room h1.typeIs h2.typeIs F.slot_list_eq F.entry_list_eq (F.args_list_eq_2 _ _) (SeqAt.list_eq_lengthsAt l b items items2 n n2 dd dd2 sl sl2 ne) ⟨g1, g2, by show Value.bool false ≠ Value.notImplemented ∧ _; exact ⟨(fun z => by cases z), q⟩⟩ hu
/-- xs == [], whatever the items are -/
def rEqNil (K : PySem.W.Frag) : R2 := fun x y H Q => ∃ (a b : Addr) (xs : List V), x = .ref a ∧ y = .ref b ∧ SqL K H a xs ∧ SqL K H b [] ∧ Q (.bl xs.isEmpty) H
theorem op_eqNil {X : Cx} (hu : X.A.units + 64 < cLine) : OpR X (compareOp .Eq) (rEqNil X.K) := by
  intro pins s σ H x y v u Q I rx ry h
  obtain ⟨a, b, xs, rfl, rfl, ha, hb, q⟩ := h
  cases xs with
  | nil => exact op_eqD hu pins s σ H _ _ v u Q I rx ry ⟨.list [], .list [], .lst ha .nil, .lst hb .nil, rfl, rfl, q⟩
  | cons z zs =>
    obtain rfl : v = Value.ref a := rx
    obtain rfl : u = Value.ref b := ry
    obtain ⟨i1, r1, p1, _⟩ := I.list ha
    obtain ⟨i2, r2, p2, _⟩ := I.list hb
    cases r2
    cases r1 with
    | cons r1 r3 => exact eq_list_lengths p1.isList p2.isList (by simp) (by omega) ⟨.bl false, H, I, rfl, q⟩
end L2

namespace K03
open PySem PySem.Spec PyProof.Rows L2 Tn TL
abbrev sLWrit : Stmt := top 27
theorem scLWrit : FnScope ["houses", "roads", "u", "v"] ["houses", "roads"] (defScope sLWrit) := ⟨rfl, rfl, rfl, by decide +kernel, rfl, by decide +kernel, by decide +kernel⟩
abbrev sLNum : Stmt := top 28
theorem scLNum : FnScope ["word", "sign"] ["word"] (defScope sLNum) := ⟨rfl, rfl, rfl, by decide +kernel, rfl, by decide +kernel, by decide +kernel⟩
/-- the roads as a list -/
def spLWrit : Sp := fun vs H Q _ => ∃ (n : Nat) (r : Addr) (rs : List Tm.Road), vs = [.int n, .ref r] ∧ n < 100 ∧ Rdd H (.ref r) (.list (rs.map rd)) ∧ (∀ q ∈ rs, q.1 < 100 ∧ q.2 < 100) ∧ rs.length ≤ 200 ∧ ∀ H', Same H H' → Q (.str (mkS (lineL n rs))) H'
def spLNum : Sp := fun vs H Q _ => ∃ (z : Str), vs = [.str z] ∧ z.length ≤ 640 ∧ (∀ n, tl z = dg n → ∀ H', Same H H' → Q (.int (n : Nat)) H') ∧ ((¬ ∃ n, tl z = dg n) → ∀ H', Same H H' → Q .non H')
theorem pair_at {H : Hp} {xs : List V} {rs : List Tm.Road} {i : Nat} {x : V} (ra : RddAll H xs (rs.map rd)) (hx : xs[i]? = some x) : ∃ (hi : i < rs.length) (p : Addr), x = .ref p ∧ H p = some (.tup [.int (rs[i].1 : Nat), .int (rs[i].2 : Nat)]) := by
  have l := rdds_len ra
  rw [List.length_map] at l
  have hi : i < rs.length := by have := (List.getElem?_eq_some_iff.mp hx).1; omega
  obtain ⟨x', hx', rx⟩ := rdds_get ra (show (rs.map rd)[i]? = some (rd rs[i]) by rw [List.getElem?_map, List.getElem?_eq_getElem hi]; rfl)
  rw [hx] at hx'
  obtain rfl : x = x' := Option.some.inj hx'
  refine ⟨hi, ?_⟩
  generalize rs[i] = r at rx
  obtain ⟨u, v⟩ := r
  unfold rd at rx
  cases rx with
  | @tup pt ys es h r2 =>
    obtain ⟨y1, y2, rfl, r3, r4⟩ := rdds_two r2
    cases r3
    cases r4
    exact ⟨pt, rfl, h⟩
theorem word_str2 (u v : Nat) : (" " : Str) ++ Str.ofString (toString (u : Int)) ++ ("-" : Str) ++ Str.ofString (toString (v : Int)) = mkS (32 :: wordL (u, v)) := by
  refine ext_tl ?_
  rw [tl_append, tl_append, tl_append, num_tl, num_tl, tl_mkS, dash_eq, space_eq]
  show [32] ++ dg u ++ [45] ++ dg v = 32 :: (dg u ++ 45 :: dg v)
  simp
theorem colon_eq : tl (":" : Str) = [58] := by decide +kernel
theorem getD_at {α : Type} {l : List α} {i : Nat} {d : α} (h : i < l.length) : l.getD i d = l[i] := by rw [List.getD_eq_getElem?_getD, List.getElem?_eq_getElem h]; rfl
section
variable {P : Program} {w : World} {K : PySem.W.Frag} {mg : Str → Option Value} {base : Heap} {f : Addr} {fd : FuncData}
theorem ok_written (F : Fd K "_law_written" sLWrit f fd) (g : mg "_law_written" = some (.ref f)) (B : Bl mg) : Ok P w K mg base CX0 1 "_law_written" sLWrit ["houses", "roads"] spLWrit := by
  refine ⟨f, fd, g, F, F.bindsN fun _ _ _ _ _ _ us hl => match us, hl with | [_, _], _ => rfl, F.ok scLWrit (fun vs H Q E h => ?_) (fun cdv A outer s H vs Q E hr h => ?_)⟩
  · obtain ⟨n, r, rs, rfl, _⟩ := h
    rfl
  · refine ⟨_, (pss_one (ps_ret (pe_op op_add_str (pe_op op_add_str (pe_callTy call_str_int (by rfl) (B.u "str" (by decide +kernel)) (by decide +kernel) (pa_cons (pv 0) pa_nil)) pe_str) (pe_join pe_str (pe_lc (own := [("u", 2), ("v", 3)]) (g := gTup K 2 (gCons (gName 2) (gCons (gName 3) gNil))) rfl scLWrit.nd (pi_list (pv 1)) (blkOk_by (N := ["houses", "roads", "u", "v"]) (sc := defScope sLWrit) (by decide +kernel)) (fun _ _ _ _ _ => (pg_tup rfl (pgs_cons (pg_name (i := 2) scLWrit.nd rfl (Or.inl rfl)) (pgs_cons (pg_name (i := 3) scLWrit.nd rfl (Or.inl rfl)) pgs_nil)))) (fun _ _ _ _ _ => pts_nil) (fun _ _ _ _ _ => (pe_op op_add_str (pe_op op_add_str (pe_op op_add_str pe_str (pe_callTy call_str_int (by rfl) (B.u "str" (by decide +kernel)) (by decide +kernel) (pa_cons (pv 2) pa_nil))) pe_str) (pe_callTy call_str_int (by rfl) (B.u "str" (by decide +kernel)) (by decide +kernel) (pa_cons (pv 3) pa_nil))))))))), ?_⟩
    obtain ⟨n, r, rs, rfl, n1, hr0, bd, lr, q⟩ := h
    have ln := num_len n1
    refine ⟨_, rfl, _, rfl, nat_log n1, _, _, rfl, rfl, two_ln ?_, ⟨_, rfl⟩, ?_⟩
    · show (Str.ofString (toString (n : Int))).length + 1 ≤ _
      omega
    cases hr0 with
    | @lst _ xs _ hl ra =>
      have lx := rdds_len ra
      rw [List.length_map] at lx
      refine ⟨_, rfl, _, rfl, ⟨_, SqL.of hl⟩, fun D hD => ?_⟩
      refine lc_gen walk_list (fun _ => true) (fun i y _ => y = .str (mkS (32 :: wordL (rs.getD i (0, 0))))) (fun _ _ _ _ _ h => h) hD (by omega) (fun H' k => SqL.of (del_sub k _ _ hl)) ?_ ?_
      · rintro i x H2 H3 K1 N1 hi k2 ⟨o, ho⟩ ⟨rfl, hx⟩ hK _
        obtain ⟨hi2, pt, rfl, hp⟩ := pair_at (ra.mono (del_sub k2)) hx
        have bi := bd _ (List.getElem_mem hi2)
        rw [getD_at hi2] at hK
        generalize rs[i] = ro at hp bi hK
        obtain ⟨u, v⟩ := ro
        simp only at bi
        have l1 := num_len bi.1
        have l2 := num_len bi.2
        refine ⟨pt, _, rfl, SqT.of hp, rfl, _, _, rfl, _, _, rfl, rfl, rfl, ?_⟩
        refine ⟨_, rfl, _, rfl, nat_log bi.1, _, _, rfl, rfl, two_ln ?_, _, _, rfl, rfl, two_ln ?_, _, rfl, _, rfl, nat_log bi.2, _, _, rfl, rfl, two_ln ?_, ?_⟩
        · show 1 + (Str.ofString (toString (u : Int))).length ≤ _
          omega
        · rw [strLen_append]
          show 1 + (Str.ofString (toString (u : Int))).length + 1 ≤ _
          omega
        · rw [strLen_append, strLen_append]
          show 1 + (Str.ofString (toString (u : Int))).length + 1 + (Str.ofString (toString (v : Int))).length ≤ _
          omega
        · rw [word_str2]
          exact hK rfl _ _ (Same.refl _) rfl
      · intro ys H2 k2 h2 l2 r2
        rw [filt_all] at l2 r2
        have e := map_of (F := fun i => V.str (mkS (32 :: wordL (rs.getD i (0, 0))))) l2 r2
        have e2 : ys = (rs.map fun r => mkS (32 :: wordL r)).map V.str := by
          rw [e, lx]
          apply List.ext_getElem
          · simp
          · intro i a b
            simp only [List.length_map, List.length_range] at a
            simp only [List.getElem_map, List.getElem_range, getD_at a]
        rw [e2] at h2
        have s1 : (rs.map ((fun x => x.length) ∘ fun r => mkS (32 :: wordL r))).sum ≤ 6 * rs.length := sum_le _ 6 fun r hr => by
          show (mkS (32 :: wordL r)).length ≤ 6
          rw [len_tl, tl_mkS, List.length_cons]
          have := word_len (bd r hr).1 (bd r hr).2
          omega
        refine ⟨_, _, rs.map fun r => mkS (32 :: wordL r), rfl, rfl, .inl (SqL.of h2), ?_, _, _, rfl, rfl, two_ln ?_, ?_⟩
        · rw [List.map_map]
          have s3 : (Str.ofString "" : Str).length = 0 := rfl
          rw [s3]
          omega
        · have e3 : (Txt.join (Str.ofString "") (rs.map fun r => mkS (32 :: wordL r))).length ≤ 6 * rs.length := by
            rw [len_tl, join_eq, tl_join, List.map_map]
            show (joinL [] (rs.map (tl ∘ fun r => mkS (32 :: wordL r)))).length ≤ _
            rw [joinL_nil]
            exact flat_len bd
          rw [strLen_append]
          show (Str.ofString (toString (n : Int))).length + 1 + _ ≤ _
          omega
        · have ej : Str.ofString (toString (n : Int)) ++ (":" : Str) ++ Txt.join (Str.ofString "") (rs.map fun r => mkS (32 :: wordL r)) = mkS (lineL n rs) := by
            refine ext_tl ?_
            rw [tl_append, tl_append, num_tl, colon_eq, join_eq, tl_join, tl_mkS, List.map_map, line_flat]
            show dg n ++ [58] ++ joinL [] (rs.map (tl ∘ fun r => mkS (32 :: wordL r))) = _
            rw [joinL_nil]
            rfl
          rw [ej]
          exact q _ (del_sub k2)
theorem ok_lnumber (F : Fd K "_law_number" sLNum f fd) (g : mg "_law_number" = some (.ref f)) (B : Bl mg) : Ok P w K mg base CX0 1 "_law_number" sLNum ["word"] spLNum := by
  refine ⟨f, fd, g, F, F.bindsN fun _ _ _ _ _ _ us hl => match us, hl with | [_], _ => rfl, F.ok scLNum (fun vs H Q E h => ?_) (fun cdv A outer s H vs Q E hr h => ?_)⟩
  · obtain ⟨z, rfl, _⟩ := h
    rfl
  · have hu : (cxOf CX0 P w K mg base ["word", "sign"] "_law_number" (defScope sLNum) f cdv A outer s H E).A.units + 64 < cLine := by
      have z := hr.un
      show (A.deeper _).units + 64 < cLine
      omega
    refine ⟨_, (pss_cons (ps_if (pw_or (pt_cmpR op_eq (pv 0) pe_str (nomark _)) (pw_or1 (pt_cmpR (op_neNil hu) (pe_lc (own := [("sign", 1)]) (g := gName 1) rfl scLNum.nd (pi_str (pv 0)) (blkOk_by (N := ["word", "sign"]) (sc := defScope sLNum) (by decide +kernel)) (fun _ _ _ _ _ => (pg_name (i := 1) scLNum.nd rfl (Or.inl rfl))) (fun _ _ _ _ _ => (pts_one (pt_not (pt_chain op_le op_le pe_int (pe_callB call_ord (by rfl) (B.u "ord" (by decide +kernel)) (by decide +kernel) (pa_cons (pv 1) pa_nil)) pe_int)))) (fun _ _ _ _ _ => (pv 1))) (pe_lst pa_nil) (nomark _)))).pt
        (pss_one (ps_ret pe_non))
        pss_nil)
      (pss_cons (ps_if (pw_and (pt_cmpR op_eq (pe_ix ix_seq (pv 0) pe_int fun _ _ => rfl) pe_str (nomark _)) (pw_and1 (pt_cmpR op_ne (pv 0) pe_str (nomark _)))).pt
        (pss_one (ps_ret pe_non))
        pss_nil)
      (pss_one (ps_ret (pe_callTy call_int_str (by rfl) (B.u "int" (by decide +kernel)) (by decide +kernel) (pa_cons (pv 0) pa_nil)))))), ?_⟩
    obtain ⟨z, rfl, hz, yes, no⟩ := h
    have lz := len_tl z
    have szz : z.cps.size = (tl z).length := lz
    refine ⟨_, rfl, rfl, _, rfl, iteB (fun e => ?_) fun e => ?_⟩
    · refine no (fun ⟨n, en⟩ => ?_) H (Same.refl H)
      have e := of_decide_eq_true e
      injection e with e
      rw [e] at en
      exact absurd en.symm (dg_ne n)
    have ne : tl z ≠ [] := fun q => of_decide_eq_false e (congrArg V.str (ext_tl (y := Str.ofString "") (by rw [q]; rfl)))
    refine ⟨_, rfl, _, rfl, fun D hD => ?_⟩
    have good : ∀ c : Nat, (decide (48 ≤ c) && decide (c ≤ 57)) = true ↔ 48 ≤ c ∧ c ≤ 57 := fun c => by simp
    refine lc_gen walk_str (fun i => !(decide (48 ≤ (tl z).getD i 0) && decide ((tl z).getD i 0 ≤ 57))) (fun i y _ => True) (fun _ _ _ _ _ h => h) hD (by rw [szz, ← lz]; omega) (fun _ _ => True.intro) ?_ ?_
    · rintro i x H1 H2 K1 N1 hi k1 ⟨o, ho⟩ ⟨rfl, c, hc, rfl⟩ hK hN
      have gc : (tl z).getD i 0 = c := by
        rw [List.getD_eq_getElem?_getD, tl_get hc]
        rfl
      rw [gc] at hK hN
      refine ⟨rfl, _, rfl, _, rfl, rfl, _, _, rfl, rfl, _, rfl, ?_⟩
      show if decide ((48 : Int) ≤ (c : Int)) = true then _ else _
      refine iteB (fun e1 => ⟨_, _, rfl, rfl, _, rfl, ?_⟩) fun e1 => ?_
      · show if (!decide ((c : Int) ≤ (57 : Int))) = true then _ else _
        refine iteB (fun e2 => ⟨_, rfl, hK ?_ _ _ (Same.refl _) True.intro⟩) fun e2 => hN ?_ _ (Same.refl _)
        · have := of_decide_eq_false (not_t e2)
          simp
          omega
        · have := of_decide_eq_true (not_f e2)
          have := of_decide_eq_true e1
          simp
          omega
      · refine ⟨false, rfl, iteT ⟨_, rfl, hK ?_ _ _ (Same.refl _) True.intro⟩⟩
        have := of_decide_eq_false e1
        simp
        omega
    · intro ys H1 k1 h1 l1 _
      have k2 := del_sub k1
      refine ⟨two_ln (by show 0 ≤ _; decide), fun pe hpe => ⟨D, pe, ys, rfl, rfl, SqL.of (upd_grow hpe _ _ h1), SqL.of upd_same, _, rfl, iteB (fun e1 => ?_) fun e1 => ?_⟩⟩
      · refine no (fun ⟨n, en⟩ => ?_) _ (k2.trans (upd_grow hpe))
        have : (List.range z.cps.size).filter (fun i => !(decide (48 ≤ (tl z).getD i 0) && decide ((tl z).getD i 0 ≤ 57))) = [] := by
          rw [List.filter_eq_nil_iff]
          intro i hi
          have hi : i < (tl z).length := by rw [← szz]; exact List.mem_range.mp hi
          have m := dg_all n ((tl z)[i]) (by rw [← en]; exact List.getElem_mem hi)
          rw [getD_at hi, decide_eq_true m.1, decide_eq_true m.2]
          decide
        rw [this] at l1
        have : ys = [] := List.eq_nil_of_length_eq_zero l1
        rw [this] at e1
        simp at e1
      · have ys0 : ys = [] := by
          cases ys with
          | nil => rfl
          | cons _ _ => simp at e1
        have all : NumText.AllDigits (tl z) := by
          rw [ys0] at l1
          have l1 : (List.range z.cps.size).filter (fun i => !(decide (48 ≤ (tl z).getD i 0) && decide ((tl z).getD i 0 ≤ 57))) = [] := List.eq_nil_of_length_eq_zero l1.symm
          rw [List.filter_eq_nil_iff] at l1
          intro c hc
          obtain ⟨i, hi, rfl⟩ := List.mem_iff_getElem.mp hc
          have := l1 i (List.mem_range.mpr (by rw [szz]; exact hi))
          rw [getD_at hi] at this
          simpa using this
        have k3 := k2.trans (upd_grow (o := .lst []) hpe)
        generalize upd H1 pe (.lst []) = H3 at k3 ⊢
        obtain ⟨c, r, hc⟩ : ∃ c r, tl z = c :: r := by
          cases h : tl z with
          | nil => exact absurd h ne
          | cons c r => exact ⟨c, r, rfl⟩
        have fin : Canon (tl z) → Q (.int (NumText.digitsVal (tl z) : Nat)) H3 := fun cn => yes _ (canon_dg all ne cn).symm H3 k3
        have asInt : Canon (tl z) → PySem.intText? z = some ((NumText.digitsVal (tl z) : Nat) : Int) := fun cn => int_num (canon_dg all ne cn).symm hz
        refine ⟨_, rfl, .inr (.inr ⟨z, 0, c, rfl, rfl, two_ln (by omega), by show atI (tl z) 0 = _; rw [hc]; exact (atI_nat (j := 0) rfl : atI (c :: r) ((0 : Nat) : Int) = some c), rfl, _, rfl, ?_⟩)⟩
        show if decide (V.str ⟨#[c]⟩ = V.str "0") = true then _ else _
        rw [zero_eq, str_one]
        refine iteB (fun e2 => ?_) fun e2 => ?_
        · have e2 := of_decide_eq_true e2
          have e2 : c = 48 := (List.cons.inj (show [c] = [48] from e2)).1
          refine ⟨_, rfl, rfl, _, rfl, ?_⟩
          show if (!decide (V.str z = V.str "0")) = true then _ else _
          rw [zero_eq, str_one]
          refine iteB (fun e3 => ?_) fun e3 => ?_
          · have e3 := of_decide_eq_false (not_t e3)
            refine no (fun ⟨n, en⟩ => ?_) H3 k3
            have := dg_canon n
            rw [← en] at this
            rcases this with h | h
            · exact e3 h
            · exact h (by rw [hc, e2] <;> rfl)
          · have cn : Canon (tl z) := .inl (of_decide_eq_true (not_f e3))
            exact ⟨_, rfl, _, _, rfl, asInt cn, by omega, fin cn⟩
        · have e2 := of_decide_eq_false e2
          have cn : Canon (tl z) := .inr fun h => e2 (by
            rw [hc] at h
            simp at h
            rw [h])
          exact ⟨_, rfl, _, _, rfl, asInt cn, by omega, fin cn⟩
end
end K03

namespace K03
open PySem PySem.Spec PyProof.Rows L2 Tn TL
abbrev sLJoin : Stmt := top 29
theorem scLJoin : FnScope ["houses", "roads", "lot", "u", "v", "old", "now", "one"] ["houses", "roads"] (defScope sLJoin) := ⟨rfl, rfl, rfl, by decide +kernel, rfl, by decide +kernel, by decide +kernel⟩
def spLJoin : Sp := fun vs H Q _ => ∃ (n : Nat) (r : Addr) (rs : List Tm.Road), vs = [.int n, .ref r] ∧ n ≤ 64 ∧ Rdd H (.ref r) (.list (rs.map rd)) ∧ Tm.RoadsOk n rs ∧ ∀ b H', Same H H' → (b = true ↔ Tm.Joined n rs) → Q (.bl b) H'
theorem natV_at {l : List Nat} {i : Nat} (h : i < l.length) : atI (natV l) (i : Int) = some (.int (l.getD i 0 : Nat)) := by
  refine atI_nat ?_
  unfold natV
  rw [List.getElem?_map, List.getElem?_eq_getElem h, getD_at h]
  rfl
theorem rg_nat (n : Nat) : rgV 0 n = natV (List.range n) := by
  unfold rgV natV
  have : ((n : Int) - 0).toNat = n := by omega
  rw [this]
  refine List.map_congr_left fun x _ => ?_
  rw [Int.zero_add]
section
variable {P : Program} {w : World} {K : PySem.W.Frag} {mg : Str → Option Value} {base : Heap} {f : Addr} {fd : FuncData}
theorem ok_ljoined (F : Fd K "_law_joined" sLJoin f fd) (g : mg "_law_joined" = some (.ref f)) (B : Bl mg) : Ok P w K mg base CX0 1 "_law_joined" sLJoin ["houses", "roads"] spLJoin := by
  refine ⟨f, fd, g, F, F.bindsN fun _ _ _ _ _ _ us hl => match us, hl with | [_, _], _ => rfl, F.ok scLJoin (fun vs H Q E h => ?_) (fun cdv A outer s H vs Q E hr h => ?_)⟩
  · obtain ⟨n, r, rs, rfl, _⟩ := h
    rfl
  · have hu : (cxOf CX0 P w K mg base ["houses", "roads", "lot", "u", "v", "old", "now", "one"] "_law_joined" (defScope sLJoin) f cdv A outer s H E).A.units + 64 < cLine := by
      have z := hr.un
      show (A.deeper _).units + 64 < cLine
      omega
    refine ⟨_, (pss_cons (ps_set (i := 2) scLJoin.nd rfl (Or.inr rfl) (pe_listRg rfl (by rfl) (B.u "list" (by decide +kernel)) (prg_1 (by rfl) (B.u "range" (by decide +kernel)) (pv 0))))
      (pss_cons (ps_for (passes_of rfl) rfl (pi_list (pv 1)) (pg_tup rfl (pgs_cons (pg_name (i := 3) scLJoin.nd rfl (Or.inl rfl)) (pgs_cons (pg_name (i := 4) scLJoin.nd rfl (Or.inl rfl)) pgs_nil)))
        (pss_cons (ps_asg (pe_tup (pa_cons (pe_ix ix_seq (pv 2) (pv 3) fun _ _ => rfl) (pa_cons (pe_ix ix_seq (pv 2) (pv 4) fun _ _ => rfl) pa_nil))) (pg_tup rfl (pgs_cons (pg_name (i := 5) scLJoin.nd rfl (Or.inr rfl)) (pgs_cons (pg_name (i := 6) scLJoin.nd rfl (Or.inr rfl)) pgs_nil))))
        (pss_one (ps_set (i := 2) scLJoin.nd rfl (Or.inr rfl) (pe_lc (own := [("one", 7)]) (g := gName 7) rfl scLJoin.nd (pi_list (pv 2)) (blkOk_by (N := ["houses", "roads", "lot", "u", "v", "old", "now", "one"]) (sc := defScope sLJoin) (by decide +kernel)) (fun _ _ _ _ _ => (pg_name (i := 7) scLJoin.nd rfl (Or.inl rfl))) (fun _ _ _ _ _ => pts_nil) (fun _ _ _ _ _ => (pe_ifExp (pt_cmpR op_eq (pv 7) (pv 5) (nomark _)) (pv 6) (pv 7))))))))
      (pss_one (ps_ret (pe_cmpR (op_eqNil hu) (pe_lc (own := [("one", 7)]) (g := gName 7) rfl scLJoin.nd (pi_list (pv 2)) (blkOk_by (N := ["houses", "roads", "lot", "u", "v", "old", "now", "one"]) (sc := defScope sLJoin) (by decide +kernel)) (fun _ _ _ _ _ => (pg_name (i := 7) scLJoin.nd rfl (Or.inl rfl))) (fun _ _ _ _ _ => (pts_one (pt_cmpR op_ne (pv 7) (pe_ix (r := rIx K) ix_seq (pv 2) pe_int fun _ _ => rfl) (nomark _)))) (fun _ _ _ _ _ => (pv 7))) (pe_lst pa_nil) (nomark _)))))), ?_⟩
    obtain ⟨n, r, rs, rfl, n1, hr0, ok, q⟩ := h
    have lr := ok.len
    cases hr0 with
    | @lst _ xs _ hl ra =>
      have lx := rdds_len ra
      rw [List.length_map] at lx
      refine ⟨_, rfl, _, rfl, RgOk.of_le (by decide) (by omega) (by decide) (by omega), fun pl hpl => ?_⟩
      rw [rg_nat]
      dsimp only [gName, tSeq, L2.start]
      refine ⟨_, rfl, r, rfl, ⟨_, SqL.of (upd_grow hpl _ _ hl)⟩, ?_⟩
      refine for_it walk_list (fun i σ H' => Same H H' ∧ ∃ (l : Addr) (a b c d e : Option V), H l = none ∧ H' l = some (.lst (natV (lots n (rs.take i)))) ∧ σ = [some (.int n), some (.ref r), some (.ref l), a, b, c, d, e]) ⟨upd_grow hpl, pl, none, none, none, none, none, hpl, upd_same, rfl⟩ (fun i σ H' _ h => SqL.of (h.1 _ _ hl)) ?_ ?_
      · rintro i x σ H0 H1 hi ⟨k1, l, a, b, c, d, e, nl, h1, rfl⟩ ⟨rfl, hx⟩
        obtain ⟨hi2, pt, rfl, hp⟩ := pair_at (ra.mono k1) hx
        have bi := ok.bnd _ (List.getElem_mem hi2)
        have tk : rs.take (i + 1) = rs.take i ++ [rs[i]] := List.take_succ_eq_append_getElem hi2
        have ll := lots_len n (rs.take i)
        rw [tk, lots_snoc]
        generalize rs[i] = ro at hp bi
        obtain ⟨u, v⟩ := ro
        simp only at bi
        refine ⟨pt, _, rfl, SqT.of hp, rfl, _, _, rfl, _, _, rfl, rfl, ?_⟩
        refine ⟨_, rfl, _, rfl, ixAt h1 (natV_at (by omega)) ⟨_, rfl, _, rfl, ixAt h1 (natV_at (by omega)) ?_⟩⟩
        refine ⟨two_ln (by show 2 ≤ _; decide), fun pt2 hpt2 => ⟨pt2, _, rfl, SqT.of upd_same, rfl, _, _, rfl, _, _, rfl, rfl, ?_⟩⟩
        have k2 := k1.trans (upd_grow (o := .tup [.int ((lots n (rs.take i)).getD u 0 : Nat), .int ((lots n (rs.take i)).getD v 0 : Nat)]) hpt2)
        have h2 := upd_grow (o := .tup [.int ((lots n (rs.take i)).getD u 0 : Nat), .int ((lots n (rs.take i)).getD v 0 : Nat)]) hpt2 _ _ h1
        generalize upd H1 pt2 (.tup [.int ((lots n (rs.take i)).getD u 0 : Nat), .int ((lots n (rs.take i)).getD v 0 : Nat)]) = H2 at k2 h2 ⊢
        generalize lots n (rs.take i) = lot at ll h1 h2 ⊢
        have ln : (natV lot).length = n := by unfold natV; rw [List.length_map]; exact ll
        refine ⟨_, rfl, l, rfl, ⟨_, SqL.of h2⟩, fun D hD => ?_⟩
        refine lc_gen walk_list (fun _ => true) (fun i y _ => y = .int ((mrg lot (u, v)).getD i 0 : Nat)) (fun _ _ _ _ _ h => h) hD (by rw [ln]; omega) (fun H' k => SqL.of (del_sub k _ _ h2)) ?_ ?_
        · rintro j y H3 H4 K1 N1 hj k3 ⟨o, ho⟩ ⟨rfl, hy⟩ hK _
          obtain ⟨lj, rfl⟩ := nat_get hy
          have mg0 := mrg_get (lot := lot) (r := (u, v)) lj
          simp only at mg0
          rw [← getD_at (d := 0) lj]
          refine ⟨rfl, _, rfl, _, rfl, rfl, _, rfl, iteB (fun e1 => ⟨_, rfl, hK rfl _ _ (Same.refl _) ?_⟩) fun e1 => ⟨_, rfl, hK rfl _ _ (Same.refl _) ?_⟩⟩
          · have e1 := of_decide_eq_true e1
            injection e1 with e1
            rw [mg0, if_pos (show lot.getD j 0 = lot.getD u 0 by have e2 : ((lot.getD j 0 : Nat) : Int) = ((lot.getD u 0 : Nat) : Int) := e1; omega)]
          · have e1 := of_decide_eq_false e1
            rw [mg0, if_neg (fun z => e1 (by rw [z]))]
        · intro ys H3 k3 h3 l3 r3
          rw [filt_all, ln] at l3 r3
          have e := map_of (F := fun i => V.int ((mrg lot (u, v)).getD i 0 : Nat)) l3 r3
          have ml := mrg_len lot (u, v)
          have e2 : ys = natV (mrg lot (u, v)) := by
            rw [e]
            unfold natV
            apply List.ext_getElem
            · simp only [List.length_map, List.length_range]
              omega
            · intro i a b
              simp only [List.length_map] at b
              simp only [List.getElem_map, List.getElem_range, getD_at b]
          rw [e2] at h3
          refine ⟨k2.trans (del_sub k3), D, _, _, _, _, _, ?_, h3, rfl⟩
          cases e : H D with
          | none => rfl
          | some o => rw [k2 _ _ e] at hD; cases hD
      · rintro σ H1 ⟨k1, l, a, b, c, d, e, nl, h1, rfl⟩
        rw [lx, List.take_length] at h1
        have ll := lots_len n rs
        have ln : (natV (lots n rs)).length = n := by unfold natV; rw [List.length_map]; exact ll
        refine ⟨_, rfl, l, rfl, ⟨_, SqL.of h1⟩, fun D hD => ?_⟩
        refine lc_gen walk_list (fun i => !decide ((lots n rs).getD i 0 = (lots n rs).getD 0 0)) (fun _ _ _ => True) (fun _ _ _ _ _ h => h) hD (by rw [ln]; omega) (fun H' k => SqL.of (del_sub k _ _ h1)) ?_ ?_
        · rintro j y H3 H4 K1 N1 hj k3 ⟨o, ho⟩ ⟨rfl, hy⟩ hK hN
          obtain ⟨lj, rfl⟩ := nat_get hy
          rw [← getD_at (d := 0) lj]
          refine ⟨rfl, _, rfl, _, rfl, ixAt (del_sub k3 _ _ h1) (natV_at (i := 0) (by omega)) ⟨rfl, _, rfl, ?_⟩⟩
          have dd : decide (V.int (((lots n rs).getD j 0 : Nat) : Int) = V.int (((lots n rs).getD 0 0 : Nat) : Int)) = decide ((lots n rs).getD j 0 = (lots n rs).getD 0 0) := by
            apply decide_eq_decide.mpr
            constructor
            · intro h
              injection h with h
              omega
            · intro h
              rw [h]
          rw [dd]
          exact iteB (fun e1 => ⟨_, rfl, hK e1 _ _ (Same.refl _) True.intro⟩) fun e1 => hN e1 _ (Same.refl _)
        · intro ys H3 k3 h3 l3 _
          refine ⟨two_ln (by show 0 ≤ _; decide), fun pe hpe => ⟨D, pe, ys, rfl, rfl, SqL.of (upd_grow hpe _ _ h3), SqL.of upd_same, ?_⟩⟩
          refine q _ _ (k1.trans ((del_sub k3).trans (upd_grow hpe))) ?_
          rw [joined_iff ok, List.isEmpty_iff, ← List.length_eq_zero_iff, l3, List.length_eq_zero_iff, List.filter_eq_nil_iff, ln]
          constructor
          · intro h a ha
            have := h a (List.mem_range.mpr ha)
            simpa using this
          · intro h a ha
            have := h a (List.mem_range.mp ha)
            simpa using this
end
end K03

/-! a >= b of tuples of whole numbers -/
namespace L2
open PySem PySem.Spec PyProof.Rows
theorem rcGe_int (A : Around) (s : Shared) (a : Int) (t : Tok) (c : Int) (u : Tok) (prog : Program) (w : World) (E Q : Value → Shared → Prop) (q : Q (.bool (decide (c ≤ a))) s) : wpAny (model prog w) A (richCompare .GtE (.int a t) (.int c u)) Q E s := PyProof.Rows.ge_int (E := E) q
theorem tuple_ge_ints (l b : Addr) (items items2 : Array Value) (n n2 : Nat) (dd dd2 : Option Addr) (sl sl2 : Array (Option Value)) (ns ms : List Int) (h1 : IntsAre items.toList ns) (h2 : IntsAre items2.toList ms) :
    Meets (Builtin.«tuple.__ge__» { pos := [.ref l, .ref b] }) fun _ R s => s.heap.get? l = some { cls := .type "tuple", dict := dd, data := .seq items n, slots := sl } ∧ s.heap.get? b = some { cls := .type "tuple", dict := dd2, data := .seq items2 n2, slots := sl2 } ∧
      R (.ok (.ret (.bool (!HT.lexLt ns ms)))) s := by
  refine Meets.of_wp fun prog w A R s ⟨g1, g2, q⟩ => ?_
  refine wpAny_bind (wpAny_pure ?_)
  refine wpAny_bind ?_
  refine wpAny_bind (wpAny_typeOf_ref g2 ?_)
  refine wpAny_of_eq AutoSeq1.sub_tuple_tuple ?_
  refine wpAny_ite_false rfl ?_
  refine wpAny_bind (wpAny_tupleItemsOf g1 rfl ?_)
  refine wpAny_bind (wpAny_tupleItemsOf g2 rfl ?_)
  have len : ∀ {vs : List Value} {ns : List Int}, IntsAre vs ns → vs.length = ns.length := fun h => by
    induction h with
    | nil => rfl
    | cons n t _ ih => rw [List.length_cons, List.length_cons, ih]
  have l1 := len h1
  have l2 := len h2
  rw [Array.length_toList] at l1 l2
  refine wpAny_bind (wpAny_forIn_list _ (fun rest b' s' => ∃ (xs ys : List Value) (ns' ms' : List Int), rest = xs.zip ys ∧ IntsAre xs ns' ∧ IntsAre ys ms' ∧ b' = (none, ()) ∧ s' = s ∧ HT.lexLt ns' ms' = HT.lexLt ns ms ∧ ns.length + ms'.length = ms.length + ns'.length) _ ?_ ?_ _ _ ⟨items.toList, items2.toList, ns, ms, rfl, h1, h2, rfl, rfl, rfl, by omega⟩)
  · rintro x rest b' s' ⟨xs, ys, ns', ms', e, i1, i2, rfl, rfl, lx, ln⟩
    cases i1 with
    | nil => cases e
    | cons a t i1 =>
      cases i2 with
      | nil => cases e
      | cons c u i2 =>
        cases e
        obtain ⟨q0, hq, hqe⟩ := HT.eqAt_int A.in1 s' a t c u
        refine wpAny_bind (hq prog w _ _ ?_)
        rw [HT.lexLt_cons] at lx
        cases q0 with
        | true =>
          have e := hqe.mp rfl
          rw [if_pos e] at lx
          exact wpAny_ite_false rfl (wpAny_pure ⟨_, _, _, _, rfl, i1, i2, rfl, rfl, lx, by simp only [List.length_cons] at ln; omega⟩)
        | false =>
          have ne : ¬ a = c := fun z => by have := hqe.mpr z; cases this
          rw [if_neg ne] at lx
          refine wpAny_ite_true rfl (wpAny_bind (wpAny_rule (wpAny_bind (rcGe_int _ _ _ _ _ _ _ _ _ _ (wpAny_bind (wpAny_pure ?_))))))
          refine wpAny_pure ?_
          refine wpAny_pure ⟨_, rfl, ?_⟩
          have e : decide (c ≤ a) = !HT.lexLt ns ms := by
            rw [← lx]
            by_cases z : a < c
            · rw [decide_eq_true z, decide_eq_false (by omega)]; rfl
            · rw [decide_eq_false z, decide_eq_true (by omega)]; rfl
          rw [e]
          exact q
  · rintro b' s' ⟨xs, ys, ns', ms', e, i1, i2, rfl, rfl, lx, ln⟩
    refine wpAny_pure ⟨_, rfl, ?_⟩
    show R (.ok (.ret (.bool (decide (items.size ≥ items2.size))))) s'
    have e2 : decide (items.size ≥ items2.size) = !HT.lexLt ns ms := by
      rw [← lx, l1, l2]
      cases i1 with
      | nil =>
        cases i2 with
        | nil =>
          simp only [List.length_nil] at ln
          rw [decide_eq_true (by omega)]
          rfl
        | cons c u i2 =>
          simp only [List.length_nil, List.length_cons] at ln
          rw [decide_eq_false (by omega)]
          rfl
      | cons a t i1 =>
        cases i2 with
        | nil =>
          simp only [List.length_nil, List.length_cons] at ln
          rw [decide_eq_true (by omega)]
          rfl
        | cons c u i2 => cases e
    rw [e2]
    exact q
def rGeT (K : PySem.W.Frag) : R2 := fun x y H Q => ∃ (a b : Addr) (ns ms : List Int), x = .ref a ∧ y = .ref b ∧ SqT K H a (ns.map V.int) ∧ SqT K H b (ms.map V.int) ∧ Q (.bl (!HT.lexLt ns ms)) H
theorem ints_are : ∀ {ns : List Int} {its : List Value}, Vals (ns.map V.int) its → IntsAre its ns
  | [], _, .nil => .nil
  | n :: ns, _, .cons r t => by
    obtain ⟨t', rfl⟩ : ∃ t, _ = Value.int n t := r
    exact .cons n t' (ints_are t)
theorem op_geT {X : Cx} (hu : X.A.units < cLine) : OpR X (compareOp .GtE) (rGeT X.K) := by
  intro pins s σ H x y v u Q I rx ry h
  obtain ⟨a, b, ns, ms, rfl, rfl, ha, hb, q⟩ := h
  obtain rfl : v = Value.ref a := rx
  obtain rfl : u = Value.ref b := ry
  obtain ⟨i1, r1, p1, _⟩ := I.tuple ha
  obtain ⟨i2, r2, p2, _⟩ := I.tuple hb
  have t1 : s.heap.IsTuple a i1.toArray := p1
  have t2 : s.heap.IsTuple b i2.toArray := p2
  obtain ⟨⟨c1, dd, dt1, sl⟩, g1, e1, n, e2⟩ := id t1
  obtain ⟨⟨c2, dd2, dt2, sl2⟩, g2, e3, n2, e4⟩ := id t2
  simp only at e1 e2 e3 e4
  subst e1 e2 e3 e4
  show wpAny _ _ (richCompare .GtE _ _) _ _ _
  exact richCompare_meets_room t1.typeIs t2.typeIs F.slot_tuple_ge F.entry_tuple_ge (F.args_tuple_ge_2 _ _) (tuple_ge_ints a b i1.toArray i2.toArray n n2 dd dd2 sl sl2 ns ms (by simpa using ints_are r1) (by simpa using ints_are r2))
    ⟨g1, g2, by show Value.bool _ ≠ Value.notImplemented ∧ _; exact ⟨(fun z => by cases z), .bl _, H, I, rfl, q⟩⟩ hu
end L2

namespace K03
open PySem PySem.Spec PyProof.Rows L2 Tn TL
abbrev sLRead : Stmt := top 30
theorem scLRead : FnScope ["text", "words", "houses", "roads", "word", "parts", "part"] ["text"] (defScope sLRead) := ⟨rfl, rfl, rfl, by decide +kernel, rfl, by decide +kernel, by decide +kernel⟩
/-- isinstance of data -/
structure KitK (K : PySem.W.Frag) : Prop where
  tt : ∀ T ∈ tys, ∀ U ∈ ["str", "list"], PySem.W.kitOne K (.type T) (.type U) = some (decide (T = U))
def spLRead : Sp := fun vs H Q _ => ∃ (v : V) (d : PyData), vs = [v] ∧ Rdd H v d ∧ (∀ s, d = .str s → s.length ≤ 640) ∧ (¬ IsLine d → ∀ H', Same H H' → Q .non H') ∧
  ∀ s n rs, d = .str s → Reads (tl s) n rs → ∀ q r H', H q = none → H r = none → Same H H' → H' q = some (.lst [.int n, .ref r]) → Rdd H' (.ref r) (.list (rs.map rd)) → q ≠ r → Q (.ref q) H'
theorem cut_tail (z : Str) : tl (cutS z (some (-1)) none) = (tl z).drop ((tl z).length - 1) := by
  have lz := len_tl z
  unfold cutS
  show (((tl z).drop (HT.sIx z.length 0 (some (-1)))).take (HT.sIx z.length z.length none - HT.sIx z.length 0 (some (-1)))) = _
  have e0 : HT.sIx z.length z.length none = z.length := rfl
  have e1 : HT.sIx z.length 0 (some (-1)) = z.length - 1 := by
    show (if (-1 : Int) < 0 then ((-1 : Int) + (z.length : Int)).toNat else min (-1 : Int).toNat z.length) = _
    rw [if_pos (by decide)]
    omega
  rw [e0, e1, lz]
  exact List.take_of_length_le (by rw [List.length_drop]; exact Nat.le_refl _)
theorem head_of {l : List Nat} {n : Nat} (h1 : l.drop (l.length - 1) = [58]) (h2 : l.dropLast = dg n) : l = headL n := by
  rw [← List.take_append_drop (l.length - 1) l, h1, ← List.dropLast_eq_take, h2]
  rfl
theorem head_cut (n : Nat) : (headL n).drop ((headL n).length - 1) = [58] ∧ (headL n).dropLast = dg n := by
  unfold headL
  refine ⟨?_, List.dropLast_concat⟩
  rw [List.length_append, List.length_singleton, Nat.add_sub_cancel, List.drop_left]
theorem at0 {α : Type} {a : α} {l : List α} : atI (a :: l) 0 = some a := atI_nat (j := 0) rfl
theorem at1 {α : Type} {a b : α} {l : List α} : atI (a :: b :: l) 1 = some b := atI_nat (j := 1) rfl
theorem colon_one : (":" : Str) = ⟨#[58]⟩ := by rfl
/-- the numbers of the parts -/
inductive PartsD : List Str → List V → Prop
  | nil : PartsD [] []
  | num {q : Str} {qs : List Str} {ys : List V} {m : Nat} : tl q = dg m → PartsD qs ys → PartsD (q :: qs) (.int m :: ys)
  | no {q : Str} {qs : List Str} {ys : List V} : (¬ ∃ m, tl q = dg m) → PartsD qs ys → PartsD (q :: qs) (.non :: ys)
theorem parts_of : ∀ {qs : List Str} {ys : List V}, ys.length = qs.length → (∀ (i : Nat) (q : Str) (y : V), qs[i]? = some q → ys[i]? = some y → (∃ m, tl q = dg m ∧ y = .int (m : Nat)) ∨ ((¬ ∃ m, tl q = dg m) ∧ y = .non)) → PartsD qs ys
  | [], [], _, _ => .nil
  | [], _ :: _, h, _ => by simp at h
  | _ :: _, [], h, _ => by simp at h
  | q :: qs, y :: ys, h, k => by
    have ih := parts_of (qs := qs) (ys := ys) (by simpa using h) fun i q y h1 h2 => k (i + 1) q y (by simpa using h1) (by simpa using h2)
    rcases k 0 q y rfl rfl with ⟨m, e, rfl⟩ | ⟨no, rfl⟩
    · exact .num e ih
    · exact .no no ih
theorem PartsD.flat : ∀ {qs : List Str} {ys : List V}, PartsD qs ys → ys.all flatV = true
  | _, _, .nil => rfl
  | _, _, .num _ k => by rw [List.all_cons, k.flat]; rfl
  | _, _, .no _ k => by rw [List.all_cons, k.flat]; rfl
theorem PartsD.ints : ∀ {qs : List Str} {ys : List V}, PartsD qs ys → inV .non ys = false → ∃ ms : List Nat, qs.map tl = ms.map dg ∧ ys = ms.map fun m : Nat => V.int (m : Int)
  | _, _, .nil, _ => ⟨[], rfl, rfl⟩
  | _, _, .num e k, h => by
    unfold inV at h
    rw [List.any_cons, Bool.or_eq_false_iff] at h
    obtain ⟨ms, h1, h2⟩ := k.ints h.2
    exact ⟨_ :: ms, by rw [List.map_cons, List.map_cons, e, h1], by rw [List.map_cons, h2]⟩
  | _, _, .no _ k, h => by
    unfold inV at h
    rw [List.any_cons] at h
    cases h
theorem PartsD.nums : ∀ {qs : List Str} {ys : List V} {ms : List Nat}, PartsD qs ys → qs.map tl = ms.map dg → ys = ms.map fun m : Nat => V.int (m : Int)
  | _, _, [], .nil, _ => rfl
  | _, _, _ :: _, .nil, h => by simp at h
  | _, _, [], .num _ _, h => by simp at h
  | _, _, [], .no _ _, h => by simp at h
  | _, _, m :: ms, .num e k, h => by
    rw [List.map_cons, List.map_cons] at h
    injection h with h1 h2
    rw [List.map_cons, k.nums h2, dg_inj (e.symm.trans h1)]
  | _, _, m :: ms, .no nn _, h => by
    rw [List.map_cons, List.map_cons] at h
    injection h with h1 h2
    exact absurd ⟨m, h1⟩ nn
theorem ints_non (ms : List Nat) : inV .non (ms.map fun m : Nat => V.int (m : Int)) = false := by
  unfold inV
  rw [List.any_map]
  induction ms with
  | nil => rfl
  | cons m ms ih => rw [List.any_cons, ih]; rfl
theorem split_dash (w : Str) : (Txt.split w "-").map tl = parts 45 (tl w) := by
  have k := split_spl w "-" (by rw [dash_eq]; simp) (kind_ok (by decide +kernel))
  rw [dash_eq] at k
  exact k
theorem asc_snoc {rs : List Tm.Road} {x : Tm.Road} (h : rs.Pairwise fun a b => Tm.ltR a b = true) (l : ∀ k, k + 1 = rs.length → Tm.ltR (rs.getD k (0, 0)) x = true) : (rs ++ [x]).Pairwise fun a b => Tm.ltR a b = true := by
  refine asc_of fun k hk => ?_
  rw [List.length_append, List.length_singleton] at hk
  have o := of_asc h
  by_cases c : k + 1 < rs.length
  · have := o k c
    rw [getD_at (by rw [List.length_append]; omega), getD_at (by rw [List.length_append]; omega), List.getElem_append_left (by omega), List.getElem_append_left (by omega)]
    rw [getD_at (by omega), getD_at c] at this
    exact this
  · have := l k (by omega)
    rw [getD_at (by rw [List.length_append]; omega), getD_at (by rw [List.length_append, List.length_singleton]; omega), List.getElem_append_left (by omega), List.getElem_append_right (by omega)]
    rw [getD_at (by omega)] at this
    simpa using this
section
variable {P : Program} {w : World} {K : PySem.W.Frag} {mg : Str → Option Value} {base : Heap} {f : Addr} {fd : FuncData}
theorem ok_lread (F : Fd K "_law_read" sLRead f fd) (g : mg "_law_read" = some (.ref f)) (B : Bl mg) (T : KitK K) (o_law_number : Ok P w K mg base CX0 1 "_law_number" sLNum ["word"] spLNum)
    (o_law_joined : Ok P w K mg base CX0 1 "_law_joined" sLJoin ["houses", "roads"] spLJoin) : Ok P w K mg base CX0 2 "_law_read" sLRead ["text"] spLRead := by
  refine ⟨f, fd, g, F, F.bindsN fun _ _ _ _ _ _ us hl => match us, hl with | [_], _ => rfl, F.ok scLRead (fun vs H Q E h => ?_) (fun cdv A outer s H vs Q E hr h => ?_)⟩
  · obtain ⟨v, d, rfl, _⟩ := h
    rfl
  · have hu : (cxOf CX0 P w K mg base ["text", "words", "houses", "roads", "word", "parts", "part"] "_law_read" (defScope sLRead) f cdv A outer s H E).A.units + 64 < cLine := by
      have z := hr.un
      show (A.deeper _).units + 64 < cLine
      omega
    refine ⟨_, (pss_cons (ps_if (pt_not (pt_val (pe_callB call_isi (by rfl) (B.u "isinstance" (by decide +kernel)) boot_isinstance (pa_cons (pv 0) (pa_cons (pe_bltn (by rfl) (B.u "str" (by decide +kernel)) (by decide +kernel) (v := .ty "str") rfl) pa_nil)))))
        (pss_one (ps_ret pe_non))
        pss_nil)
      (pss_cons (ps_set (i := 1) scLRead.nd rfl (Or.inl rfl) (pe_split (pv 0) pe_str))
      (pss_cons (ps_set (i := 2) scLRead.nd rfl (Or.inl rfl) (pe_ifExp (pt_cmpR op_eq (pe_slice sl_str (pe_ix ix_seq (pv 1) pe_int fun _ _ => rfl) (po_some (pe_un un_neg pe_int)) po_none) pe_str (nomark _)) (pe_o o_law_number (hr.mono (by decide)) (by rfl) (pa_cons (pe_slice sl_str (pe_ix ix_seq (pv 1) pe_int fun _ _ => rfl) po_none (po_some (pe_un un_neg pe_int))) pa_nil)) pe_non))
      (pss_cons (ps_if (pw_or (pt_cmpR op_isN (pv 2) pe_non (nomark _)) (pw_or (pt_not (pt_chain op_le op_le pe_int (pv 2) pe_int)) (pw_or1 (pt_cmpR op_ne (pe_callB call_len (by rfl) (B.u "len" (by decide +kernel)) boot_len (pa_cons (pv 1) pa_nil)) (pv 2) (nomark _))))).pt
        (pss_one (ps_ret pe_non))
        pss_nil)
      (pss_cons (ps_set (i := 3) scLRead.nd rfl (Or.inl rfl) (pe_lst pa_nil))
      (pss_cons (ps_for (passes_of rfl) rfl (pi_list (pe_slice sl_list (pv 1) (po_some pe_int) po_none)) (pg_name (i := 4) scLRead.nd rfl (Or.inl rfl))
        (pss_cons (ps_setLc (i := 5) (own := [("part", 6)]) (g := gName 6) rfl scLRead.nd rfl rfl (sw_true rfl rfl rfl (by decide +kernel)) (pi_list (pe_split (pv 4) pe_str)) (blkOk_by (N := ["text", "words", "houses", "roads", "word", "parts", "part"]) (sc := defScope sLRead) (by decide +kernel)) (fun _ _ _ _ _ => (pg_name (i := 6) scLRead.nd rfl (Or.inl rfl))) (fun _ _ _ _ _ => pts_nil) (fun _ _ _ _ _ => (pe_o o_law_number (hr.mono (by decide)) (by rfl) (pa_cons (pv 6) pa_nil))))
        (pss_cons (ps_if (pw_or (pt_cmpR op_ne (pe_callB call_len (by rfl) (B.u "len" (by decide +kernel)) boot_len (pa_cons (pv 5) pa_nil)) pe_int (nomark _)) (pw_or1 (pt_cmpR op_in_seq pe_non (pv 5) (by rfl)))).pt
          (pss_one (ps_ret pe_non))
          pss_nil)
        (pss_cons (ps_if (pw_or (pt_not (pt_chain op_lt op_lt (pe_ix ix_seq (pv 5) pe_int fun _ _ => rfl) (pe_ix ix_seq (pv 5) pe_int fun _ _ => rfl) (pv 2))) (pw_or1 (pw_and (pt_cmpR (op_neNil hu) (pv 3) (pe_lst pa_nil) (nomark _)) (pw_and1 (pt_cmpR (r := rGeT K) (op_geT (by exact hr.units0)) (pe_ix ix_seq (pv 3) (pe_un un_neg pe_int) fun _ _ => rfl) (pe_tup (pa_cons (pe_ix ix_seq (pv 5) pe_int fun _ _ => rfl) (pa_cons (pe_ix ix_seq (pv 5) pe_int fun _ _ => rfl) pa_nil))) (nomark _)))).pt)).pt
          (pss_one (ps_ret pe_non))
          pss_nil)
        (pss_one (ps_expr (pe_bm PySem.F.plainAttrs_list PySem.F.slot_list_append PySem.F.type_list_append mt_append (pv 3) (pa_cons (pe_tup (pa_cons (pe_ix ix_seq (pv 5) pe_int fun _ _ => rfl) (pa_cons (pe_ix ix_seq (pv 5) pe_int fun _ _ => rfl) pa_nil))) pa_nil))))))))
      (pss_one (ps_ret (pe_ifExp (pt_val (pe_o o_law_joined (hr.mono (by decide)) (by rfl) (pa_cons (pv 2) (pa_cons (pv 3) pa_nil)))) (pe_lst (pa_cons (pv 2) (pa_cons (pv 3) pa_nil))) pe_non))))))))), ?_⟩
    obtain ⟨v, d, rfl, r, ld, no, yes⟩ := h
    refine ⟨_, rfl, v, _, _, _, _, rfl, .ty _, r.tx, T.tt _ (tyd_mem d) "str" (by decide), _, rfl, iteB (fun e => ?_) fun e => ?_⟩
    · exact no (fun ⟨s, n, rs, ed, _⟩ => by rw [ed] at e; simp [tyd] at e) H (Same.refl H)
    obtain ⟨s, rfl, rfl⟩ := str_of r (of_decide_eq_true (not_f e))
    have ls := ld s rfl
    obtain ⟨h, ws, esp, ep, lh, lws, lw⟩ := split_words s
    have no' : ∀ {H'}, Same H H' → (∀ n rs, ¬ Reads (tl s) n rs) → Q .non H' := fun k nr => no (fun ⟨s', n, rs, ed, R⟩ => by
      injection ed with ed
      subst ed
      exact nr n rs R) _ k
    have key : ∀ {n rs}, Reads (tl s) n rs → tl h = headL n ∧ ws.map tl = rs.map wordL := fun R => by
      rw [R.eq, parts_line] at ep
      injection ep with h1 h2
      exact ⟨h1, h2⟩
    refine ⟨_, rfl, ⟨s, rfl⟩, s, _, rfl, rfl, rfl, two_ln (by omega), fun p hp => ?_⟩
    rw [esp]
    have k1 : Same H (upd H p (.lst ((h :: ws).map V.str))) := upd_grow hp
    have hw1 : upd H p (.lst ((h :: ws).map V.str)) p = some (.lst (.str h :: ws.map V.str)) := upd_same
    have np : ∀ b o, H b = some o → b ≠ p := fun b o e => ne_of_none e hp
    generalize upd H p (.lst ((h :: ws).map V.str)) = H1 at k1 hw1 ⊢
    have lT : (cutS h (some (-1)) none).length ≤ 640 := by
      rw [len_tl, cut_tail, List.length_drop]
      have := len_tl h
      omega
    have lN : (cutS h none (some (-1))).length ≤ 640 := by
      rw [len_tl, cut_last, List.length_dropLast, ← len_tl]
      omega
    dsimp only [gName, tSeq, L2.start]
    refine ⟨_, rfl, ixAt hw1 at0 ⟨_, rfl, _, rfl, h, rfl, two_ln (by omega), rfl, _, rfl, ?_⟩⟩
    show if decide (V.str (cutS h (some (-1)) none) = V.str ":") = true then _ else _
    rw [colon_one, str_one, cut_tail]
    refine iteB (fun ec => ?_) fun ec => ?_
    · have ec := of_decide_eq_true ec
      refine ⟨_, rfl, ixAt hw1 at0 ⟨_, rfl, _, rfl, h, rfl, two_ln (by omega), _, rfl, lN, fun n en H2 k2 => ?_, fun nn H2 k2 => ?_⟩⟩
      · rw [cut_last] at en
        have eh := head_of ec en
        have hw2 := k2 _ _ hw1
        have k02 := k1.trans k2
        have nrd : ∀ {m rs}, Reads (tl s) m rs → m = n ∧ ws.map tl = rs.map wordL := fun R => by
          obtain ⟨h1, h2⟩ := key R
          rw [eh] at h1
          exact ⟨(head_inj h1).symm, h2⟩
        refine ⟨_, rfl, rfl, _, rfl, iteB (fun e1 => by simp at e1) fun _ => ?_⟩
        refine ⟨_, rfl, _, _, rfl, rfl, _, rfl, iteB (fun e1 => ?_) fun e1 => ?_⟩
        · have n1 : 1 ≤ n := by have := of_decide_eq_true e1; omega
          refine ⟨_, _, rfl, rfl, _, rfl, iteB (fun e2 => ?_) fun e2 => ?_⟩
          · refine no' k02 fun m rs R => ?_
            have := of_decide_eq_false (not_t e2)
            have := R.le
            have := (nrd R).1
            omega
          have n64 : n ≤ 64 := by have := of_decide_eq_true (not_f e2); omega
          refine ⟨_, rfl, _, _, rfl, .inl ⟨_, SqL.of hw2, rfl⟩, _, rfl, rfl, _, rfl, iteB (fun e3 => ?_) fun e3 => ?_⟩
          · refine no' k02 fun m rs R => ?_
            have e3 := of_decide_eq_false (not_t e3)
            refine e3 (congrArg V.int ?_)
            obtain ⟨rfl, e4⟩ := nrd R
            have l1 := congrArg List.length e4
            have l2 := R.ok.len
            simp only [List.length_map] at l1
            rw [List.length_cons, List.length_map]
            omega
          have lws' : ws.length + 1 = n := by
            have e3 := of_decide_eq_true (not_f e3)
            injection e3 with e3
            rw [List.length_cons, List.length_map] at e3
            omega
          refine ⟨two_ln (by show 0 ≤ _; decide), fun pr hpr => ?_⟩
          refine ⟨_, rfl, _, rfl, p, _, rfl, SqL.of (upd_grow hpr _ _ hw2), fun pw hpw => ⟨pw, rfl, ⟨_, SqL.of upd_same⟩, ?_⟩⟩
          have ecut : cutV (V.str h :: ws.map V.str) (some 1) none = ws.map V.str := by
            unfold cutV
            show (((V.str h :: ws.map V.str).drop (HT.sIx (V.str h :: ws.map V.str).length 0 (some ((1 : Nat) : Int)))).take (HT.sIx (V.str h :: ws.map V.str).length (V.str h :: ws.map V.str).length none - HT.sIx (V.str h :: ws.map V.str).length 0 (some ((1 : Nat) : Int)))) = _
            rw [HT.sIx_nat, HT.sIx_none]
            have : min 1 (V.str h :: ws.map V.str).length = 1 := by rw [List.length_cons]; omega
            rw [this, List.length_cons, Nat.add_sub_cancel]
            show ((ws.map V.str)).take (ws.map V.str).length = _
            rw [List.take_length]
          rw [ecut]
          have npr : pr ≠ pw := fun e => by rw [← e, upd_same] at hpw; cases hpw
          have k23 : Same H2 (upd (upd H2 pr (.lst [])) pw (.lst (ws.map V.str))) := (upd_grow hpr).trans (upd_grow hpw)
          have hr3 : upd (upd H2 pr (.lst [])) pw (.lst (ws.map V.str)) pr = some (.lst []) := by rw [upd_ne npr, upd_same]
          have hw3 : upd (upd H2 pr (.lst [])) pw (.lst (ws.map V.str)) pw = some (.lst (ws.map V.str)) := upd_same
          have fpr : H pr = none := by
            cases e : H pr with
            | none => rfl
            | some o => rw [k02 _ _ e] at hpr; cases hpr
          generalize upd (upd H2 pr (.lst [])) pw (.lst (ws.map V.str)) = H3 at k23 hr3 hw3 ⊢
          have kBut : ∀ {H'}, But pr H3 H' → Same H H' := fun k b o e => k _ _ (ne_of_none e fpr) (k23 _ _ (k02 _ _ e))
          refine for_it walk_list (fun i σ H' => ∃ (rs : List Tm.Road) (xs : List V) (a b : Option V), rs.length = i ∧ (ws.take i).map tl = rs.map wordL ∧ (∀ r ∈ rs, r.1 < r.2 ∧ r.2 < n) ∧ (rs.Pairwise fun a b => Tm.ltR a b = true) ∧ But pr H3 H' ∧ H' pr = some (.lst xs) ∧
              RddAll (del H' pr) xs (rs.map rd) ∧ σ = [some (.str s), some (.ref p), some (.int n), some (.ref pr), a, b, none])
            ⟨[], [], none, none, rfl, rfl, (fun _ z => nomatch z), .nil, but_refl, hr3, .nil, rfl⟩ (fun i σ H' _ ⟨_, _, _, _, _, _, _, _, k, _⟩ => SqL.of (k _ _ npr.symm hw3)) ?_ ?_
          · rintro i x σ H0 H4 hi ⟨rs, xs, a0, b0, li, ei, bd, asc, k4, hr4, ra, rfl⟩ ⟨rfl, hx⟩
            rw [List.length_map] at hi
            rw [List.getElem?_map, List.getElem?_eq_getElem hi] at hx
            obtain rfl := Option.some.inj hx
            have kH4 := kBut k4
            have ti : (ws.take (i + 1)).map tl = (ws.take i).map tl ++ [tl ws[i]] := by rw [List.take_succ_eq_append_getElem hi, List.map_append]; rfl
            have lwi := lws _ (List.getElem_mem hi)
            have nri : ∀ {m qs}, Reads (tl s) m qs → ∃ (h : i < qs.length), tl ws[i] = wordL qs[i] ∧ rs = qs.take i ∧ qs[i].1 < qs[i].2 ∧ qs[i].2 < n ∧ ((rs ++ [qs[i]]).Pairwise fun a b => Tm.ltR a b = true) := fun {m qs} R => by
              obtain ⟨em0, e9⟩ := nrd R
              subst em0
              have l1 := congrArg List.length e9
              simp only [List.length_map] at l1
              have hq : i < qs.length := by omega
              have e3 := congrArg (fun l => l[i]?) e9
              simp only [List.getElem?_map, List.getElem?_eq_getElem hi, List.getElem?_eq_getElem hq, Option.map_some, Option.some.injEq] at e3
              have e4 : rs = qs.take i := by
                refine map_word_inj ?_
                rw [← ei, List.map_take, e9, List.map_take]
              have bq := R.ok.bnd _ (List.getElem_mem hq)
              refine ⟨hq, e3, e4, bq.1, bq.2, ?_⟩
              rw [e4, ← List.take_succ_eq_append_getElem hq]
              exact R.ok.asc.sublist (List.take_sublist _ _)
            generalize ws[i] = wd at ti lwi nri ⊢
            have lwd := len_tl wd
            refine ⟨_, rfl, ⟨wd, rfl⟩, wd, _, rfl, rfl, rfl, two_ln (by omega), fun p4 hp4 => ⟨p4, rfl, ⟨_, SqL.of upd_same⟩, fun D hD => ?_⟩⟩
            have k45 := upd_grow (o := .lst ((Txt.split wd "-").map V.str)) hp4
            have hq5 : upd H4 p4 (.lst ((Txt.split wd "-").map V.str)) p4 = some (.lst ((Txt.split wd "-").map V.str)) := upd_same
            have eqs := split_dash wd
            have lqs : ∀ q ∈ Txt.split wd "-", q.length ≤ 640 := fun q hq => by
              have := parts_len 45 [] (tl wd) (tl q) (by show tl q ∈ parts 45 (tl wd); rw [← eqs]; exact List.mem_map_of_mem hq)
              rw [← len_tl, ← lwd] at this
              simp only [List.length_nil] at this
              omega
            have lqm : (Txt.split wd "-").length ≤ 641 := by
              have : (parts 45 (tl wd)).length ≤ _ := parts_many 45 [] (tl wd)
              rw [← eqs, List.length_map] at this
              omega
            have hDr : D ≠ pr := fun e => by rw [e, k45 _ _ hr4] at hD; cases hD
            generalize Txt.split wd "-" = qs at k45 hq5 eqs lqs lqm hD ⊢
            generalize upd H4 p4 (.lst (qs.map V.str)) = H5 at k45 hq5 hD ⊢
            refine lc_gen walk_list (fun _ => true) (fun i y _ => (∃ m, tl (qs.getD i Str.empty) = dg m ∧ y = .int (m : Nat)) ∨ ((¬ ∃ m, tl (qs.getD i Str.empty) = dg m) ∧ y = .non)) (fun _ _ _ _ _ h => h) hD (by rw [List.length_map]; omega) (fun H' k => SqL.of (del_sub k _ _ hq5)) ?_ ?_
            · rintro j y H6 H7 K1 N1 hj k6 ⟨o, ho⟩ ⟨rfl, hy⟩ hK _
              rw [List.length_map] at hj
              rw [List.getElem?_map, List.getElem?_eq_getElem hj] at hy
              obtain rfl := Option.some.inj hy
              rw [getD_at hj] at hK
              exact ⟨rfl, _, rfl, qs[j], rfl, lqs _ (List.getElem_mem hj), fun m em H8 k8 => hK rfl _ _ k8 (.inl ⟨m, em, rfl⟩), fun nm H8 k8 => hK rfl _ _ k8 (.inr ⟨nm, rfl⟩)⟩
            · intro ys H6 k6 h6 l6 r6
              rw [filt_all, List.length_map] at l6 r6
              rw [List.length_range] at l6
              have PD : PartsD qs ys := parts_of l6 fun i q y h1 h3 => by
                have li := (List.getElem?_eq_some_iff.mp h1).1
                have := r6 i i y (by rw [List.getElem?_eq_getElem (by rw [List.length_range]; exact li)]; simp) h3
                rw [List.getD_eq_getElem?_getD, h1] at this
                exact this
              have k46 := k45.trans (del_sub k6)
              have kH6 := kH4.trans k46
              have two : ∀ {m qs'}, Reads (tl s) m qs' → ∃ r : Tm.Road, tl wd = wordL r ∧ ys = [.int (r.1 : Nat), .int (r.2 : Nat)] ∧ r.1 < r.2 ∧ r.2 < n ∧ ((rs ++ [r]).Pairwise fun a b => Tm.ltR a b = true) := fun R => by
                obtain ⟨hq, e1, _, b1, b2, pw'⟩ := nri R
                refine ⟨_, e1, PD.nums (ms := [_, _]) ?_, b1, b2, pw'⟩
                rw [eqs, e1, parts_word]
                rfl
              refine ⟨_, rfl, _, _, rfl, .inl ⟨_, SqL.of h6, rfl⟩, rfl, _, rfl, iteB (fun c1 => ?_) fun c1 => ?_⟩
              · refine no' kH6 fun m qs' R => ?_
                obtain ⟨r, _, e2, _⟩ := two R
                rw [e2] at c1
                simp at c1
              refine ⟨_, rfl, D, ys, rfl, .inl (SqL.of h6), rfl, PD.flat, _, rfl, ?_⟩
              rw [if_neg (by decide)]
              refine iteB (fun c2 => ?_) fun c2 => ?_
              · refine no' kH6 fun m qs' R => ?_
                obtain ⟨r, _, e2, _⟩ := two R
                rw [e2] at c2
                have := ints_non [r.1, r.2]
                simp only [List.map_cons, List.map_nil] at this
                rw [this] at c2
                cases c2
              obtain ⟨ms, em, ey⟩ := PD.ints c2
              obtain ⟨a, b, rfl⟩ : ∃ a b, ms = [a, b] := by
                have c1 := of_decide_eq_true (not_f c1)
                injection c1 with c1
                rw [ey, List.length_map] at c1
                match ms, c1 with
                | [a, b], _ => exact ⟨a, b, rfl⟩
                | [], h => simp at h
                | [_], h => simp at h
                | _ :: _ :: _ :: l, h => simp only [List.length_cons] at h; omega
              obtain rfl : ys = [V.int (a : Int), V.int (b : Int)] := ey
              have ewd : tl wd = wordL (a, b) := word_of (by rw [← eqs, em]; rfl)
              have nrw : ∀ {m qs'}, Reads (tl s) m qs' → a < b ∧ b < n ∧ ((rs ++ [(a, b)]).Pairwise fun a b => Tm.ltR a b = true) := fun R => by
                obtain ⟨r, e1, _, e3⟩ := two R
                have := word_inj (e1.symm.trans ewd)
                subst this
                exact e3
              have hr6 : H6 pr = some (.lst xs) := k46 _ _ hr4
              have ra6 : RddAll (del H6 pr) xs (rs.map rd) := ra.mono (del_mono k46)
              have k36 : But pr H3 H6 := k4.trans (But.of k46)
              dsimp only [tNext]
              refine tSeq_by (fun σ' H' => σ' = [some (.str s), some (.ref p), some (.int n), some (.ref pr), some (.str wd), some (.ref D), none] ∧ Same H6 H' ∧ a < b ∧ b < n ∧ ((rs ++ [(a, b)]).Pairwise fun a b => Tm.ltR a b = true)) ?_ fun rest => ?_
              · rintro σ' H7 ⟨rfl, k7, ab, bn, pw'⟩
                have h7 := k7 _ _ h6
                have hr7 := k7 _ _ hr6
                refine ⟨_, rfl, .inl ⟨rfl, _, SqL.of hr7⟩, _, rfl, ixAt h7 at0 ⟨_, rfl, ixAt h7 at1 ⟨two_ln (by show 2 ≤ _; decide), fun pt hpt => ⟨pr, xs, _, rfl, rfl, upd_grow hpt _ _ hr7, ?_, ?_⟩⟩⟩⟩
                · have := rdds_len ra
                  rw [List.length_map] at this
                  exact lt_ln (by omega)
                · have ntr : pt ≠ pr := fun e => by rw [e, hr7] at hpt; cases hpt
                  refine ⟨rs ++ [(a, b)], _, _, _, by rw [List.length_append, li]; rfl, ?_, fun r hr => ?_, pw', ?_, upd_same, ?_, rfl⟩
                  · rw [ti, ei, ewd, List.map_append]
                    rfl
                  · rcases List.mem_append.mp hr with hr | hr
                    · exact bd r hr
                    · rw [List.mem_singleton.mp hr]
                      exact ⟨ab, bn⟩
                  · exact (k36.trans (But.of (k7.trans (upd_grow hpt)))).trans But.upd
                  · rw [List.map_append]
                    have kk : Same (del H6 pr) (del (upd (upd H7 pt (.tup [.int a, .int b])) pr (.lst (xs ++ [.ref pt]))) pr) := fun b' o e => by
                      by_cases z : b' = pr
                      · rw [z, del_same] at e; cases e
                      · rw [del_ne z] at e ⊢
                        rw [upd_ne z]
                        exact upd_grow hpt _ _ (k7 _ _ e)
                    refine rdds_add (.tup (xs := [.int a, .int b]) ?_ (.cons (.int _) (.cons (.int _) .nil))) (ra6.mono kk)
                    rw [del_ne ntr, upd_ne ntr, upd_same]
              · have lxs := rdds_len ra
                rw [List.length_map] at lxs
                refine ⟨_, rfl, ixAt h6 at0 ⟨_, rfl, ixAt h6 at1 ⟨_, _, rfl, rfl, _, rfl, iteB (fun c3 => ⟨_, rfl, _, _, rfl, rfl, _, rfl, iteB (fun c4 => ?_) fun c4 => ?_⟩) fun c3 => ⟨false, rfl, iteT ?_⟩⟩⟩⟩
                · refine no' kH6 fun m qs' R => ?_
                  have := of_decide_eq_false (not_t c4)
                  have := (nrw R).2.1
                  omega
                · have ab : a < b := by have := of_decide_eq_true c3; omega
                  have bn : b < n := by have := of_decide_eq_true (not_f c4); omega
                  refine ⟨_, rfl, two_ln (by show 0 ≤ _; decide), fun pe hpe => ⟨pr, pe, xs, rfl, rfl, SqL.of (upd_grow hpe _ _ hr6), SqL.of upd_same, _, rfl, iteB (fun c5 => ?_) fun c5 => ?_⟩⟩
                  · have k67 := upd_grow (o := .lst []) hpe
                    generalize upd H6 pe (.lst []) = H7 at k67 ⊢
                    obtain ⟨ys, y, rfl⟩ : ∃ ys y, xs = ys ++ [y] := by
                      rcases List.eq_nil_or_concat xs with h | ⟨ys, y, h⟩
                      · rw [h] at c5; simp at c5
                      · exact ⟨ys, y, by simpa using h⟩
                    obtain ⟨hy, pl, rfl, hpl⟩ := pair_at ((ra6.mono del_le).mono k67) (i := ys.length) (x := y) (by rw [List.getElem?_append_right (Nat.le_refl _)]; simp)
                    rw [List.length_append, List.length_singleton] at lxs
                    refine ⟨_, rfl, _, rfl, ixAt (k67 _ _ hr6) (atI_last ys _) ⟨_, rfl, ixAt (k67 _ _ h6) at0 ⟨_, rfl, ixAt (k67 _ _ h6) at1 ⟨two_ln (by show 2 ≤ _; decide), fun pt hpt => ?_⟩⟩⟩⟩
                    refine ⟨pl, pt, [((rs[ys.length].1 : Nat) : Int), ((rs[ys.length].2 : Nat) : Int)], [(a : Int), (b : Int)], rfl, rfl, SqT.of (upd_grow hpt _ _ hpl), SqT.of upd_same, _, rfl, ?_⟩
                    rw [ltR_int rs[ys.length] (a, b)]
                    refine iteB (fun c6 => ?_) fun c6 => ?_
                    · refine no' (kH6.trans (k67.trans (upd_grow hpt))) fun m qs' R => ?_
                      have := of_asc (nrw R).2.2 ys.length (by rw [List.length_append, List.length_singleton]; omega)
                      rw [getD_at (by rw [List.length_append]; omega), getD_at (by rw [List.length_append, List.length_singleton]; omega), List.getElem_append_left hy, List.getElem_append_right (by omega)] at this
                      have e10 : ∀ j (hj : j < [(a, b)].length), [(a, b)][j] = (a, b) := fun j hj => by
                        rw [List.length_singleton] at hj
                        have : j = 0 := by omega
                        subst this
                        rfl
                      rw [e10] at this
                      rw [this] at c6
                      cases c6
                    · refine rest _ _ ⟨rfl, k67.trans (upd_grow hpt), ab, bn, asc_snoc asc fun k hk => ?_⟩
                      have ek : k = ys.length := by omega
                      subst ek
                      rw [getD_at hy]
                      exact not_f c6
                  · refine rest _ _ ⟨rfl, upd_grow hpe, ab, bn, asc_snoc asc fun k hk => ?_⟩
                    have : xs = [] := by
                      cases xs with
                      | nil => rfl
                      | cons _ _ => simp at c5
                    rw [this] at lxs
                    simp at lxs
                    omega
                · refine no' kH6 fun m qs' R => ?_
                  have := of_decide_eq_false c3
                  have := (nrw R).1
                  omega
          · rintro σ H4 ⟨rs, xs, a0, b0, li, ei, bd, asc, k4, hr4, ra, rfl⟩
            rw [List.length_map] at li ei
            rw [List.take_length] at ei
            have kH4 := kBut k4
            have ok : Tm.RoadsOk n rs := ⟨by omega, bd, asc⟩
            refine ⟨_, rfl, _, rfl, n, pr, rs, rfl, n64, .lst hr4 (ra.mono del_le), ok, fun bj H5 k5 hb => ⟨_, rfl, iteB (fun c1 => ?_) fun c1 => ?_⟩⟩
            · refine ⟨_, rfl, _, rfl, two_ln (by show 2 ≤ _; decide), fun q0 hq0 => ?_⟩
              have k05 := kH4.trans k5
              have nqr : q0 ≠ pr := fun e => by rw [e, k5 _ _ hr4] at hq0; cases hq0
              refine yes s n rs rfl ⟨line_of ?_, n1, n64, ok, hb.mp c1⟩ q0 pr _ ?_ fpr (k05.trans (upd_grow hq0)) upd_same (.lst (upd_grow hq0 _ _ (k5 _ _ hr4)) (((ra.mono del_le).mono k5).mono (upd_grow hq0))) nqr
              · rw [← ep, eh, ei]
              · cases e : H q0 with
                | none => rfl
                | some o => rw [k05 _ _ e] at hq0; cases hq0
            · refine no' (kH4.trans k5) fun m qs' R => ?_
              obtain ⟨em0, e9⟩ := nrd R
              subst em0
              have := map_word_inj (e9.symm.trans ei)
              subst this
              rw [hb.mpr R.jo] at c1
              cases c1
        · exact ⟨false, rfl, iteT (no' k02 fun m rs R => by
            have := of_decide_eq_false e1
            have := R.ge
            have := (nrd R).1
            omega)⟩
      · refine ⟨_, rfl, rfl, _, rfl, iteB (fun _ => ?_) fun e1 => by simp at e1⟩
        refine no' (k1.trans k2) fun m rs R => nn ⟨m, ?_⟩
        rw [cut_last, (key R).1]
        exact (head_cut m).2
    · have ec := of_decide_eq_false ec
      refine ⟨_, rfl, rfl, _, rfl, iteB (fun _ => ?_) fun e1 => by simp at e1⟩
      refine no' k1 fun m rs R => ec ?_
      rw [(key R).1]
      exact (head_cut m).1
end
end K03

namespace K03
open PySem PySem.Spec PyProof.Rows L2 Tn TL
/-- plain signs only -/
def Asc (z : Str) : Prop := ∀ c ∈ tl z, c < 128
theorem Asc.app {x y : Str} (h : Asc x) (k : Asc y) : Asc (x ++ y) := fun c hc => by
  rw [tl_append] at hc
  exact (List.mem_append.mp hc).elim (h c) (k c)
theorem Asc.cut {z : Str} (h : Asc z) (lo hi : Option Int) : Asc (cutS z lo hi) := fun c hc => by
  unfold cutS at hc
  exact h c (List.mem_of_mem_drop (List.mem_of_mem_take hc))
theorem mem_joinL {S : List Nat} {c : Nat} : ∀ {ps : List (List Nat)}, c ∈ joinL S ps → c ∈ S ∨ ∃ p ∈ ps, c ∈ p
  | [], h => nomatch h
  | [p], h => .inr ⟨p, List.mem_cons_self, h⟩
  | p :: q :: r, h => by
    rw [joinL_cons (by simp)] at h
    rcases List.mem_append.mp h with h | h
    · exact .inr ⟨p, List.mem_cons_self, h⟩
    · rcases List.mem_append.mp h with h | h
      · exact .inl h
      · rcases mem_joinL h with h | ⟨x, hx, h⟩
        · exact .inl h
        · exact .inr ⟨x, List.mem_cons_of_mem _ hx, h⟩
theorem mem_part {s c : Nat} : ∀ (acc l : List Nat) {p : List Nat}, p ∈ spl [s] 0 acc l → c ∈ p → c ∈ acc ∨ c ∈ l
  | acc, [], p, hp, hc => by
    rw [spl_nil, List.mem_singleton] at hp
    rw [hp] at hc
    exact .inl hc
  | acc, x :: r, p, hp, hc => by
    by_cases h : x = s
    · rw [spl_hit (by rw [pre_one]; exact decide_eq_true h)] at hp
      rcases List.mem_cons.mp hp with rfl | hp
      · exact .inl hc
      · rcases mem_part [] r hp hc with z | z
        · cases z
        · exact .inr (List.mem_cons_of_mem _ z)
    · rw [spl_miss (by rw [pre_one]; exact decide_eq_false h)] at hp
      rcases mem_part _ r hp hc with z | z
      · rcases List.mem_append.mp z with z | z
        · exact .inl z
        · exact .inr (by rw [List.mem_singleton.mp z]; exact List.mem_cons_self)
      · exact .inr (List.mem_cons_of_mem _ z)
theorem Asc.join {y : Str} {ys : List Str} (h : Asc y) (k : ∀ a ∈ ys, Asc a) : Asc (Txt.join y ys) := fun c hc => by
  rw [join_eq, tl_join] at hc
  rcases mem_joinL hc with z | ⟨p, hp, z⟩
  · exact h c z
  · obtain ⟨a, ha, rfl⟩ := List.mem_map.mp hp
    exact k a ha c z
theorem Asc.sub {z : Str} (h : Asc z) (i j : Nat) : Asc (Builtin.Str.strSub z i j) := fun c hc => by
  have hc : c ∈ (z.cps.extract i j).toList := hc
  rw [Array.toList_extract] at hc
  exact h c (by
    rw [List.extract_eq_take_drop] at hc
    exact List.mem_of_mem_drop (List.mem_of_mem_take hc))
theorem Asc.repl {x y z : Str} (h : Asc x) (k : Asc z) : Asc (Txt.replace x y z) := by
  unfold Txt.replace
  split
  · exact h
  · rw [StrLaws.glued_eq_join, ← join_eq]
    refine Asc.join k fun a ha => ?_
    unfold Builtin.Str.partsBetween at ha
    obtain ⟨⟨i, j⟩, _, rfl⟩ := List.mem_map.mp ha
    exact h.sub i j
theorem Asc.words {z : Str} (h : Asc z) : ∀ a ∈ Txt.split z " ", Asc a := fun a ha c hc => by
  have k := split_spl z " " (by rw [space_eq]; simp) (kind_ok (by decide +kernel))
  rw [space_eq] at k
  have m : tl a ∈ parts 32 (tl z) := by show tl a ∈ spl [32] 0 [] (tl z); rw [← k]; exact List.mem_map_of_mem ha
  exact h c ((mem_part [] _ m hc).resolve_left (by simp))
theorem Asc.dashes {z : Str} (h : Asc z) : ∀ a ∈ Txt.split z "-", Asc a := fun a ha c hc => by
  have m : tl a ∈ parts 45 (tl z) := by rw [← split_dash]; exact List.mem_map_of_mem ha
  exact h c ((mem_part [] _ m hc).resolve_left (by simp))
theorem dg_asc {n c : Nat} (h : c ∈ dg n) : c < 128 := Nat.lt_of_le_of_lt (dg_all n c h).2 (by decide)
theorem asc_line (n : Nat) (rs : List Tm.Road) : Asc (mkS (lineL n rs)) := fun c hc => by
  rw [tl_mkS] at hc
  rcases mem_joinL hc with z | ⟨p, hp, z⟩
  · rw [List.mem_singleton.mp z]; decide
  · rcases List.mem_cons.mp hp with rfl | hp
    · rcases List.mem_append.mp z with z | z
      · exact dg_asc z
      · rw [List.mem_singleton.mp z]; decide
    · obtain ⟨r, _, rfl⟩ := List.mem_map.mp hp
      rcases List.mem_append.mp z with z | z
      · exact dg_asc z
      · rcases List.mem_cons.mp z with rfl | z
        · decide
        · exact dg_asc z
theorem Asc.tame {z : Str} (h : Asc z) (l : z.length ≤ 640) : Nc 0 6402 (.str z) :=
  ⟨by simp only [asc]; exact List.all_eq_true.mpr fun c hc => decide_eq_true (h c hc), rfl, Nat.le_refl _, by simp only [wt]; omega⟩
theorem ascS_of {z : Str} (h : (tl z).all (fun c => decide (c < 128)) = true) : Asc z := fun c hc => of_decide_eq_true (List.all_eq_true.mp h c hc)
end K03

/-! x.replace('a', 'b') behind another written text -/
namespace L2
open PySem PySem.Spec PyProof.Rows
/-- behind it a token is out -/
def PEK (X : Cx) (e : Expr) (t : TE) : Prop :=
  ∀ (pins : List (Addr × Obj)) (s : Shared) (σ : St) (H : Hp) (Q : VK), Inv X pins σ H s → t σ H Q → wpAny (model X.prog X.w) X.A (eval e X.env) (fun v s1 => 1 ≤ s1.toks ∧ EP X pins σ Q v s1) X.xe s
section
variable {X : Cx} {a b e : Expr} {es : List Expr} {ta tb te : TE} {t : TA} {pos : Pos}
theorem pek_str {x : Str} {j} : PEK X (.Constant (.str x) j pos) (tC (.str x)) := fun _ s _ H _ I h =>
  Calls.Constant_str ⟨by show 1 ≤ s.toks + 1; omega, .str x, H, I.tok _, ⟨_, rfl⟩, h⟩
theorem pek_op {op : Operator} {r : R2} (ho : OpR X (binaryOp op) r) (ha : PEK X a ta) (hb : PE X b tb) : PEK X (.BinOp a op b pos) (tOp r ta tb) := by
  intro pins s σ H Q I h
  refine wpAny_BinOp (wpAny_mono (ha pins s σ H _ I h) (fun v s1 q => ?_) fun _ _ z => z)
  obtain ⟨hk, x, H1, I1, r1, q1⟩ := q
  refine wpAny_mono (PySem.wpAny_toks_of hk (hb.run pins s1 σ H1 _ I1 q1)) (fun u s2 q => ?_) fun _ _ z => z.2
  obtain ⟨hk2, y, H2, I2, r2, q2⟩ := q
  exact wpAny_mono (PySem.wpAny_toks_of hk2 (ho pins s2 σ H2 x y v u Q I2 r1 r2 q2)) (fun _ _ z => z) fun _ _ z => z.2
theorem pa_consK (ha : PEK X e te) (hr : PAT X es t) (hs : starEach (e :: es) X.env = (false, eval e X.env) :: starEach es X.env := by rfl) : PA X (e :: es) (tCons te t) := by
  refine ⟨fun pos pins s σ H Q I h => ?_⟩
  rw [hs]
  show wpAny _ _ (spliced ((false, eval e X.env) :: backTo pos (starEach es X.env))) _ _ s
  refine Calls.spliced_cons (wpAny_mono (ha pins s σ H _ I h) (fun u s1 q => ?_) fun _ _ z => z)
  obtain ⟨hk, x, H1, I1, r1, q1⟩ := q
  exact thn (hr pos pins s1 σ H1 _ hk I1 q1) fun us s2 ⟨xs, H2, I2, r2, q2⟩ => ⟨x :: xs, H2, I2, .cons r1 r2, q2⟩
theorem pat_consR (ha : PET X e te) (hr : PA X es t) (hs : starEach (e :: es) X.env = (false, eval e X.env) :: starEach es X.env := by rfl) : PAT X (e :: es) (tCons te t) := by
  intro pos pins s σ H Q h0 I h
  rw [hs]
  show wpAny _ _ (spliced ((false, eval e X.env) :: backTo pos (starEach es X.env))) _ _ s
  refine Calls.spliced_cons (thn (ha pins s σ H _ h0 I h) fun u s1 ⟨x, H1, I1, r1, q1⟩ => ?_)
  exact thn (hr.run pos pins s1 σ H1 _ I1 q1) fun us s2 ⟨xs, H2, I2, r2, q2⟩ => ⟨x :: xs, H2, I2, .cons r1 r2, q2⟩
end
end L2

namespace K03
open PySem PySem.Spec PyProof.Rows L2 Tn TL
abbrev sLSpS : Stmt := top 31
theorem scLSpS : FnScope ["box", "text", "menu", "way", "place", "sign"] ["box", "text"] (defScope sLSpS) := ⟨rfl, rfl, rfl, by decide +kernel, rfl, by decide +kernel, by decide +kernel⟩
abbrev sLSpW : Stmt := top 32
theorem scLSpW : FnScope ["box", "text", "words", "kind", "place", "word", "head", "tail", "rows", "turned", "first"] ["box", "text"] (defScope sLSpW) := ⟨rfl, rfl, rfl, by decide +kernel, rfl, by decide +kernel, by decide +kernel⟩
def spSpS : Sp := fun vs H Q _ => ∃ (p : Addr) (z : Str) (c : Nat), vs = [.ref p, .str z] ∧ BoxAt H p c ∧ c + 5 < 1000 ∧ z.length ≤ 640 ∧ Asc z ∧ ∀ z' H', But p H H' → BoxAt H' p (c + 3) → z'.length ≤ z.length + 1 → Asc z' → Q (.str z') H'
def spSpW : Sp := fun vs H Q _ => ∃ (p : Addr) (n c : Nat) (rs : List Tm.Road), vs = [.ref p, .str (mkS (lineL n rs))] ∧ BoxAt H p c ∧ c + 6 < 1000 ∧ n < 100 ∧ (∀ r ∈ rs, r.1 < 100 ∧ r.2 < 100) ∧ rs.length ≤ 63 ∧
  ∀ z' H', But p H H' → BoxAt H' p (c + 4) → z'.length ≤ 400 → Asc z' → Q (.str z') H'
theorem cut_take (z : Str) (k : Nat) : tl (cutS z none (some (k : Int))) = (tl z).take k := by
  have lz := len_tl z
  unfold cutS
  show (((tl z).drop (HT.sIx z.length 0 none)).take (HT.sIx z.length z.length (some (k : Int)) - HT.sIx z.length 0 none)) = _
  rw [HT.sIx_none, HT.sIx_nat, List.drop_zero, Nat.sub_zero, lz]
  by_cases h : k ≤ (tl z).length
  · rw [Nat.min_eq_left h]
  · rw [Nat.min_eq_right (by omega), List.take_of_length_le (Nat.le_refl _), List.take_of_length_le (by omega)]
theorem cut_drop (z : Str) (k : Nat) : tl (cutS z (some (k : Int)) none) = (tl z).drop k := by
  have lz := len_tl z
  unfold cutS
  show (((tl z).drop (HT.sIx z.length 0 (some (k : Int)))).take (HT.sIx z.length z.length none - HT.sIx z.length 0 (some (k : Int)))) = _
  rw [HT.sIx_none, HT.sIx_nat, lz]
  by_cases h : k ≤ (tl z).length
  · rw [Nat.min_eq_left h]
    exact List.take_of_length_le (by rw [List.length_drop]; exact Nat.le_refl _)
  · rw [Nat.min_eq_right (by omega), List.drop_length, List.drop_eq_nil_of_le (by omega)]
    simp
theorem cut_lens (z : Str) (k : Nat) : (cutS z none (some (k : Int))).length = min k z.length ∧ (cutS z (some (k : Int)) none).length = z.length - k := by
  refine ⟨?_, ?_⟩
  · rw [len_tl, cut_take, List.length_take, ← len_tl]
  · rw [len_tl, cut_drop, List.length_drop, ← len_tl]
theorem repl_len (x y z : Str) : (Txt.replace x y z).length ≤ x.length + (x.length + 1) * z.length := by
  unfold Txt.replace
  split
  · exact Nat.le_add_right _ _
  · have h1 := StrLaws.occ_length_le x y 0 x.length (x.length + 1)
    have hy : (Builtin.Str.glued y (Builtin.Str.partsBetween x (Builtin.Str.occurrences x y 0 x.length (x.length + 1)) y.length)).length = x.length := by rw [StrLaws.glued_between_self]
    rw [size_glued, length_partsBetween, Nat.add_sub_cancel] at hy
    rw [size_glued, length_partsBetween, Nat.add_sub_cancel]
    have h2 : (Builtin.Str.occurrences x y 0 x.length (x.length + 1)).length * z.length ≤ (x.length + 1) * z.length := Nat.mul_le_mul_right _ h1
    omega
section
variable {P : Program} {w : World} {K : PySem.W.Frag} {mg : Str → Option Value} {base : Heap} {f : Addr} {fd : FuncData}
theorem ok_sps (F : Fd K "_law_spoilt_sign" sLSpS f fd) (g : mg "_law_spoilt_sign" = some (.ref f)) (B : Bl mg) (o_law_take : Ok P w K mg base CX0 1 "_law_take" sTake ["box", "many"] spDraw1) : Ok P w K mg base CX0 2 "_law_spoilt_sign" sLSpS ["box", "text"] spSpS := by
  refine ⟨f, fd, g, F, F.bindsN fun _ _ _ _ _ _ us hl => match us, hl with | [_, _], _ => rfl, F.ok scLSpS (fun vs H Q E h => ?_) (fun cdv A outer s H vs Q E hr h => ?_)⟩
  · obtain ⟨p, z, c, rfl, _⟩ := h
    rfl
  · refine ⟨_, (pss_cons (ps_set (i := 2) scLSpS.nd rfl (Or.inl rfl) (pe_lst (pa_cons pe_str (pa_cons pe_str (pa_cons pe_str (pa_cons pe_str (pa_cons pe_str (pa_cons pe_str (pa_cons pe_str (pa_cons pe_str (pa_cons pe_str (pa_cons pe_str (pa_cons pe_str (pa_cons pe_str (pa_cons pe_str (pa_cons pe_str pa_nil))))))))))))))))
      (pss_cons (ps_par3 (i := 3) (j := 4) (l := 5) rfl scLSpS.nd rfl rfl rfl (by decide) (by decide) (by decide) rfl rfl rfl (pa_cons (pe_o o_law_take (hr.mono (by decide)) (by rfl) (pa_cons (pv 0) (pa_cons pe_int pa_nil))) (pa_cons (pe_o o_law_take (hr.mono (by decide)) (by rfl) (pa_cons (pv 0) (pa_cons (pe_op op_add (pe_callB call_len (by rfl) (B.u "len" (by decide +kernel)) boot_len (pa_cons (pv 1) pa_nil)) pe_int) pa_nil))) (pa_cons (pe_ix ix_seq (pv 2) (pe_o o_law_take (hr.mono (by decide)) (by rfl) (pa_cons (pv 0) (pa_cons pe_int pa_nil))) fun _ _ => rfl) pa_nil))) rfl)
      (pss_one (ps_ret (pe_op op_add_str (pe_slice sl_str (pv 1) po_none (po_some (pv 4))) (pe_ix ix_seq (pe_lst (pa_cons (pe_op op_add_str (pv 5) (pe_slice sl_str (pv 1) (po_some (pe_op op_add (pv 4) pe_int)) po_none)) (pa_cons (pe_op op_add_str (pv 5) (pe_slice sl_str (pv 1) (po_some (pv 4)) po_none)) (pa_cons (pe_slice sl_str (pv 1) (po_some (pe_op op_add (pv 4) pe_int)) po_none) pa_nil)))) (pv 3) fun _ _ => rfl)))))), ?_⟩
    obtain ⟨p, z, c, rfl, hp, hc, hz, az, q⟩ := h
    refine ⟨two_ln (by show 14 ≤ _; decide), fun pm hpm => ?_⟩
    have hm := upd_same (H := H) (a := pm) (o := .lst [.str "0", .str "1", .str "9", .str "6", .str " ", .str ":", .str "-", .str "+", .str "_", .str "x", .str ".", .str "\n", .str "\t", .str "~"])
    have k0 := upd_grow (o := .lst [.str "0", .str "1", .str "9", .str "6", .str " ", .str ":", .str "-", .str "+", .str "_", .str "x", .str ".", .str "\n", .str "\t", .str "~"]) hpm
    have npm : pm ≠ p := fun e => by obtain ⟨o, z⟩ := hp.some; rw [← e, hpm] at z; cases z
    have hp0 := hp.same k0
    generalize upd H pm (.lst [.str "0", .str "1", .str "9", .str "6", .str " ", .str ":", .str "-", .str "+", .str "_", .str "x", .str ".", .str "\n", .str "\t", .str "~"]) = H0 at hm k0 hp0 ⊢
    refine ⟨_, rfl, p, 3, c, rfl, hp0, by omega, by decide, by decide, fun wy H1 w0 w1 k1 hp1 e1 => ?_⟩
    refine ⟨_, rfl, _, rfl, _, _, rfl, ⟨two_ln (by omega), rfl⟩, _, _, rfl, rfl, p, _, _, rfl, hp1, by omega, by omega, by omega, fun pl H2 p0 p1 k2 hp2 e2 => ?_⟩
    refine ⟨_, rfl, _, rfl, p, 14, _, rfl, hp2, by omega, by decide, by decide, fun sg H3 s0 s1 k3 hp3 e3 => ?_⟩
    have kA := (But.of k0).trans (k1.trans (k2.trans k3))
    have hm3 := k3 _ _ npm (k2 _ _ npm (k1 _ _ npm hm))
    obtain ⟨sn, rfl⟩ : ∃ sn : Nat, sg = sn := ⟨sg.toNat, by omega⟩
    obtain ⟨k, rfl⟩ : ∃ k : Nat, pl = k := ⟨pl.toNat, by omega⟩
    obtain ⟨x, hx, lx, ax⟩ : ∃ x : Str, ([V.str "0", .str "1", .str "9", .str "6", .str " ", .str ":", .str "-", .str "+", .str "_", .str "x", .str ".", .str "\n", .str "\t", .str "~"] : List V)[sn]? = some (.str x) ∧ x.length = 1 ∧ Asc x := by
      have : ∀ i : Nat, i < 14 → ∃ x : Str, ([V.str "0", .str "1", .str "9", .str "6", .str " ", .str ":", .str "-", .str "+", .str "_", .str "x", .str ".", .str "\n", .str "\t", .str "~"] : List V)[i]? = some (.str x) ∧ x.length = 1 ∧ Asc x := by
        intro i hi
        match i, hi with
        | 0, _ => exact ⟨_, rfl, rfl, ascS_of (by decide +kernel)⟩
        | 1, _ => exact ⟨_, rfl, rfl, ascS_of (by decide +kernel)⟩
        | 2, _ => exact ⟨_, rfl, rfl, ascS_of (by decide +kernel)⟩
        | 3, _ => exact ⟨_, rfl, rfl, ascS_of (by decide +kernel)⟩
        | 4, _ => exact ⟨_, rfl, rfl, ascS_of (by decide +kernel)⟩
        | 5, _ => exact ⟨_, rfl, rfl, ascS_of (by decide +kernel)⟩
        | 6, _ => exact ⟨_, rfl, rfl, ascS_of (by decide +kernel)⟩
        | 7, _ => exact ⟨_, rfl, rfl, ascS_of (by decide +kernel)⟩
        | 8, _ => exact ⟨_, rfl, rfl, ascS_of (by decide +kernel)⟩
        | 9, _ => exact ⟨_, rfl, rfl, ascS_of (by decide +kernel)⟩
        | 10, _ => exact ⟨_, rfl, rfl, ascS_of (by decide +kernel)⟩
        | 11, _ => exact ⟨_, rfl, rfl, ascS_of (by decide +kernel)⟩
        | 12, _ => exact ⟨_, rfl, rfl, ascS_of (by decide +kernel)⟩
        | 13, _ => exact ⟨_, rfl, rfl, ascS_of (by decide +kernel)⟩
        | i + 14, h => omega
      exact this sn (by omega)
    have e1k : ((k : Int) + 1) = ((k + 1 : Nat) : Int) := by omega
    have L0 := cut_lens z k
    have L1 := cut_lens z (k + 1)
    refine ixAt hm3 (atI_nat hx) ⟨_, _, _, rfl, ?_⟩
    refine ⟨_, rfl, _, rfl, _, rfl, z, rfl, two_ln (by omega), ?_⟩
    refine ⟨_, rfl, _, rfl, _, rfl, _, _, rfl, rfl, _, rfl, z, rfl, two_ln (by omega), _, _, rfl, rfl, two_ln ?_, ?_⟩
    · rw [e1k]
      omega
    refine ⟨_, rfl, _, rfl, _, rfl, _, rfl, z, rfl, two_ln (by omega), _, _, rfl, rfl, two_ln (by omega), ?_⟩
    refine ⟨_, rfl, _, rfl, _, _, rfl, rfl, _, rfl, z, rfl, two_ln (by omega), two_ln (by show 3 ≤ _; decide), fun pa hpa => ?_⟩
    rw [e1k]
    have fin : ∀ y : Str, y.length + min k z.length ≤ z.length + 1 → Asc y → ∃ i j, V.str (cutS z none (some (k : Int))) = V.str i ∧ V.str y = V.str j ∧ i.length + j.length ≤ sizeLine ∧ Q (V.str (i ++ j)) (upd H3 pa (.lst [.str (x ++ cutS z (some ((k + 1 : Nat) : Int)) none), .str (x ++ cutS z (some (k : Int)) none), .str (cutS z (some ((k + 1 : Nat) : Int)) none)])) := fun y hy ay => by
      refine ⟨_, _, rfl, rfl, two_ln (by omega), q _ _ (kA.trans (But.of (upd_grow hpa))) ((hp3.same (upd_grow hpa)).up (by omega)) ?_ ((az.cut _ _).app ay)⟩
      rw [strLen_append]
      omega
    have three : wy = 0 ∨ wy = 1 ∨ wy = 2 := by omega
    rcases three with rfl | rfl | rfl
    · refine ⟨_, rfl, ixAt upd_same (atI_nat (j := 0) rfl) (fin _ ?_ (ax.app (az.cut _ _)))⟩
      rw [strLen_append]
      omega
    · refine ⟨_, rfl, ixAt upd_same (atI_nat (j := 1) rfl) (fin _ ?_ (ax.app (az.cut _ _)))⟩
      rw [strLen_append]
      omega
    · refine ⟨_, rfl, ixAt upd_same (atI_nat (j := 2) rfl) (fin _ ?_ (az.cut _ _))⟩
      omega
end
end K03

namespace K03
open PySem PySem.Spec PyProof.Rows L2 Tn TL
/-- texts of at most m signs -/
def ItemsW (m : Nat) (xs : List V) : Prop := ∀ x ∈ xs, ∃ s : Str, x = .str s ∧ s.length ≤ m ∧ Asc s
theorem ItemsW.app {m : Nat} {xs ys : List V} (h : ItemsW m xs) (k : ItemsW m ys) : ItemsW m (xs ++ ys) := fun x hx => (List.mem_append.mp hx).elim (h x) (k x)
theorem mem_cut {xs : List V} {lo hi : Option Int} {x : V} (h : x ∈ cutV xs lo hi) : x ∈ xs := by
  unfold cutV at h
  exact List.mem_of_mem_drop (List.mem_of_mem_take h)
theorem ItemsW.cut {m : Nat} {xs : List V} (h : ItemsW m xs) (lo hi : Option Int) : ItemsW m (cutV xs lo hi) := fun x hx => h x (mem_cut hx)
theorem ItemsW.one {m : Nat} {s : Str} (h : s.length ≤ m ∧ Asc s) : ItemsW m [.str s] := fun x hx => ⟨s, List.mem_singleton.mp hx, h⟩
theorem ItemsW.up {m m' : Nat} {xs : List V} (h : ItemsW m xs) (l : m ≤ m') : ItemsW m' xs := fun x hx => let ⟨s, e, k, a⟩ := h x hx; ⟨s, e, by omega, a⟩
theorem ItemsW.strs {m : Nat} : ∀ {xs : List V}, ItemsW m xs → ∃ ys : List Str, xs = ys.map V.str ∧ ys.length = xs.length ∧ (∀ a ∈ ys, Asc a) ∧ (ys.map (·.length)).sum ≤ m * xs.length
  | [], _ => ⟨[], rfl, rfl, by simp, by simp⟩
  | x :: xs, h => by
    obtain ⟨s, rfl, l, as⟩ := h x List.mem_cons_self
    obtain ⟨ys, e, l2, l4, l3⟩ := ItemsW.strs (xs := xs) fun y hy => h y (List.mem_cons_of_mem _ hy)
    refine ⟨s :: ys, by rw [e]; rfl, by rw [List.length_cons, List.length_cons, l2], fun a ha => (List.mem_cons.mp ha).elim (fun e => e ▸ as) (l4 a), ?_⟩
    rw [List.map_cons, List.sum_cons, List.length_cons, Nat.mul_succ]
    omega
theorem cutV_lens (xs : List V) (k : Nat) : (cutV xs none (some (k : Int))).length = min k xs.length ∧ (cutV xs (some (k : Int)) none).length = xs.length - k := by
  unfold cutV
  refine ⟨?_, ?_⟩
  · rw [HT.sIx_none, HT.sIx_nat, List.length_take, List.length_drop]
    omega
  · rw [HT.sIx_none, HT.sIx_nat, List.length_take, List.length_drop]
    omega
theorem joinL_len {s : Nat} : ∀ {ps : List (List Nat)}, ps ≠ [] → (joinL [s] ps).length + 1 = (ps.map List.length).sum + ps.length
  | [], h => absurd rfl h
  | [p], _ => by simp [joinL]
  | p :: q :: r, _ => by
    have ih := joinL_len (s := s) (ps := q :: r) (by simp)
    rw [joinL_cons (by simp), List.length_append, List.length_append]
    simp only [List.map_cons, List.sum_cons, List.length_cons, List.length_nil] at ih ⊢
    omega
theorem join_le {y : Str} {c : Nat} (hy : tl y = [c]) : ∀ ys : List Str, (Txt.join y ys).length ≤ (ys.map (·.length)).sum + ys.length := by
  intro ys
  have e : (Txt.join y ys).length = (joinL [c] (ys.map tl)).length := by rw [len_tl, join_eq, tl_join, hy]
  rw [e]
  cases ys with
  | nil => exact Nat.zero_le _
  | cons a r =>
    have := joinL_len (s := c) (ps := (a :: r).map tl) (by simp)
    rw [List.map_map, List.length_map] at this
    have e2 : (a :: r).map (List.length ∘ tl) = (a :: r).map (·.length) := List.map_congr_left fun z _ => (len_tl z).symm
    rw [e2] at this
    omega
/-- texts that are joined to at most C signs -/
def Cost (C : Nat) (xs : List V) : Prop := ∃ ys : List Str, xs = ys.map V.str ∧ (∀ a ∈ ys, Asc a) ∧ (ys.map (·.length)).sum + ys.length ≤ C
theorem Cost.app {a b : Nat} {xs ys : List V} (h : Cost a xs) (k : Cost b ys) : Cost (a + b) (xs ++ ys) := by
  obtain ⟨us, rfl, ha, h2⟩ := h
  obtain ⟨vs, rfl, ka, k2⟩ := k
  refine ⟨us ++ vs, by rw [List.map_append], fun a m => (List.mem_append.mp m).elim (ha a) (ka a), ?_⟩
  rw [List.map_append, List.sum_append, List.length_append]
  omega
theorem Cost.up {a b : Nat} {xs : List V} (h : Cost a xs) (l : a ≤ b) : Cost b xs := let ⟨us, e, a, k⟩ := h; ⟨us, e, a, Nat.le_trans k l⟩
theorem ItemsW.cost {m : Nat} {xs : List V} (h : ItemsW m xs) : Cost ((m + 1) * xs.length) xs := by
  obtain ⟨ys, e, l, a, s⟩ := h.strs
  refine ⟨ys, e, a, ?_⟩
  rw [l, Nat.succ_mul]
  omega
theorem Cost.one {s : Str} {m : Nat} (h : s.length ≤ m ∧ Asc s) : Cost (m + 1) [.str s] := ⟨[s], rfl, fun a m => by rw [List.mem_singleton.mp m]; exact h.2, by simp; omega⟩
theorem split_few {w : Str} {m : Nat} (l : w.length ≤ m) : ((Txt.split w "-").map (·.length)).sum + (Txt.split w "-").length ≤ m + 1 := by
  have e := split_dash w
  have j := join_parts 45 (tl w)
  have n0 : parts 45 (tl w) ≠ [] := spl_ne _ _ _
  have h := joinL_len (s := 45) n0
  rw [j, ← e, List.map_map, List.length_map, ← len_tl] at h
  have e2 : (Txt.split w "-").map (List.length ∘ tl) = (Txt.split w "-").map (·.length) := List.map_congr_left fun z _ => (len_tl z).symm
  rw [e2] at h
  omega
section
variable {P : Program} {w : World} {K : PySem.W.Frag} {mg : Str → Option Value} {base : Heap} {f : Addr} {fd : FuncData}
theorem ok_spw (F : Fd K "_law_spoilt_word" sLSpW f fd) (g : mg "_law_spoilt_word" = some (.ref f)) (B : Bl mg) (o_law_take : Ok P w K mg base CX0 1 "_law_take" sTake ["box", "many"] spDraw1) : Ok P w K mg base CX0 2 "_law_spoilt_word" sLSpW ["box", "text"] spSpW := by
  refine ⟨f, fd, g, F, F.bindsN fun _ _ _ _ _ _ us hl => match us, hl with | [_, _], _ => rfl, F.ok scLSpW (fun vs H Q E h => ?_) (fun cdv A outer s H vs Q E hr h => ?_)⟩
  · obtain ⟨p, n, c, rs, rfl, _⟩ := h
    rfl
  · refine ⟨_, (pss_cons (ps_set (i := 2) scLSpW.nd rfl (Or.inl rfl) (pe_split (pv 1) pe_str))
      (pss_cons (ps_par (i := 3) (j := 4) rfl scLSpW.nd rfl rfl (by decide) rfl rfl (pa_cons (pe_o o_law_take (hr.mono (by decide)) (by rfl) (pa_cons (pv 0) (pa_cons pe_int pa_nil))) (pa_cons (pe_o o_law_take (hr.mono (by decide)) (by rfl) (pa_cons (pv 0) (pa_cons (pe_callB call_len (by rfl) (B.u "len" (by decide +kernel)) boot_len (pa_cons (pv 2) pa_nil)) pa_nil))) pa_nil)) rfl)
      (pss_cons (ps_par3 (i := 5) (j := 6) (l := 7) rfl scLSpW.nd rfl rfl rfl (by decide) (by decide) (by decide) rfl rfl rfl (pa_cons (pe_ix ix_seq (pv 2) (pv 4) fun _ _ => rfl) (pa_cons (pe_slice sl_list (pv 2) po_none (po_some (pv 4))) (pa_cons (pe_slice sl_list (pv 2) (po_some (pe_op op_add (pv 4) pe_int)) po_none) pa_nil))) rfl)
      (pss_cons (ps_if (pt_cmpR op_lt (pv 3) pe_int (nomark _))
        (pss_cons (ps_set (i := 8) scLSpW.nd rfl (Or.inl rfl) (pe_lst (pa_cons (pe_op op_cat (pe_op op_cat (pv 6) (pe_lst (pa_cons (pv 5) (pa_cons (pv 5) pa_nil)))) (pv 7)) (pa_cons (pe_op op_cat (pv 6) (pv 7)) (pa_cons (pe_op op_cat (pe_op op_cat (pe_op op_cat (pv 6) (pe_slice sl_list (pv 7) po_none (po_some pe_int))) (pe_lst (pa_cons (pv 5) pa_nil))) (pe_slice sl_list (pv 7) (po_some pe_int) po_none)) (pa_cons (pe_op op_cat (pe_op op_cat (pv 6) (pv 7)) (pe_lst (pa_cons (pv 5) pa_nil))) pa_nil))))))
        (pss_one (ps_ret (pe_join pe_str (pe_ix ix_seq (pv 8) (pv 3) fun _ _ => rfl)))))
        pss_nil)
      (pss_cons (ps_if (pt_cmpR op_lt (pv 3) pe_int (nomark _))
        (pss_cons (ps_set (i := 9) scLSpW.nd rfl (Or.inl rfl) (pe_join pe_str (pe_revL (pe_split (pv 5) pe_str))))
        (pss_one (ps_ret (pe_join pe_str (pe_op op_cat (pe_op op_cat (pv 6) (pe_lst (pa_cons (pe_ix ix_seq (pe_lst (pa_cons (pv 9) (pa_consK (pek_op op_add_str pek_str (pv 5)) (pat_consR (CwR.pet_replC (pv 5)) (pa_cons (pe_op op_add_str (pv 5) pe_str) pa_nil))))) (pe_op op_sub (pv 3) pe_int) fun _ _ => rfl) pa_nil))) (pv 7))))))
        pss_nil)
      (pss_cons (ps_set (i := 10) scLSpW.nd rfl (Or.inl rfl) (pe_ix ix_seq (pe_lst (pa_cons pe_str (pa_cons pe_str (pa_cons pe_str (pa_cons pe_str (pa_cons pe_str (pa_cons pe_str (pa_cons pe_str (pa_cons pe_str (pa_cons pe_str pa_nil)))))))))) (pe_o o_law_take (hr.mono (by decide)) (by rfl) (pa_cons (pv 0) (pa_cons pe_int pa_nil))) fun _ _ => rfl))
      (pss_cons (ps_if (pt_cmpR op_eq (pv 3) pe_int (nomark _))
        (pss_one (ps_ret (pe_join pe_str (pe_op op_cat (pe_lst (pa_cons (pv 10) pa_nil)) (pe_slice sl_list (pv 2) (po_some pe_int) po_none)))))
        pss_nil)
      (pss_one (ps_ret (pe_ix ix_seq (pe_lst (pa_cons (pe_op op_add_str pe_str (pv 1)) (pa_consK (pek_op op_add_str pek_str (pv 1)) (pat_consR (CwR.pet_replC (pv 1)) (pa_cons (pe_op op_add_str (pv 1) pe_str) (pa_cons (pe_op op_add_str (pv 1) pe_str) pa_nil)))))) (pe_o o_law_take (hr.mono (by decide)) (by rfl) (pa_cons (pv 0) (pa_cons pe_int pa_nil))) fun _ _ => rfl)))))))))), ?_⟩
    obtain ⟨p, n, c, rs, rfl, hp, hc, n1, bd, lr, q⟩ := h
    have lt : (mkS (lineL n rs)).length ≤ 381 := by
      rw [len_tl, tl_mkS]
      have := line_len n1 bd
      omega
    obtain ⟨h0, ws, esp, ep, _, _, _⟩ := split_words (mkS (lineL n rs))
    rw [tl_mkS, parts_line] at ep
    have lall : (h0 :: ws).length = rs.length + 1 := by
      have := congrArg List.length ep
      simp only [List.length_cons, List.length_map] at this ⊢
      omega
    have itm : ItemsW 5 ((h0 :: ws).map V.str) := fun x hx => by
      obtain ⟨y, hy, rfl⟩ := List.mem_map.mp hx
      refine ⟨y, rfl, ?_, asc_line n rs |>.words y (by rw [esp]; exact hy)⟩
      have : tl y ∈ headL n :: rs.map wordL := by
        rw [← ep]
        exact List.mem_map_of_mem (f := tl) hy
      rw [len_tl]
      rcases List.mem_cons.mp this with e | e
      · rw [e]
        have := head_len n1
        omega
      · obtain ⟨r, hr', e⟩ := List.mem_map.mp e
        rw [← e]
        exact word_len (bd r hr').1 (bd r hr').2
    have lenW : ((h0 :: ws).map V.str).length = rs.length + 1 := by rw [List.length_map]; exact lall
    refine ⟨_, rfl, ⟨_, rfl⟩, _, _, rfl, rfl, rfl, two_ln (by omega), fun pw hpw => ?_⟩
    rw [esp]
    generalize hW : (h0 :: ws).map V.str = W at itm lenW ⊢
    have k_pw := upd_grow (o := .lst W) hpw
    have h_pw := upd_same (H := H) (a := pw) (o := .lst W)
    generalize upd H pw (.lst W) = H0 at k_pw h_pw ⊢
    have npw : pw ≠ p := fun e => by obtain ⟨o, z⟩ := hp.some; rw [← e, hpw] at z; cases z
    refine ⟨_, rfl, p, 10, c, rfl, hp.same k_pw, by omega, by decide, by decide, fun kd H1 d0 d1 k1 hp1 e1 => ?_⟩
    refine ⟨_, rfl, _, rfl, _, _, rfl, .inl ⟨_, SqL.of (k1 _ _ npw h_pw), rfl⟩, p, _, _, rfl, hp1, by omega, by omega, by omega, fun pl H2 p0 p1 k2 hp2 e2 => ⟨_, _, rfl, ?_⟩⟩
    have kA : But p H H2 := (But.of k_pw).trans (k1.trans k2)
    have hw2 := k2 _ _ npw (k1 _ _ npw h_pw)
    obtain ⟨k, rfl⟩ : ∃ k : Nat, pl = k := ⟨pl.toNat, by omega⟩
    have kl : k < W.length := by omega
    obtain ⟨wd, hwd, lwd⟩ := itm _ (List.getElem_mem kl)
    have e1k : ((k : Int) + 1) = ((k + 1 : Nat) : Int) := by omega
    refine ⟨_, rfl, _, rfl, ixAt hw2 (atI_nat (List.getElem?_eq_getElem kl)) ?_⟩
    rw [hwd]
    have LW := cutV_lens W k
    have LW1 := cutV_lens W (k + 1)
    refine ⟨_, rfl, _, rfl, _, rfl, pw, W, rfl, SqL.of hw2, fun ph hph => ?_⟩
    have ih : ItemsW 5 (cutV W none (some (k : Int))) := itm.cut _ _
    have it : ItemsW 5 (cutV W (some ((k + 1 : Nat) : Int)) none) := itm.cut _ _
    generalize hhs : cutV W none (some (k : Int)) = hs at ih LW ⊢
    have k_ph := upd_grow (o := .lst hs) hph
    have h_ph := upd_same (H := H2) (a := ph) (o := .lst hs)
    generalize upd H2 ph (.lst hs) = H3 at k_ph h_ph ⊢
    refine ⟨_, rfl, _, rfl, _, _, rfl, rfl, _, rfl, pw, W, rfl, SqL.of (k_ph _ _ hw2), fun pt hpt => ⟨_, _, _, rfl, ?_⟩⟩
    rw [e1k]
    generalize hts : cutV W (some ((k + 1 : Nat) : Int)) none = ts at it LW1 ⊢
    have k_pt := upd_grow (o := .lst ts) hpt
    have h_pt := upd_same (H := H3) (a := pt) (o := .lst ts)
    generalize upd H3 pt (.lst ts) = H4 at k_pt h_pt ⊢
    have hh4 := k_pt _ _ h_ph
    have hw4 := k_pt _ _ (k_ph _ _ hw2)
    have k24 := k_ph.trans k_pt
    have Ch := ih.cost
    have Ct := it.cost
    have lens : hs.length + ts.length + 1 ≤ 64 := by omega
    have fin : ∀ {H'} (z' : Str), Same H4 H' → z'.length ≤ 400 → Asc z' → Q (.str z') H' := fun {H'} z' k5 l az => q z' _ (kA.trans (But.of (k24.trans k5))) ((hp2.same (k24.trans k5)).up (by omega)) l az
    have join : ∀ {H'} {a : Addr} {xs : List V}, Same H4 H' → H' a = some (.lst xs) → Cost 400 xs → ∃ b p, ∃ ys : List Str, V.str (Str.ofString " ") = V.str b ∧ [V.ref a] = [V.ref p] ∧ (SqL K H' p (ys.map V.str) ∨ SqT K H' p (ys.map V.str)) ∧ (ys.map (·.length)).sum + ys.length * b.length ≤ 16777216 ∧ Q (.str (Txt.join b ys)) H' := fun {H' a xs} k5 ha ⟨ys, e, ya, l⟩ => by
      subst e
      refine ⟨_, a, ys, rfl, rfl, .inl (SqL.of ha), ?_, fin _ k5 (Nat.le_trans (join_le space_eq ys) l) (Asc.join (ascS_of (by decide +kernel)) ya)⟩
      have : (Str.ofString " ").length = 1 := rfl
      rw [this]
      omega
    refine ⟨_, rfl, _, _, rfl, rfl, _, rfl, iteB (fun c1 => ?_) fun c1 => ?_⟩
    · have c1 := of_decide_eq_true c1
      -- head + [word, word] + tail
      refine ⟨_, rfl, _, rfl, _, rfl, two_ln (by show 2 ≤ _; decide), fun pa hpa => ?_⟩
      have k_pa := upd_grow (o := .lst [.str wd, .str wd]) hpa
      have h_pa := upd_same (H := H4) (a := pa) (o := .lst [.str wd, .str wd])
      generalize upd H4 pa (.lst [.str wd, .str wd]) = H5 at k_pa h_pa ⊢
      refine ⟨ph, pa, _, _, rfl, rfl, k_pa _ _ hh4, h_pa, two_ln (by simp only [List.length_cons, List.length_nil]; omega), fun pb hpb => ?_⟩
      have k_pb := upd_grow (o := .lst (hs ++ [.str wd, .str wd])) hpb
      have h_pb := upd_same (H := H5) (a := pb) (o := .lst (hs ++ [.str wd, .str wd]))
      generalize upd H5 pb (.lst (hs ++ [.str wd, .str wd])) = H6 at k_pb h_pb ⊢
      have k46 := k_pa.trans k_pb
      refine ⟨_, rfl, pb, pt, _, _, rfl, rfl, h_pb, k46 _ _ h_pt, two_ln (by simp only [List.length_append, List.length_cons, List.length_nil]; omega), fun pc hpc => ?_⟩
      have k_pc := upd_grow (o := .lst (hs ++ [.str wd, .str wd] ++ ts)) hpc
      have h_pc := upd_same (H := H6) (a := pc) (o := .lst (hs ++ [.str wd, .str wd] ++ ts))
      generalize upd H6 pc (.lst (hs ++ [.str wd, .str wd] ++ ts)) = H7 at k_pc h_pc ⊢
      have k47 := k46.trans k_pc
      -- head + tail
      refine ⟨_, rfl, _, rfl, ph, pt, _, _, rfl, rfl, k47 _ _ hh4, k47 _ _ h_pt, two_ln (by omega), fun pd hpd => ?_⟩
      have k_pd := upd_grow (o := .lst (hs ++ ts)) hpd
      have h_pd := upd_same (H := H7) (a := pd) (o := .lst (hs ++ ts))
      generalize upd H7 pd (.lst (hs ++ ts)) = H8 at k_pd h_pd ⊢
      have k48 := k47.trans k_pd
      -- head + tail[:1] + [word] + tail[1:]
      refine ⟨_, rfl, _, rfl, _, rfl, pt, ts, rfl, SqL.of (k48 _ _ h_pt), fun pe hpe => ?_⟩
      have it1 : ItemsW 5 (cutV ts none (some ((1 : Nat) : Int))) := it.cut _ _
      have it2 : ItemsW 5 (cutV ts (some ((1 : Nat) : Int)) none) := it.cut _ _
      have LT := cutV_lens ts 1
      generalize ht1 : cutV ts none (some 1) = t1
      have ht1' : cutV ts none (some ((1 : Nat) : Int)) = t1 := ht1
      rw [ht1'] at it1 LT
      have k_pe := upd_grow (o := .lst t1) hpe
      have h_pe := upd_same (H := H8) (a := pe) (o := .lst t1)
      generalize upd H8 pe (.lst t1) = H9 at k_pe h_pe ⊢
      have k49 := k48.trans k_pe
      refine ⟨ph, pe, _, _, rfl, rfl, k49 _ _ hh4, h_pe, two_ln (by omega), fun pf hpf => ?_⟩
      have k_pf := upd_grow (o := .lst (hs ++ t1)) hpf
      have h_pf := upd_same (H := H9) (a := pf) (o := .lst (hs ++ t1))
      generalize upd H9 pf (.lst (hs ++ t1)) = H10 at k_pf h_pf ⊢
      refine ⟨_, rfl, two_ln (by show 1 ≤ _; decide), fun pg hpg => ?_⟩
      have k_pg := upd_grow (o := .lst [.str wd]) hpg
      have h_pg := upd_same (H := H10) (a := pg) (o := .lst [.str wd])
      generalize upd H10 pg (.lst [.str wd]) = H11 at k_pg h_pg ⊢
      refine ⟨pf, pg, _, _, rfl, rfl, k_pg _ _ h_pf, h_pg, two_ln (by simp only [List.length_append, List.length_cons, List.length_nil]; omega), fun pi hpi => ?_⟩
      have k_pi := upd_grow (o := .lst (hs ++ t1 ++ [.str wd])) hpi
      have h_pi := upd_same (H := H11) (a := pi) (o := .lst (hs ++ t1 ++ [.str wd]))
      generalize upd H11 pi (.lst (hs ++ t1 ++ [.str wd])) = H12 at k_pi h_pi ⊢
      have k4C := k49.trans (k_pf.trans (k_pg.trans k_pi))
      refine ⟨_, rfl, _, rfl, pt, ts, rfl, SqL.of (k4C _ _ h_pt), fun pj hpj => ?_⟩
      generalize ht2 : cutV ts (some 1) none = t2
      have ht2' : cutV ts (some ((1 : Nat) : Int)) none = t2 := ht2
      rw [ht2'] at it2 LT
      have k_pj := upd_grow (o := .lst t2) hpj
      have h_pj := upd_same (H := H12) (a := pj) (o := .lst t2)
      generalize upd H12 pj (.lst t2) = H13 at k_pj h_pj ⊢
      refine ⟨pi, pj, _, _, rfl, rfl, k_pj _ _ h_pi, h_pj, two_ln (by simp only [List.length_append, List.length_cons, List.length_nil]; omega), fun pk hpk => ?_⟩
      have k_pk := upd_grow (o := .lst (hs ++ t1 ++ [.str wd] ++ t2)) hpk
      have h_pk := upd_same (H := H13) (a := pk) (o := .lst (hs ++ t1 ++ [.str wd] ++ t2))
      generalize upd H13 pk (.lst (hs ++ t1 ++ [.str wd] ++ t2)) = H14 at k_pk h_pk ⊢
      have k4E := k4C.trans (k_pj.trans k_pk)
      -- head + tail + [word]
      refine ⟨_, rfl, _, rfl, ph, pt, _, _, rfl, rfl, k4E _ _ hh4, k4E _ _ h_pt, two_ln (by omega), fun pl hpl => ?_⟩
      have k_pl := upd_grow (o := .lst (hs ++ ts)) hpl
      have h_pl := upd_same (H := H14) (a := pl) (o := .lst (hs ++ ts))
      generalize upd H14 pl (.lst (hs ++ ts)) = H15 at k_pl h_pl ⊢
      refine ⟨_, rfl, two_ln (by show 1 ≤ _; decide), fun pm hpm => ?_⟩
      have k_pm := upd_grow (o := .lst [.str wd]) hpm
      have h_pm := upd_same (H := H15) (a := pm) (o := .lst [.str wd])
      generalize upd H15 pm (.lst [.str wd]) = H16 at k_pm h_pm ⊢
      refine ⟨pl, pm, _, _, rfl, rfl, k_pm _ _ h_pl, h_pm, two_ln (by simp only [List.length_append, List.length_cons, List.length_nil]; omega), fun pn hpn => ?_⟩
      have k_pn := upd_grow (o := .lst (hs ++ ts ++ [.str wd])) hpn
      have h_pn := upd_same (H := H16) (a := pn) (o := .lst (hs ++ ts ++ [.str wd]))
      generalize upd H16 pn (.lst (hs ++ ts ++ [.str wd])) = H17 at k_pn h_pn ⊢
      refine ⟨two_ln (by show 4 ≤ _; decide), fun pr hpr => ?_⟩
      have k_pr := upd_grow (o := .lst [.ref pc, .ref pd, .ref pk, .ref pn]) hpr
      have h_pr := upd_same (H := H17) (a := pr) (o := .lst [.ref pc, .ref pd, .ref pk, .ref pn])
      generalize upd H17 pr (.lst [.ref pc, .ref pd, .ref pk, .ref pn]) = H18 at k_pr h_pr ⊢
      have kE18 := k_pl.trans (k_pm.trans (k_pn.trans k_pr))
      have k4L := k4E.trans kE18
      have four : kd = 0 ∨ kd = 1 ∨ kd = 2 ∨ kd = 3 := by omega
      have kC18 : Same H7 H18 := k_pd.trans (k_pe.trans (k_pf.trans (k_pg.trans (k_pi.trans (k_pj.trans (k_pk.trans kE18))))))
      have kD18 : Same H8 H18 := k_pe.trans (k_pf.trans (k_pg.trans (k_pi.trans (k_pj.trans (k_pk.trans kE18)))))
      rcases four with rfl | rfl | rfl | rfl
      · exact ⟨⟨_, rfl⟩, _, rfl, _, rfl, ixAt h_pr (atI_nat (j := 0) rfl) (join k4L (kC18 _ _ h_pc) (((Ch.app ((Cost.one lwd).app (Cost.one lwd))).app Ct).up (by omega)))⟩
      · exact ⟨⟨_, rfl⟩, _, rfl, _, rfl, ixAt h_pr (atI_nat (j := 1) rfl) (join k4L (kD18 _ _ h_pd) ((Ch.app Ct).up (by omega)))⟩
      · exact ⟨⟨_, rfl⟩, _, rfl, _, rfl, ixAt h_pr (atI_nat (j := 2) rfl) (join k4L (kE18 _ _ h_pk) ((((Ch.app it1.cost).app (Cost.one lwd)).app it2.cost).up (by omega)))⟩
      · exact ⟨⟨_, rfl⟩, _, rfl, _, rfl, ixAt h_pr (atI_nat (j := 3) rfl) (join k4L (k_pr _ _ h_pn) (((Ch.app Ct).app (Cost.one lwd)).up (by omega)))⟩
    · refine ⟨_, rfl, _, _, rfl, rfl, _, rfl, iteB (fun c2 => ?_) fun c2 => ?_⟩
      · have c1 := of_decide_eq_false c1
        have c2 := of_decide_eq_true c2
        have few : ((Txt.split wd "-").map (·.length)).sum + (Txt.split wd "-").length ≤ 6 := split_few lwd.1
        refine ⟨⟨_, rfl⟩, _, rfl, ⟨_, rfl⟩, _, _, rfl, rfl, rfl, two_ln (by omega), fun px hpx => ?_⟩
        have k_px := upd_grow (o := .lst ((Txt.split wd "-").map V.str)) hpx
        have h_px := upd_same (H := H4) (a := px) (o := .lst ((Txt.split wd "-").map V.str))
        generalize upd H4 px (.lst ((Txt.split wd "-").map V.str)) = H5 at k_px h_px ⊢
        refine ⟨px, _, rfl, SqL.of h_px, fun py hpy => ?_⟩
        have k_py := upd_grow (o := .lst ((Txt.split wd "-").map V.str).reverse) hpy
        have h_py := upd_same (H := H5) (a := py) (o := .lst ((Txt.split wd "-").map V.str).reverse)
        generalize upd H5 py (.lst ((Txt.split wd "-").map V.str).reverse) = H6 at k_py h_py ⊢
        have k46 := k_px.trans k_py
        have rsum : ((Txt.split wd "-").reverse.map (·.length)).sum = ((Txt.split wd "-").map (·.length)).sum := by rw [List.map_reverse, List.sum_reverse]
        have rlen := List.length_reverse (as := Txt.split wd "-")
        have hpl : (Str.ofString "-").length = 1 := rfl
        refine ⟨_, py, (Txt.split wd "-").reverse, rfl, rfl, .inl (SqL.of (by rw [List.map_reverse]; exact h_py)), by rw [hpl]; omega, ?_⟩
        have ltu : (Txt.join "-" (Txt.split wd "-").reverse).length ≤ 6 := by
          have := join_le dash_eq (Txt.split wd "-").reverse
          omega
        have atu : Asc (Txt.join "-" (Txt.split wd "-").reverse) := Asc.join (ascS_of (by decide +kernel)) fun a ha => lwd.2.dashes a (List.mem_reverse.mp ha)
        generalize (Txt.join "-" (Txt.split wd "-").reverse) = tu at ltu atu ⊢
        have l0 : (Str.ofString "0").length = 1 := rfl
        have l1 : (Str.ofString "-0").length = 2 := rfl
        have l2 : (Str.ofString "-1").length = 2 := rfl
        have lr2 : (Txt.replace wd "-" "-0").length ≤ 17 := by
          have := repl_len wd "-" "-0"
          rw [l1] at this
          omega
        refine ⟨⟨_, rfl⟩, _, rfl, _, rfl, _, rfl, _, _, rfl, rfl, two_ln (by omega), _, rfl, _, rfl, by rw [l1]; omega, _, rfl, _, _, rfl, rfl, two_ln (by omega), two_ln (by show 4 ≤ _; decide), fun pr hpr => ?_⟩
        have k_pr := upd_grow (o := .lst [.str tu, .str ((Str.ofString "0") ++ wd), .str (Txt.replace wd "-" "-0"), .str (wd ++ (Str.ofString "-1"))]) hpr
        have h_pr := upd_same (H := H6) (a := pr) (o := .lst [.str tu, .str ((Str.ofString "0") ++ wd), .str (Txt.replace wd "-" "-0"), .str (wd ++ (Str.ofString "-1"))])
        generalize upd H6 pr (.lst [.str tu, .str ((Str.ofString "0") ++ wd), .str (Txt.replace wd "-" "-0"), .str (wd ++ (Str.ofString "-1"))]) = H7 at k_pr h_pr ⊢
        obtain ⟨j, j4, e4⟩ : ∃ j : Nat, j < 4 ∧ kd - 4 = (j : Int) := ⟨(kd - 4).toNat, by omega, by omega⟩
        obtain ⟨z', hz', lz'⟩ : ∃ z' : Str, ([.str tu, .str ((Str.ofString "0") ++ wd), .str (Txt.replace wd "-" "-0"), .str (wd ++ (Str.ofString "-1"))] : List V)[j]? = some (.str z') ∧ z'.length ≤ 17 ∧ Asc z' := by
          match j, j4 with
          | 0, _ => exact ⟨_, rfl, by omega, atu⟩
          | 1, _ => exact ⟨_, rfl, by rw [strLen_append]; omega, Asc.app (ascS_of (by decide +kernel)) lwd.2⟩
          | 2, _ => exact ⟨_, rfl, lr2, lwd.2.repl (ascS_of (by decide +kernel))⟩
          | 3, _ => exact ⟨_, rfl, by rw [strLen_append]; omega, lwd.2.app (ascS_of (by decide +kernel))⟩
        refine ⟨_, rfl, _, _, rfl, rfl, ?_⟩
        show rIx _ _ (V.int (kd - 4)) _ _
        rw [e4]
        refine ixAt h_pr (atI_nat hz') ⟨two_ln (by show 1 ≤ _; decide), fun pb hpb => ?_⟩
        have k_pb := upd_grow (o := .lst [.str z']) hpb
        have h_pb := upd_same (H := H7) (a := pb) (o := .lst [.str z'])
        generalize upd H7 pb (.lst [.str z']) = H8 at k_pb h_pb ⊢
        have k48 := k46.trans (k_pr.trans k_pb)
        refine ⟨ph, pb, _, _, rfl, rfl, k48 _ _ hh4, h_pb, two_ln (by simp only [List.length_cons, List.length_nil]; omega), fun pc hpc => ?_⟩
        have k_pc := upd_grow (o := .lst (hs ++ [.str z'])) hpc
        have h_pc := upd_same (H := H8) (a := pc) (o := .lst (hs ++ [.str z']))
        generalize upd H8 pc (.lst (hs ++ [.str z'])) = H9 at k_pc h_pc ⊢
        have k49 := k48.trans k_pc
        refine ⟨_, rfl, pc, pt, _, _, rfl, rfl, h_pc, k49 _ _ h_pt, two_ln (by simp only [List.length_append, List.length_cons, List.length_nil]; omega), fun pd hpd => ?_⟩
        have k_pd := upd_grow (o := .lst (hs ++ [.str z'] ++ ts)) hpd
        have h_pd := upd_same (H := H9) (a := pd) (o := .lst (hs ++ [.str z'] ++ ts))
        generalize upd H9 pd (.lst (hs ++ [.str z'] ++ ts)) = H10 at k_pd h_pd ⊢
        exact join (k49.trans k_pd) h_pd (((Ch.app (Cost.one lz')).app Ct).up (by omega))
      · have c2 := of_decide_eq_false c2
        refine ⟨two_ln (by show 9 ≤ _; decide), fun px hpx => ?_⟩
        have k_px := upd_grow (o := .lst [.str "0:", .str "65:", .str "1:", .str "64:", .str "2:", .str "9999999999999999999:", .str "00:", .str ":", .str "-1:"]) hpx
        have h_px := upd_same (H := H4) (a := px) (o := .lst [.str "0:", .str "65:", .str "1:", .str "64:", .str "2:", .str "9999999999999999999:", .str "00:", .str ":", .str "-1:"])
        generalize upd H4 px (.lst [.str "0:", .str "65:", .str "1:", .str "64:", .str "2:", .str "9999999999999999999:", .str "00:", .str ":", .str "-1:"]) = H5 at k_px h_px ⊢
        have hp5 := hp2.same (k24.trans k_px)
        refine ⟨_, rfl, p, 9, _, rfl, hp5, by omega, by decide, by decide, fun wi H6 w0 w1 k6 hp6 e6 => ?_⟩
        obtain ⟨j, rfl⟩ : ∃ j : Nat, wi = j := ⟨wi.toNat, by omega⟩
        obtain ⟨z', hz', lz'⟩ : ∃ z' : Str, ([.str "0:", .str "65:", .str "1:", .str "64:", .str "2:", .str "9999999999999999999:", .str "00:", .str ":", .str "-1:"] : List V)[j]? = some (.str z') ∧ z'.length ≤ 20 ∧ Asc z' := by
          have j4 : j < 9 := by omega
          match j, j4 with
          | 0, _ => exact ⟨_, rfl, by decide, ascS_of (by decide +kernel)⟩
          | 1, _ => exact ⟨_, rfl, by decide, ascS_of (by decide +kernel)⟩
          | 2, _ => exact ⟨_, rfl, by decide, ascS_of (by decide +kernel)⟩
          | 3, _ => exact ⟨_, rfl, by decide, ascS_of (by decide +kernel)⟩
          | 4, _ => exact ⟨_, rfl, by decide, ascS_of (by decide +kernel)⟩
          | 5, _ => exact ⟨_, rfl, by decide, ascS_of (by decide +kernel)⟩
          | 6, _ => exact ⟨_, rfl, by decide, ascS_of (by decide +kernel)⟩
          | 7, _ => exact ⟨_, rfl, by decide, ascS_of (by decide +kernel)⟩
          | 8, _ => exact ⟨_, rfl, by decide, ascS_of (by decide +kernel)⟩
        have npx : px ≠ p := fun e => by obtain ⟨o, z⟩ := (hp2.same k24).some; rw [← e, hpx] at z; cases z
        refine ixAt (k6 _ _ npx h_px) (atI_nat hz') ?_
        have npw' : pw ≠ p := npw
        have k46 : But p H4 H6 := (But.of k_px).trans k6
        have hw6 := k46 _ _ npw hw4
        have kB := kA.trans ((But.of k24).trans k46)
        have fin2 : ∀ {H'} (z' : Str), Same H6 H' → z'.length ≤ 400 → Asc z' → Q (.str z') H' := fun {H'} z' k5 l az => q z' _ (kB.trans (But.of k5)) ((hp6.same k5).up (by omega)) l az
        refine ⟨_, rfl, rfl, _, rfl, iteB (fun c3 => ?_) fun c3 => ?_⟩
        · refine ⟨⟨_, rfl⟩, _, rfl, two_ln (by show 1 ≤ _; decide), fun pa hpa => ?_⟩
          have k_pa := upd_grow (o := .lst [.str z']) hpa
          have h_pa := upd_same (H := H6) (a := pa) (o := .lst [.str z'])
          generalize upd H6 pa (.lst [.str z']) = H7 at k_pa h_pa ⊢
          refine ⟨_, rfl, _, rfl, pw, W, rfl, SqL.of (k_pa _ _ hw6), fun pb hpb => ?_⟩
          have i1 : ItemsW 5 (cutV W (some ((1 : Nat) : Int)) none) := itm.cut _ _
          have L1 := (cutV_lens W 1).2
          generalize hw1 : cutV W (some 1) none = w1
          have hw1' : cutV W (some ((1 : Nat) : Int)) none = w1 := hw1
          rw [hw1'] at i1 L1
          have k_pb := upd_grow (o := .lst w1) hpb
          have h_pb := upd_same (H := H7) (a := pb) (o := .lst w1)
          generalize upd H7 pb (.lst w1) = H8 at k_pb h_pb ⊢
          refine ⟨pa, pb, _, _, rfl, rfl, k_pb _ _ h_pa, h_pb, two_ln (by simp only [List.length_cons, List.length_nil]; omega), fun pc hpc => ?_⟩
          have k_pc := upd_grow (o := .lst ([.str z'] ++ w1)) hpc
          have h_pc := upd_same (H := H8) (a := pc) (o := .lst ([.str z'] ++ w1))
          generalize upd H8 pc (.lst ([.str z'] ++ w1)) = H9 at k_pc h_pc ⊢
          obtain ⟨ys, ey, ya, ly⟩ := ((Cost.one lz').app i1.cost).up (b := 400) (by omega)
          rw [ey] at h_pc
          have sp1 : (Str.ofString " ").length = 1 := rfl
          exact ⟨_, pc, ys, rfl, rfl, .inl (SqL.of h_pc), by rw [sp1]; omega, fin2 _ (k_pa.trans (k_pb.trans k_pc)) (Nat.le_trans (join_le space_eq ys) ly) (Asc.join (ascS_of (by decide +kernel)) ya)⟩
        · have a1 : (Str.ofString " ").length = 1 := rfl
          have a2 : (Str.ofString "\n").length = 1 := rfl
          have a3 : (Str.ofString "").length = 0 := rfl
          have lr2 : (Txt.replace (mkS (lineL n rs)) ":" "").length ≤ 400 := by
            have := repl_len (mkS (lineL n rs)) ":" ""
            rw [a3] at this
            omega
          refine ⟨_, rfl, _, _, rfl, rfl, two_ln (by omega), _, rfl, _, _, rfl, rfl, two_ln (by omega), _, rfl, _, rfl, by rw [a3]; omega, _, rfl, _, _, rfl, rfl, two_ln (by omega), _, rfl, _, _, rfl, rfl, two_ln (by omega), two_ln (by show 5 ≤ _; decide), fun pa hpa => ?_⟩
          have k_pa := upd_grow (o := .lst [.str ((Str.ofString " ") ++ mkS (lineL n rs)), .str ((Str.ofString "\n") ++ mkS (lineL n rs)), .str (Txt.replace (mkS (lineL n rs)) ":" ""), .str (mkS (lineL n rs) ++ (Str.ofString " ")), .str (mkS (lineL n rs) ++ (Str.ofString "\n"))]) hpa
          have h_pa := upd_same (H := H6) (a := pa) (o := .lst [.str ((Str.ofString " ") ++ mkS (lineL n rs)), .str ((Str.ofString "\n") ++ mkS (lineL n rs)), .str (Txt.replace (mkS (lineL n rs)) ":" ""), .str (mkS (lineL n rs) ++ (Str.ofString " ")), .str (mkS (lineL n rs) ++ (Str.ofString "\n"))])
          generalize upd H6 pa (.lst [.str ((Str.ofString " ") ++ mkS (lineL n rs)), .str ((Str.ofString "\n") ++ mkS (lineL n rs)), .str (Txt.replace (mkS (lineL n rs)) ":" ""), .str (mkS (lineL n rs) ++ (Str.ofString " ")), .str (mkS (lineL n rs) ++ (Str.ofString "\n"))]) = H7 at k_pa h_pa ⊢
          refine ⟨_, rfl, p, 5, _, rfl, hp6.same k_pa, by omega, by decide, by decide, fun wi H8 w0 w1 k8 hp8 e8 => ?_⟩
          obtain ⟨j, rfl⟩ : ∃ j : Nat, wi = j := ⟨wi.toNat, by omega⟩
          obtain ⟨z2, hz2, lz2⟩ : ∃ z2 : Str, ([.str ((Str.ofString " ") ++ mkS (lineL n rs)), .str ((Str.ofString "\n") ++ mkS (lineL n rs)), .str (Txt.replace (mkS (lineL n rs)) ":" ""), .str (mkS (lineL n rs) ++ (Str.ofString " ")), .str (mkS (lineL n rs) ++ (Str.ofString "\n"))] : List V)[j]? = some (.str z2) ∧ z2.length ≤ 400 ∧ Asc z2 := by
            have j4 : j < 5 := by omega
            match j, j4 with
            | 0, _ => exact ⟨_, rfl, by rw [strLen_append]; omega, Asc.app (ascS_of (by decide +kernel)) (asc_line n rs)⟩
            | 1, _ => exact ⟨_, rfl, by rw [strLen_append]; omega, Asc.app (ascS_of (by decide +kernel)) (asc_line n rs)⟩
            | 2, _ => exact ⟨_, rfl, lr2, (asc_line n rs).repl (ascS_of (by decide +kernel))⟩
            | 3, _ => exact ⟨_, rfl, by rw [strLen_append]; omega, (asc_line n rs).app (ascS_of (by decide +kernel))⟩
            | 4, _ => exact ⟨_, rfl, by rw [strLen_append]; omega, (asc_line n rs).app (ascS_of (by decide +kernel))⟩
          have npa : pa ≠ p := fun e => by obtain ⟨o, z⟩ := hp6.some; rw [← e, hpa] at z; cases z
          exact ixAt (k8 _ _ npa h_pa) (atI_nat hz2) (q z2 _ (kB.trans ((But.of k_pa).trans k8)) (hp8.up (by omega)) lz2.1 lz2.2)
end
end K03

namespace K03
open PySem PySem.Spec PyProof.Rows L2 Tn TL
abbrev sLOther : Stmt := top 33
theorem scLOther : FnScope ["box", "houses", "roads", "place", "u", "v"] ["box", "houses", "roads"] (defScope sLOther) := ⟨rfl, rfl, rfl, by decide +kernel, rfl, by decide +kernel, by decide +kernel⟩
def spOther : Sp := fun vs H Q _ => ∃ (p r : Addr) (n c : Nat) (rs : List Tm.Road), vs = [.ref p, .int n, .ref r] ∧ BoxAt H p c ∧ c + 5 < 1000 ∧ n ≤ 64 ∧ Rdd (del H p) (.ref r) (.list (rs.map rd)) ∧ Tm.RoadsOk n rs ∧
  ∀ v H' (ss : List Tm.Road), But p H H' → BoxAt H' p (c + 3) → Rdd (del H' p) v (.list (ss.map rd)) → (∀ q ∈ ss, q.1 < 64 ∧ q.2 < 64) → ss.length ≤ 64 → Q v H'
theorem len_cut {xs : List V} {lo hi : Option Int} : (cutV xs lo hi).length ≤ xs.length := by
  unfold cutV
  rw [List.length_take, List.length_drop]
  omega
theorem pairs_all {H : Hp} : ∀ {xs : List V}, (∀ x ∈ xs, ∃ t, ∃ a b : Nat, a < 64 ∧ b < 64 ∧ x = .ref t ∧ H t = some (.tup [.int a, .int b])) → ∃ ss : List Tm.Road, RddAll H xs (ss.map rd) ∧ (∀ q ∈ ss, q.1 < 64 ∧ q.2 < 64) ∧ ss.length = xs.length
  | [], _ => ⟨[], .nil, (fun _ h => nomatch h), rfl⟩
  | x :: xs, h => by
    obtain ⟨t, a, b, ha, hb, rfl, ht⟩ := h x List.mem_cons_self
    obtain ⟨ss, r, bd, l⟩ := pairs_all (xs := xs) fun y hy => h y (List.mem_cons_of_mem _ hy)
    refine ⟨(a, b) :: ss, .cons (.tup ht (.cons (.int _) (.cons (.int _) .nil))) r, fun q hq => ?_, by rw [List.length_cons, List.length_cons, l]⟩
    rcases List.mem_cons.mp hq with rfl | hq
    · exact ⟨ha, hb⟩
    · exact bd q hq
section
variable {P : Program} {w : World} {K : PySem.W.Frag} {mg : Str → Option Value} {base : Heap} {f : Addr} {fd : FuncData}
theorem ok_other (F : Fd K "_law_other_road" sLOther f fd) (g : mg "_law_other_road" = some (.ref f)) (B : Bl mg) (o_law_take : Ok P w K mg base CX0 1 "_law_take" sTake ["box", "many"] spDraw1) : Ok P w K mg base CX0 2 "_law_other_road" sLOther ["box", "houses", "roads"] spOther := by
  refine ⟨f, fd, g, F, F.bindsN fun _ _ _ _ _ _ us hl => match us, hl with | [_, _, _], _ => rfl, F.ok scLOther (fun vs H Q E h => ?_) (fun cdv A outer s H vs Q E hr h => ?_)⟩
  · obtain ⟨p, r, n, c, rs, rfl, _⟩ := h
    rfl
  · obtain ⟨p, r, n, c, rs, rfl, hp, hc, n1, hr0, rok, q⟩ := h
    refine ⟨_, (pss_cons (ps_par (i := 3) (j := 4) rfl scLOther.nd rfl rfl (by decide) rfl rfl (pa_cons (pe_o o_law_take (hr.mono (by decide)) (by rfl) (pa_cons (pv 0) (pa_cons (pe_callB (call_max2 rfl) (by rfl) (B.u "max" (by decide +kernel)) (by decide +kernel) (pa_cons pe_int (pa_cons (pe_callB call_len (by rfl) (B.u "len" (by decide +kernel)) boot_len (pa_cons (pv 2) pa_nil)) pa_nil))) pa_nil))) (pa_cons (pe_o o_law_take (hr.mono (by decide)) (by rfl) (pa_cons (pv 0) (pa_cons (pv 1) pa_nil))) pa_nil)) rfl)
      (pss_cons (ps_set (i := 5) scLOther.nd rfl (Or.inl rfl) (pe_op op_mod (pe_op op_add (pe_op op_add (pv 4) pe_int) (pe_o o_law_take (hr.mono (by decide)) (by rfl) (pa_cons (pv 0) (pa_cons (pe_callB (call_max2 rfl) (by rfl) (B.u "max" (by decide +kernel)) (by decide +kernel) (pa_cons pe_int (pa_cons (pe_op op_sub (pv 1) pe_int) pa_nil))) pa_nil)))) (pv 1)))
      (pss_one (ps_ret (pe_callB cr_sortedPO (by rfl) (B.u "sorted" (by decide +kernel)) (by decide +kernel) (pa_cons (pe_op op_cat (pe_op op_cat (pe_slice sl_list (pv 2) po_none (po_some (pv 3))) (pe_slice sl_list (pv 2) (po_some (pe_op op_add (pv 3) pe_int)) po_none)) (pe_lst (pa_cons (pe_tup (pa_cons (pe_callB (call_min2 rfl) (by rfl) (B.u "min" (by decide +kernel)) (by decide +kernel) (pa_cons (pv 4) (pa_cons (pv 5) pa_nil))) (pa_cons (pe_callB (call_max2 rfl) (by rfl) (B.u "max" (by decide +kernel)) (by decide +kernel) (pa_cons (pv 4) (pa_cons (pv 5) pa_nil))) pa_nil))) pa_nil))) pa_nil)))))), ?_⟩
    have lr := rok.len
    obtain ⟨xs, hxs, hix⟩ : ∃ xs, del H p r = some (.lst xs) ∧ RddAll (del H p) xs (rs.map rd) := by
      cases hr0 with
      | lst h1 ra => exact ⟨_, h1, ra⟩
    have lx := rdds_len hix
    rw [List.length_map] at lx
    have nrp : r ≠ p := fun e => by rw [e, del_same] at hxs; cases hxs
    have hxs0 := del_le _ _ hxs
    refine ⟨_, rfl, _, rfl, _, _, rfl, .inl ⟨_, SqL.of hxs0, rfl⟩, _, _, rfl, p, _, c, rfl, hp, by omega, by split <;> omega, by split <;> omega, fun pi H1 p0 p1 k1 hp1 e1 => ?_⟩
    refine ⟨_, rfl, _, rfl, p, n, _, rfl, hp1, by omega, by omega, by omega, fun ui H2 u0 u1 k2 hp2 e2 => ?_⟩
    obtain ⟨pn, rfl⟩ : ∃ pn : Nat, pi = pn := ⟨pi.toNat, by omega⟩
    obtain ⟨u, rfl⟩ : ∃ u : Nat, ui = u := ⟨ui.toNat, by omega⟩
    dsimp only [gName, tSeq, gNil, L2.start]
    refine ⟨_, _, rfl, ?_⟩
    refine ⟨_, rfl, _, _, rfl, rfl, _, rfl, _, rfl, _, _, rfl, rfl, _, _, rfl, p, _, _, rfl, hp2, by omega, by split <;> omega, by split <;> omega, fun di H3 d0 d1 k3 hp3 e3 => ⟨_, _, rfl, rfl, _, rfl, _, _, rfl, rfl, (by show (0 : Int) < (n : Int); omega), ?_⟩⟩
    have v0 : 0 ≤ ((u : Int) + 1 + di) % (n : Int) := Int.emod_nonneg _ (by omega)
    have v1 : ((u : Int) + 1 + di) % (n : Int) < n := Int.emod_lt_of_pos _ (by omega)
    obtain ⟨A, hA, eA⟩ : ∃ A : Nat, A < 64 ∧ (if ((u : Int) + 1 + di) % (n : Int) < u then ((u : Int) + 1 + di) % (n : Int) else (u : Int)) = A := ⟨(if ((u : Int) + 1 + di) % (n : Int) < u then ((u : Int) + 1 + di) % (n : Int) else (u : Int)).toNat, by split <;> omega, by split <;> omega⟩
    obtain ⟨B2, hB, eB⟩ : ∃ B2 : Nat, B2 < 64 ∧ (if ((u : Int) + 1 + di) % (n : Int) > u then ((u : Int) + 1 + di) % (n : Int) else (u : Int)) = B2 := ⟨(if ((u : Int) + 1 + di) % (n : Int) > u then ((u : Int) + 1 + di) % (n : Int) else (u : Int)).toNat, by split <;> omega, by split <;> omega⟩
    have k03 : But p H H3 := k1.trans (k2.trans k3)
    have hx3 := k03 _ _ nrp hxs0
    obtain ⟨ob, hob⟩ := hp3.some
    have fresh : ∀ {H' : Hp} {a : Addr}, Same H3 H' → H' a = none → a ≠ p := fun k e z => by
      rw [z, k _ _ hob] at e
      cases e
    refine ⟨_, rfl, _, rfl, _, rfl, r, xs, rfl, SqL.of hx3, fun ph hph => ⟨_, rfl, _, rfl, _, _, rfl, rfl, _, rfl, r, xs, rfl, SqL.of (upd_grow hph _ _ hx3), fun pt hpt => ?_⟩⟩
    have lc := len_cut (xs := xs) (lo := none) (hi := some (pn : Int))
    have lc2 := len_cut (xs := xs) (lo := some ((pn : Int) + 1)) (hi := none)
    refine ⟨ph, pt, _, _, rfl, rfl, upd_grow hpt _ _ upd_same, upd_same, two_ln (by omega), fun pc hpc => ?_⟩
    have ka := ((upd_grow (o := .lst (cutV xs none (some (pn : Int)))) hph).trans (upd_grow (o := .lst (cutV xs (some ((pn : Int) + 1)) none)) hpt)).trans (upd_grow (o := .lst (cutV xs none (some (pn : Int)) ++ cutV xs (some ((pn : Int) + 1)) none)) hpc)
    have hcc := upd_same (H := upd (upd H3 ph (.lst (cutV xs none (some (pn : Int))))) pt (.lst (cutV xs (some ((pn : Int) + 1)) none))) (a := pc) (o := .lst (cutV xs none (some (pn : Int)) ++ cutV xs (some ((pn : Int) + 1)) none))
    generalize upd (upd (upd H3 ph (.lst (cutV xs none (some (pn : Int))))) pt (.lst (cutV xs (some ((pn : Int) + 1)) none))) pc (.lst (cutV xs none (some (pn : Int)) ++ cutV xs (some ((pn : Int) + 1)) none)) = H4 at ka hcc
    have lcs : (cutV xs none (some (pn : Int)) ++ cutV xs (some ((pn : Int) + 1)) none).length ≤ 63 := by
      have z1 := (cutV_lens xs pn).1
      have z2 := (cutV_lens xs (pn + 1)).2
      rw [show ((pn : Int) + 1) = ((pn + 1 : Nat) : Int) by omega, List.length_append]
      omega
    have mcs : ∀ y ∈ cutV xs none (some (pn : Int)) ++ cutV xs (some ((pn : Int) + 1)) none, y ∈ xs := fun y hy => (List.mem_append.mp hy).elim mem_cut mem_cut
    generalize cutV xs none (some (pn : Int)) ++ cutV xs (some ((pn : Int) + 1)) none = cs at hcc lcs mcs
    refine ⟨_, rfl, _, rfl, _, _, rfl, _, rfl, _, rfl, _, _, rfl, two_ln (by show 2 ≤ _; decide), fun pz hpz => ⟨two_ln (by show 1 ≤ _; decide), fun po hpo => ?_⟩⟩
    rw [eA, eB] at hpo
    refine ⟨pc, po, cs, [.ref pz], rfl, rfl, upd_grow (by rw [eA, eB]; exact hpo) _ _ (upd_grow hpz _ _ hcc), upd_same, two_ln (by simp only [List.length_cons, List.length_nil]; omega), fun pd hpd => ?_⟩
    rw [eA, eB] at hpd ⊢
    have kb := (ka.trans (upd_grow (o := .tup [.int A, .int B2]) hpz)).trans (upd_grow (o := .lst [.ref pz]) hpo)
    have kc := kb.trans (upd_grow (o := .lst (cs ++ [.ref pz])) hpd)
    have hz : upd (upd (upd H4 pz (.tup [.int A, .int B2])) po (.lst [.ref pz])) pd (.lst (cs ++ [.ref pz])) pz = some (.tup [.int A, .int B2]) := upd_grow hpd _ _ (upd_grow hpo _ _ upd_same)
    have hd : upd (upd (upd H4 pz (.tup [.int A, .int B2])) po (.lst [.ref pz])) pd (.lst (cs ++ [.ref pz])) pd = some (.lst (cs ++ [.ref pz])) := upd_same
    have nzp := fresh ka hpz
    generalize upd (upd (upd H4 pz (.tup [.int A, .int B2])) po (.lst [.ref pz])) pd (.lst (cs ++ [.ref pz])) = H7 at kc hz hd
    have kall := k03.trans (But.of kc)
    have mem : ∀ x ∈ cs ++ [V.ref pz], ∃ t, ∃ a b : Nat, a < 64 ∧ b < 64 ∧ x = .ref t ∧ t ≠ p ∧ H7 t = some (.tup [.int a, .int b]) := fun x hx => by
      rcases List.mem_append.mp hx with hx | hx
      · obtain ⟨i, hi, e⟩ := List.mem_iff_getElem.mp (mcs x hx)
        obtain ⟨y, hy, ry⟩ := rdds_get hix (show (rs.map rd)[i]? = some (rd rs[i]) by rw [List.getElem?_map, List.getElem?_eq_getElem (by omega)]; rfl)
        rw [List.getElem?_eq_getElem hi, e] at hy
        obtain rfl := Option.some.inj hy
        have bi := rok.bnd _ (List.getElem_mem (show i < rs.length by omega))
        generalize rs[i] = ro at ry bi
        obtain ⟨a, b⟩ := ro
        unfold rd at ry
        cases ry with
        | @tup pt zs es ht r2 =>
          obtain ⟨y1, y2, rfl, r3, r4⟩ := rdds_two r2
          cases r3
          cases r4
          simp only at bi
          have npt : pt ≠ p := fun e => by rw [e, del_same] at ht; cases ht
          exact ⟨pt, a, b, by omega, by omega, rfl, npt, kall _ _ npt (del_le _ _ ht)⟩
      · rw [List.mem_singleton.mp hx]
        exact ⟨pz, A, B2, hA, hB, rfl, nzp, hz⟩
    let kf : V → Int × Int := fun x => match x with
      | .ref t => match H7 t with
        | some (.tup [.int a, .int b]) => (a, b)
        | _ => (0, 0)
      | _ => (0, 0)
    refine ⟨pd, cs ++ [.ref pz], kf, rfl, SqL.of hd, fun x hx => ?_, fun ys p' srt stb hp' => ?_⟩
    · obtain ⟨t, a, b, _, _, rfl, _, ht⟩ := mem x hx
      have e : kf (.ref t) = ((a : Int), (b : Int)) := by simp only [kf, ht]
      exact ⟨t, rfl, by rw [e]; exact ht⟩
    · have pm := stb.perm
      have ku := upd_grow (o := .lst ys) hp'
      obtain ⟨ss, ra, bd, ls⟩ := pairs_all (H := del (upd H7 p' (.lst ys)) p) (xs := ys) fun x hx => by
        obtain ⟨t, a, b, ha, hb, rfl, nt, ht⟩ := mem x (pm.mem_iff.mp hx)
        exact ⟨t, a, b, ha, hb, rfl, by rw [del_ne nt]; exact ku _ _ ht⟩
      exact q _ _ ss (kall.trans (But.of ku)) ((hp3.same (kc.trans ku)).up (by omega)) (.lst (by rw [del_ne (fresh kc hp')]; exact upd_same) ra) bd (by rw [ls, pm.length_eq]; simp only [List.length_append, List.length_cons, List.length_nil]; omega)
end
end K03

namespace K03
open PySem PySem.Spec PyProof.Rows L2 Tn TL
abbrev sAsked : Stmt := top 34
theorem scAsked : FnScope ["value", "by_name", "due", "tree", "e"] ["value", "by_name"] (defScope sAsked) := ⟨rfl, rfl, rfl, by decide +kernel, rfl, by decide +kernel, by decide +kernel⟩
/-- a class of errors as the clauses want it -/
structure ErrK (K : PySem.W.Frag) (mg : Str → Option Value) (x : Str) : Prop where
  g : mg x = some (.ref (He.ga K x))
  exm : PySem.W.exmOne K (.ref (He.ga K x)) (.ref (He.ga K x)) = some true
  X : XfC K (He.ga K x)
/-- a list grows; all else stays -/
def FinA (v : V) (d : PyData) (H : Hp) (Q : VK) : Prop := (tyd d ≠ "list" ∧ ∀ H', Same H H' → Q (.bl true) H') ∨
  ∃ (b : Addr) (xs : List V) (ds : List PyData), v = .ref b ∧ d = .list ds ∧ H b = some (.lst xs) ∧ RddAll (del H b) xs ds ∧ Tame (.list (ds ++ [.str "more"])) ∧ ∀ H', But b H H' → Q (.bl true) H'
theorem FinA.mono {v : V} {d : PyData} {H H' : Hp} {Q : VK} (h : FinA v d H Q) (k : Same H H') : FinA v d H' Q := by
  rcases h with ⟨n, q⟩ | ⟨b, xs, ds, e1, e2, hb, r, t, q⟩
  · exact .inl ⟨n, fun H2 k2 => q H2 (k.trans k2)⟩
  · exact .inr ⟨b, xs, ds, e1, e2, k _ _ hb, r.mono (del_mono k), t, fun H2 k2 => q H2 ((But.of k).trans k2)⟩
theorem FinA.end {v : V} {d : PyData} {H H' : Hp} {Q : VK} (h : FinA v d H Q) (k : Same H H') : Q (.bl true) H' := by
  rcases h with ⟨n, q⟩ | ⟨b, xs, ds, e1, e2, hb, r, t, q⟩
  · exact q H' k
  · exact q H' (But.of k)
theorem wt_len : ∀ ds : List PyData, 2 * ds.length ≤ wtAll ds
  | [] => Nat.zero_le _
  | d :: ds => by
    have z := wt_len ds
    simp only [wtAll, List.length_cons]
    omega
def TsA (K : PySem.W.Frag) (a : Addr) (cls : Value) (d : Option Addr) : TS := fun D σ H => ∃ (v : V) (dv : PyData) (bn : Bool) (dd : Addr), σ = [some v, some (.bl bn), some .non, none, some (.ref a)] ∧ cls = .ref (He.ga K "InvalidText") ∧ d = some dd ∧ H dd = some (.xd [("given", v)]) ∧
  Rdd H v dv ∧ Tame dv ∧ FinA v dv H D.rt
theorem rd_nc {n : Nat} {rs : List Tm.Road} (ok : Tm.RoadsOk n rs) (h : n ≤ 64) {d : PyData} (m : d ∈ rs.map rd) : Nc 1 300 d := by
  obtain ⟨⟨u, v⟩, hr, rfl⟩ := List.mem_map.mp m
  have := ok.bnd _ hr
  refine (nc_tup (k := 0) (m := 40) (l := 2) (fun e he => ?_) (Nat.le_refl _)).up
  simp only [List.mem_cons, List.not_mem_nil, or_false] at he
  rcases he with rfl | rfl
  · exact nc_nat (by simp only at this; omega)
  · exact nc_nat (by simp only at this; omega)
theorem takes_none2 {X : Cx} : L2.Takes X fun _ _ _ _ => False := fun _ _ ⟨_, _, _, _, _, _, _, _, _, _, _, _, _, _, _, _, w⟩ => w.elim
def spAsk : Sp := fun vs H Q _ => ∃ (v : V) (d : PyData) (bn : Bool), vs = [v, .bl bn] ∧ Rdd H v d ∧ Tame d ∧ (∀ s, d = .str s → s.length ≤ 640) ∧ FinA v d H Q
section
variable {P : Program} {w : World} {K : PySem.W.Frag} {mg : Str → Option Value} {base : Heap} {f : Addr} {fd : FuncData}
theorem ok_asked (F : Fd K "_law_asked_right" sAsked f fd) (g : mg "_law_asked_right" = some (.ref f)) (B : Bl mg) (Tk : KitK K) (C : TreeK K mg) (hsy : ∃ o, K.lookup sysModules = some o) (mL : Meth K (CT K) "line" (MT K "line"))
    (M : OkM P w K mg base CX0 1 "line" ["self"] (spTLine K)) (E1 : ErrK K mg "InvalidText") (n1 : PySem.W.findIn K (.ref (He.ga K "InvalidText")) "given" = some none)
    (o_law_read : Ok P w K mg base CX0 2 "_law_read" sLRead ["text"] spLRead) (o_read_tree : Ok P w K mg base (L2.CX P w) 6 "read_tree" sReadT ["text"] (spReadT K)) : OkG P w K mg base 7 "_law_asked_right" sAsked ["value", "by_name"] spAsk := by
  obtain ⟨fdL, bLn, oLn⟩ := M.ex
  refine ⟨f, fd, g, F, F.bindsN fun _ _ _ _ _ _ us hl => match us, hl with | [_, _], _ => rfl, F.okG scAsked (fun vs H Q E h => ?_) (fun cdv A outer s H vs Q hgd hr h => ?_)⟩
  · obtain ⟨v, d, bn, rfl, _⟩ := h
    rfl
  · have hu : (cxOf CX0 P w K mg base ["value", "by_name", "due", "tree", "e"] "_law_asked_right" (defScope sAsked) f cdv A outer s H noE).A.units + 64 < cLine := by
      have z := hr.un
      show (A.deeper _).units + 64 < cLine
      omega
    refine ⟨_, pss_cons (ps_set (i := 2) scAsked.nd rfl (Or.inl rfl) (pe_o o_law_read (hr.mono (by decide)) (by rfl) (pa_cons (pv 0) pa_nil)))
      (pss_cons (L2.ps_try_as (i := 4) (Wout := fun _ _ _ _ => False) (ts := TsA K) rfl rfl scAsked.nd rfl rfl ⟨by rfl, by decide, .inl E1.g⟩ takes_none2
        (fun W pn xe tk _ => (pss_one (ps_set (i := 3) scAsked.nd rfl (Or.inl rfl) (pe_ifExp (pt_val (pv 1)) (pe_oK0 o_read_tree (hr.mono (by decide)) (by rfl) (fun _ _ F => F.kbn0 0 ["text"] (fun us ws => us ++ ws) rel_app fun _ _ _ _ _ _ us ws l1 l2 => match us, ws, l1, l2 with | [], [_], _, _ => rfl) (fun σ => L2.passAt tk σ) (pk_cons (pv 0) pk_nil)) (pe_oS o_read_tree (hr.mono (by decide)) (by rfl) (fun σ => L2.passAt tk σ) (pa_cons (pv 0) pa_nil))))))
        (fun a oe cls d pn hz hv => ?_))
      (pss_cons (ps_if (pw_or (pt_cmpR op_isN (pv 2) pe_non (nomark _)) (pw_or1 (pt_not (pt_val (pe_callB call_isi (by rfl) (B.u "isinstance" (by decide +kernel)) boot_isinstance (pa_cons (pv 3) (pa_cons (pe_glob (by rfl) C.g (v := .ref (CT K)) rfl) pa_nil))))))).pt
          (pss_one (ps_ret pe_bl))
          pss_nil) (pss_one (ps_ret (pe_cmpR op_eq (pe_callB (call_repr hgd hu hsy) (by rfl) (B.u "repr" (by decide +kernel)) (by decide +kernel) (pa_cons (pe_lst (pa_cons (pe_fld (pv 3) rfl) (pa_cons (pe_fld (pv 3) rfl) (pa_cons (pe_meth0 (pv 3) C.cl mL oLn (hr.mono (by decide)) bLn .nil pass0) pa_nil)))) pa_nil)) (pe_callB (call_repr hgd hu hsy) (by rfl) (B.u "repr" (by decide +kernel)) (by decide +kernel) (pa_cons (pe_lst (pa_cons (pe_ix ix_seq (pv 2) pe_int fun _ _ => rfl) (pa_cons (pe_callTy call_tuple_of (by rfl) (B.u "tuple" (by decide +kernel)) (by decide +kernel) (pa_cons (pe_ix ix_seq (pv 2) pe_int fun _ _ => rfl) pa_nil)) (pa_cons (pv 0) pa_nil)))) pa_nil)) (nomark _)))))), ?_⟩
    · have hps : ∀ q ∈ [(a, oe)], q ∈ ((cxOf CX0 P w K mg base ["value", "by_name", "due", "tree", "e"] "_law_asked_right" (defScope sAsked) f cdv A outer s H noE).suite a ((a, oe) :: pn)).pn := fun q hq => by
        rw [List.mem_singleton.mp hq]
        exact List.mem_cons_self
      have hgd : ((cxOf CX0 P w K mg base ["value", "by_name", "due", "tree", "e"] "_law_asked_right" (defScope sAsked) f cdv A outer s H noE).suite a ((a, oe) :: pn)).A.guards = some [] := hgd
      have hu : ((cxOf CX0 P w K mg base ["value", "by_name", "due", "tree", "e"] "_law_asked_right" (defScope sAsked) f cdv A outer s H noE).suite a ((a, oe) :: pn)).A.units + 64 < cLine := hu
      refine pss_mono (pss_cons (ps_if (pt_val (pe_callB call_isi (by rfl) (B.u "isinstance" (by decide +kernel)) boot_isinstance (pa_cons (pv 0) (pa_cons (pe_bltn (by rfl) (B.u "list" (by decide +kernel)) (by decide +kernel) (v := .ty "list") rfl) pa_nil))))
          (pss_one (ps_expr (pe_bm PySem.F.plainAttrs_list PySem.F.slot_list_append PySem.F.type_list_append mt_append (pv 0) (pa_cons pe_str pa_nil))))
          pss_nil)
        (pss_one (ps_ret (pe_and (pe_cmpR op_isN (pv 2) pe_non (nomark _)) (pe_one (pe_cmpR op_eq (pe_callB (call_repr hgd hu hsy) (by rfl) (B.u "repr" (by decide +kernel)) (by decide +kernel) (pa_cons (pe_evF hps (pv 4)) pa_nil)) (pe_callB (call_repr hgd hu hsy) (by rfl) (B.u "repr" (by decide +kernel)) (by decide +kernel) (pa_cons (pv 0) pa_nil)) (nomark _))))))) fun D σ H1 h => ?_
      obtain ⟨v, dx, bn, dd, rfl, rfl, rfl, hdd, rx, tn, fin⟩ := h
      have ev : ∀ {H'}, H' dd = some (.xd [("given", v)]) → EvP [(a, oe)] H' a (He.ga K "InvalidText") dd [("given", v)] := fun e => ⟨.inr ⟨oe, List.mem_cons_self, hz.1, hz.2, hv⟩, .inr e⟩
      refine ⟨_, rfl, v, _, _, _, _, rfl, .ty _, rx.tx, Tk.tt _ (tyd_mem dx) "list" (by decide), _, rfl, iteB (fun e => ?_) fun e => ?_⟩
      · have e : tyd dx = "list" := by simpa using e
        rcases fin with ⟨z, _⟩ | ⟨b, xs, ds, rfl, rfl, hb, ra, tm, fin⟩
        · exact absurd e z
        · have lx : xs.length < 16777216 := by
            have h1 := rdds_len ra
            have h2 := wt_len ds
            have h3 := tn.w
            simp only [wt] at h3
            omega
          have nb : dd ≠ b := fun z => by rw [z, hb] at hdd; cases hdd
          have hd2 : upd H1 b (.lst (xs ++ [V.str "more"])) dd = some (.xd [("given", .ref b)]) := by rw [upd_ne nb]; exact hdd
          have rb : Rdd (upd H1 b (.lst (xs ++ [V.str "more"]))) (.ref b) (.list (ds ++ [.str "more"])) := .lst upd_same (rdds_app (ra.mono del_upd) (.cons (.str _) .nil))
          refine ⟨_, rfl, .inl ⟨rfl, _, SqL.of hb⟩, b, xs, _, rfl, rfl, hb, lt_ln lx, ?_⟩
          refine ⟨_, rfl, rfl, _, rfl, iteB (fun _ => ?_) fun z => by simp at z⟩
          refine ⟨_, rfl, a, _, dd, _, _, rfl, ev hd2, E1.X, n1, rfl, _, _, rfl, rb, tm.s, tm.h, tm.len, _, rfl, _, _, rfl, rb, tm.s, tm.h, tm.len, rfl, ?_⟩
          rw [decide_eq_true rfl]
          exact fin _ But.upd
      · refine ⟨_, rfl, rfl, _, rfl, iteB (fun _ => ?_) fun z => by simp at z⟩
        refine ⟨_, rfl, a, _, dd, _, _, rfl, ev hdd, E1.X, n1, rfl, _, _, rfl, rx, tn.s, tn.h, tn.len, _, rfl, _, _, rfl, rx, tn.s, tn.h, tn.len, rfl, ?_⟩
        rw [decide_eq_true rfl]
        exact fin.end (Same.refl _)
    · obtain ⟨v, d, bn, rfl, r0, tm, sl, fin⟩ := h
      refine tSeq_by (fun σ H' => (¬ IsLine d ∧ Same H H' ∧ σ = [some v, some (.bl bn), some .non, none, none]) ∨ ∃ s n rs q r, d = .str s ∧ Reads (tl s) n rs ∧ Same H H' ∧ H' q = some (.lst [.int (n : Nat), .ref r]) ∧ Rdd H' (.ref r) (.list (rs.map rd)) ∧ σ = [some v, some (.bl bn), some (.ref q), none, none]) ?_ fun rest => ?_
      · rintro σ H1 (⟨no, k1, rfl⟩ | ⟨s, n, rs, q, r, rfl, R, k1, hq, rr, rfl⟩)
        · have sp : ∀ {D : Ends} {R : VK}, D.rt = Q → spReadT K [v] H1 R (fun cls d H' => wAs K (.ref (He.ga K "InvalidText")) 4 (TsA K) (fun _ _ _ _ => False) D cls d [some v, some (.bl bn), some .non, none, none] H') := fun {D R} eD =>
            ⟨v, d, rfl, r0.mono k1, sl, fun _ dd H2 k2 h2 => ⟨true, E1.exm, fun _ a ha => ⟨v, d, bn, dd, rfl, rfl, rfl, h2, r0.mono (k1.trans k2), tm, by
              show FinA v d H2 D.rt
              rw [eD]
              exact fin.mono (k1.trans k2)⟩, fun z => nomatch z⟩, fun s n rs e R => absurd ⟨s, n, rs, e, R⟩ no⟩
          refine ⟨_, rfl, bn, rfl, ?_⟩
          cases bn with
          | true => exact iteT ⟨_, rfl, rfl, rfl, sp (by rfl)⟩
          | false =>
            refine iteF ⟨_, rfl, ?_⟩
            dsimp only [tNil]
            exact sp rfl
        · have az : s = mkS (lineL n rs) := ext_tl (by rw [tl_mkS]; exact R.eq)
          refine tSeq_by (fun σ H' => ∃ tr, Same H1 H' ∧ TreeAt K H' tr n rs ∧ σ = [some v, some (.bl bn), some (.ref q), some (.ref tr), none]) ?_ fun rest => ?_
          · rintro σ H2 ⟨tr, k2, T, rfl⟩
            obtain ⟨dx, rt, nt, g1, g2, g3⟩ := T.ex
            have t64 := T.le
            refine ⟨_, rfl, rfl, _, rfl, iteB (fun z => by simp at z) fun _ => ?_⟩
            refine ⟨_, rfl, _, _, _, _, true, rfl, .own _, .base (.ins g1 C.cl C.ha C.hn C.htk C.hm), C.self, true, rfl, iteF ?_⟩
            refine ⟨_, rfl, _, _, _, _, _, rfl, g1, C.cl, C.nh, rfl, _, rfl, _, _, _, _, _, rfl, g1, C.cl, C.nr, rfl, _, rfl, _, _, _, rfl, g1, rfl, tr, n, rs, rfl, T, fun H3 k3 => ⟨two_ln (by show 3 ≤ _; decide), fun pa hpa => ?_⟩⟩
            have ka := upd_grow (o := .lst [.int n, .ref rt, .str (mkS (lineL n rs))]) hpa
            have k13 := k2.trans (k3.trans ka)
            cases r0
            subst az
            have ll := sl _ rfl
            have nd : Nc 3 90000 (.list [.int n, .tuple (rs.map rd), .str (mkS (lineL n rs))]) := by
              have a2 : Nc 2 29000 (.tuple (rs.map rd)) := (nc_tup (k := 1) (m := 300) (l := 64) (fun d hd => rd_nc T.ok t64 hd) (by rw [List.length_map]; have := T.ok.len; omega)).up
              refine Nc.up (k := 3) (m := 3 * (29000 + 2) + 3) (nc_list (k := 2) (m := 29000) (l := 3) (fun e he => ?_) (Nat.le_refl _))
              simp only [List.mem_cons, List.not_mem_nil, or_false] at he
              rcases he with rfl | rfl | rfl
              · exact (nc_nat (by omega)).up
              · exact a2
              · exact ((asc_line n rs).tame ll).up
            have tn := nd.tame (by decide) (by decide)
            refine ⟨_, _, rfl, .lst upd_same (.cons (.int _) (.cons (g2.mono (k3.trans ka)) (.cons (.str _) .nil))), tn.s, tn.h, tn.len, _, rfl, ixAt (k13 _ _ hq) at0 ⟨_, rfl, ixAt (k13 _ _ hq) (atI_nat (j := 1) rfl) ?_⟩⟩
            cases rr with
            | @lst _ xs _ hr2 ra =>
              refine ⟨_, _, rfl, .inl ⟨SqL.of (k13 _ _ hr2), fun pt hpt => ⟨_, rfl, two_ln (by show 3 ≤ _; decide), fun pb hpb => ?_⟩⟩⟩
              have kt := upd_grow (o := .tup xs) hpt
              have kb := upd_grow (o := .lst [.int n, .ref pt, .str (mkS (lineL n rs))]) hpb
              refine ⟨_, _, rfl, .lst upd_same (.cons (.int _) (.cons (.tup (kb _ _ upd_same) (ra.mono (k13.trans (kt.trans kb)))) (.cons (.str _) .nil))), tn.s, tn.h, tn.len, rfl, ?_⟩
              rw [decide_eq_true rfl]
              exact fin.end (k1.trans (k13.trans (kt.trans kb)))
          · have sp : ∀ {D : Ends} {Z : VK}, (∀ tr H2, Same H1 H2 → TreeAt K H2 tr n rs → Z (.ref tr) H2) → spReadT K [v] H1 Z (fun cls d H' => wAs K (.ref (He.ga K "InvalidText")) 4 (TsA K) (fun _ _ _ _ => False) D cls d [some v, some (.bl bn), some (.ref q), none, none] H') := fun {D Z} hR =>
              ⟨v, _, rfl, r0.mono k1, sl, fun no => absurd ⟨s, n, rs, rfl, R⟩ no, fun s' n' rs' e R' t H2 ht k2 T => by
                cases e
                obtain ⟨rfl, rfl⟩ := R.inj R'
                exact hR t H2 k2 T⟩
            refine ⟨_, rfl, bn, rfl, ?_⟩
            cases bn with
            | true => exact iteT ⟨_, rfl, rfl, rfl, sp fun tr H2 k2 T => rest _ _ ⟨tr, k2, T, rfl⟩⟩
            | false =>
              refine iteF ⟨_, rfl, ?_⟩
              dsimp only [tNil]
              exact sp fun tr H2 k2 T => rest _ _ ⟨tr, k2, T, rfl⟩
      · refine ⟨_, rfl, v, d, rfl, r0, sl, fun no H1 k1 => rest _ _ (.inl ⟨no, k1, rfl⟩), fun s n rs e R q r H1 hq hr k1 g1 g2 ne => rest _ _ (.inr ⟨s, n, rs, q, r, e, R, k1, g1, g2, rfl⟩)⟩
end
end K03

namespace K03
open PySem PySem.Spec PyProof.Rows L2 Tn TL
abbrev sWorld : Stmt := top 35
theorem scWorld : FnScope ["box", "houses", "roads", "by_name", "text", "texts", "k", "one"] ["box", "houses", "roads"] (defScope sWorld) := ⟨rfl, rfl, rfl, by decide +kernel, rfl, by decide +kernel, by decide +kernel⟩
theorem isRoads_one {d : PyData} {rs qs : List Tm.Road} (h : isRoads d rs) (k : isRoads d qs) : rs = qs := by
  rcases h with rfl | rfl <;> rcases k with k | k <;> first | (cases k; done) | skip
  · exact rds_inj (PyData.list.inj k)
  · exact rds_inj (PyData.tuple.inj k)
/-- Tree(..) of right values -/
theorem made_ok {K : PySem.W.Frag} {H : Hp} {vh vr : V} {dr : PyData} {n : Nat} {rs : List Tm.Road} {E : XK} {W : Nat → List Tm.Road → Prop} (n1 : 1 ≤ n) (n2 : n ≤ 64) (ir : isRoads dr rs) (ok : Tm.RoadsOk n rs) (jo : Tm.Joined n rs) (k : W n rs) : Made K H vh vr (.int n) dr E W := by
  have one : ∀ {m : Nat}, PyData.int (n : Int) = .int m → m = n := fun e => by
    have := PyData.int.inj e
    omega
  refine ⟨fun no => absurd ⟨n, rfl, n1, n2⟩ no, fun m e h1 h2 no => ?_, fun m qs b hh e h1 h2 ir2 ok2 df hl hno _ => ?_, fun m qs e h1 h2 ir2 ok2 jo2 => ?_⟩
  · obtain rfl := one e
    exact absurd ⟨rs, ir, ok⟩ no
  · obtain rfl := one e
    obtain rfl := isRoads_one ir ir2
    obtain ⟨b2, df2, lb⟩ := jo
    obtain rfl := df.det df2
    have G := df.going .start
    have lt : ∀ h, ∀ x ∈ Tm.near rs h, x < m := fun h x hx => (Tm.near_lt ok.bnd hx).1
    exact absurd (Tm.all_keys G.g.nodup (G.g.bound h1 lt) (by simpa [Tm.keys] using lb) hh hl) hno
  · obtain rfl := one e
    obtain rfl := isRoads_one ir ir2
    exact k
theorem pass_noneL {X : Cx} (σ : L2.St) : PassesAt (L2.CX X.prog X.w) X σ fun _ _ _ => False := fun _ _ _ _ _ _ ⟨_, _, _, _, _, _, _, _, _, _, _, _, h⟩ => h.elim
theorem rds_tame {n : Nat} {rs : List Tm.Road} {dr : PyData} (n2 : n ≤ 64) (ir : isRoads dr rs) (ok : Tm.RoadsOk n rs) : Tame dr := by
  have l0 := ok.len
  rcases ir with rfl | rfl
  · exact (nc_list (k := 1) (m := 300) (l := 64) (fun d hd => rd_nc ok n2 hd) (by rw [List.length_map]; omega)).tame (by decide) (by decide)
  · exact (nc_tup (k := 1) (m := 300) (l := 64) (fun d hd => rd_nc ok n2 hd) (by rw [List.length_map]; omega)).tame (by decide) (by decide)
theorem init_ok {K : PySem.W.Frag} {H : Hp} {vs : List V} {x dx : Addr} {n : Nat} {rs : List Tm.Road} {xh : V} {dr : PyData} {Q2 : Hp → Prop} (hvs : vs = [.ref x, .int (n : Nat), xh]) (n1 : 1 ≤ n) (n2 : n ≤ 64) (ir : isRoads dr rs) (ok : Tm.RoadsOk n rs) (jo : Tm.Joined n rs) (rx : Rdd H xh dr)
    (hx : H x = none) (hdx : H dx = none) (ne : dx ≠ x) (k : ∀ H', Same H H' → TreeAt K H' x n rs → Q2 H') : spInit K vs (upd (upd H dx (.own x)) x (.ins (CT K) dx [])) (fun v H' => v = .non ∧ Q2 H') noE := by
  subst hvs
  have hx2 : upd H dx (.own x) x = none := by rw [upd_ne ne.symm]; exact hx
  have km : Same H (upd (upd H dx (.own x)) x (.ins (CT K) dx [])) := (upd_grow hdx).trans (upd_grow hx2)
  exact ⟨x, dx, .int (n : Nat), xh, .int (n : Nat), dr, rfl, upd_same, .int _, rx.mono km, rds_tame n2 ir ok, made_ok n1 n2 ir ok jo fun H7 k7 T7 => ⟨rfl, k H7 (fun b o e => k7 _ _ (ne_of_none e hx) (km _ _ e)) T7⟩⟩
/-- texts that may be asked -/
def Txts (xs : List V) : Prop := ∀ x ∈ xs, ∃ z : Str, x = .str z ∧ z.length ≤ 640 ∧ Asc z
theorem Txts.app {xs ys : List V} (h : Txts xs) (k : Txts ys) : Txts (xs ++ ys) := fun x hx => (List.mem_append.mp hx).elim (h x) (k x)
theorem Txts.of {xs : List V} (h : ∀ (i : Nat) (y : V), xs[i]? = some y → ∃ z : Str, y = .str z ∧ z.length ≤ 640 ∧ Asc z) : Txts xs := fun x hx => by
  obtain ⟨i, hi, e⟩ := List.mem_iff_getElem.mp hx
  exact h i x (by rw [List.getElem?_eq_getElem hi, e])
def spWorld : Sp := fun vs H Q _ => ∃ (p r : Addr) (n c : Nat) (rs : List Tm.Road), vs = [.ref p, .int n, .ref r] ∧ BoxAt H p c ∧ c + 60 < 1000 ∧ 1 ≤ n ∧ n ≤ 64 ∧ Rdd (del H p) (.ref r) (.list (rs.map rd)) ∧ Tm.RoadsOk n rs ∧ Tm.Joined n rs ∧
  ∀ H', But p H H' → BoxAt H' p (c + 50) → Q (.bl true) H'
section
variable {P : Program} {w : World} {K : PySem.W.Frag} {mg : Str → Option Value} {base : Heap} {f : Addr} {fd fdI : FuncData}
theorem ok_world (F : Fd K "_law_world_right" sWorld f fd) (g : mg "_law_world_right" = some (.ref f)) (B : Bl mg) (C : TreeK K mg) (FI : Md K "__init__" "Tree.__init__" sTInit (MT K "__init__") fdI)
    (oI : FnOk P w K mg base (L2N.CX P w) 3 (MT K "__init__") fdI ["self", "houses", "roads"] (spInit K)) (ME : OkM P w K mg base CX0 1 "__eq__" ["self", "other"] (spEq K)) (mL : Meth K (CT K) "line" (MT K "line")) (M : OkM P w K mg base CX0 1 "line" ["self"] (spTLine K))
    (o_law_take : Ok P w K mg base CX0 1 "_law_take" sTake ["box", "many"] spDraw1) (o_law_written : Ok P w K mg base CX0 1 "_law_written" sLWrit ["houses", "roads"] spLWrit) (o_read_tree : Ok P w K mg base (L2.CX P w) 6 "read_tree" sReadT ["text"] (spReadT K))
    (o_law_other_road : Ok P w K mg base CX0 2 "_law_other_road" sLOther ["box", "houses", "roads"] spOther) (o_law_spoilt_sign : Ok P w K mg base CX0 2 "_law_spoilt_sign" sLSpS ["box", "text"] spSpS) (o_law_spoilt_word : Ok P w K mg base CX0 2 "_law_spoilt_word" sLSpW ["box", "text"] spSpW)
    (o_law_asked_right : OkG P w K mg base 7 "_law_asked_right" sAsked ["value", "by_name"] spAsk) : OkG P w K mg base 8 "_law_world_right" sWorld ["box", "houses", "roads"] spWorld := by
  obtain ⟨fE, bE, oE⟩ := ME.ex
  obtain ⟨fdL, bLn, oLn⟩ := M.ex
  refine ⟨f, fd, g, F, F.bindsN fun _ _ _ _ _ _ us hl => match us, hl with | [_, _, _], _ => rfl, F.okG scWorld (fun vs H Q E h => ?_) (fun cdv A outer s H vs Q hgd hr h => ?_)⟩
  · obtain ⟨p, r, n, c, rs, rfl, _⟩ := h
    rfl
  · have hu : (cxOf CX0 P w K mg base ["box", "houses", "roads", "by_name", "text", "texts", "k", "one"] "_law_world_right" (defScope sWorld) f cdv A outer s H noE).A.units + 64 < cLine := by
      have z := hr.un
      show (A.deeper _).units + 64 < cLine
      omega
    refine ⟨_, (pss_cons (ps_set (i := 3) scWorld.nd rfl (Or.inr rfl) (pe_cmpR op_eq (pe_o o_law_take (hr.mono (by decide)) (by rfl) (pa_cons (pv 0) (pa_cons pe_int pa_nil))) pe_int (nomark _)))
      (pss_cons (ps_set (i := 4) scWorld.nd rfl (Or.inr rfl) (pe_o o_law_written (hr.mono (by decide)) (by rfl) (pa_cons (pv 1) (pa_cons (pv 2) pa_nil))))
      (pss_cons (ps_if (pw_or (pt_cmpR op_ne (pe_meth0 (pe_makeS (E := fun _ => noE) C.mkT oI (hr.mono (by decide)) (by rfl) C.g (FI.kbn0 3 [] (pick [0, 1, 2]) (pick_rel [0, 1, 2]) fun _ _ _ _ _ _ us ws l1 l2 => match us, ws, l1, l2 with | [_, _, _], [], _, _ => rfl) (fun σ => pass_noneN σ) (pa_cons (pv 1) (pa_cons (pe_callTy call_list_of (by rfl) (B.u "list" (by decide +kernel)) (by decide +kernel) (pa_cons (pv 2) pa_nil)) pa_nil))) C.cl mL oLn (hr.mono (by decide)) bLn .nil pass0) (pv 4) (nomark _)) (pw_or1 (pt_cmpR (op_neO oE bE pass0 (hr.mono (by decide)) C.eq C.eqf C.ne C.ob) (pe_oS (E := fun _ => noE) o_read_tree (hr.mono (by decide)) (by rfl) (fun σ => pass_noneL σ) (pa_cons (pv 4) pa_nil)) (pe_makeS (E := fun _ => noE) C.mkT oI (hr.mono (by decide)) (by rfl) C.g (FI.kbn0 3 [] (pick [0, 1, 2]) (pick_rel [0, 1, 2]) fun _ _ _ _ _ _ us ws l1 l2 => match us, ws, l1, l2 with | [_, _, _], [], _, _ => rfl) (fun σ => pass_noneN σ) (pa_cons (pv 1) (pa_cons (pe_callTy (r := rTupOf K) (by exact call_tuple_of) (by rfl) (B.u "tuple" (by decide +kernel)) (by decide +kernel) (pa_cons (pv 2) pa_nil)) pa_nil))) (nomark _)))).pt
        (pss_one (ps_ret pe_bl))
        pss_nil)
      (pss_cons (ps_setLc (i := 5) (own := [("k", 6)]) (g := gName 6) rfl scWorld.nd rfl rfl (sw_true rfl rfl rfl (by decide +kernel)) (pi_range1 (by rfl) (B.u "range" (by decide +kernel)) (pa_cons pe_int pa_nil)) (blkOk_by (N := ["box", "houses", "roads", "by_name", "text", "texts", "k", "one"]) (sc := defScope sWorld) (by decide +kernel)) (fun _ _ _ _ _ => (pg_name (i := 6) scWorld.nd rfl (Or.inl rfl))) (fun _ _ _ _ _ => pts_nil) (fun _ _ _ _ _ => (pe_o o_law_written (hr.mono (by decide)) (by rfl) (pa_cons (pv 1) (pa_cons (pe_o o_law_other_road (hr.mono (by decide)) (by rfl) (pa_cons (pv 0) (pa_cons (pv 1) (pa_cons (pv 2) pa_nil)))) pa_nil)))))
      (pss_cons (ps_set (i := 5) scWorld.nd rfl (Or.inl rfl) (pe_op op_cat (pe_op op_cat (pv 5) (pe_lc (own := [("k", 6)]) (g := gName 6) rfl scWorld.nd (pi_range1 (by rfl) (B.u "range" (by decide +kernel)) (pa_cons pe_int pa_nil)) (blkOk_by (N := ["box", "houses", "roads", "by_name", "text", "texts", "k", "one"]) (sc := defScope sWorld) (by decide +kernel)) (fun _ _ _ _ _ => (pg_name (i := 6) scWorld.nd rfl (Or.inl rfl))) (fun _ _ _ _ _ => pts_nil) (fun _ _ _ _ _ => (pe_o o_law_spoilt_sign (hr.mono (by decide)) (by rfl) (pa_cons (pv 0) (pa_cons (pv 4) pa_nil)))))) (pe_lc (own := [("k", 6)]) (g := gName 6) rfl scWorld.nd (pi_range1 (by rfl) (B.u "range" (by decide +kernel)) (pa_cons pe_int pa_nil)) (blkOk_by (N := ["box", "houses", "roads", "by_name", "text", "texts", "k", "one"]) (sc := defScope sWorld) (by decide +kernel)) (fun _ _ _ _ _ => (pg_name (i := 6) scWorld.nd rfl (Or.inl rfl))) (fun _ _ _ _ _ => pts_nil) (fun _ _ _ _ _ => (pe_o o_law_spoilt_word (hr.mono (by decide)) (by rfl) (pa_cons (pv 0) (pa_cons (pv 4) pa_nil)))))))
      (pss_cons (ps_set (i := 5) scWorld.nd rfl (Or.inl rfl) (pe_op op_cat (pv 5) (pe_lst (pa_cons (pe_o o_law_spoilt_sign (hr.mono (by decide)) (by rfl) (pa_cons (pv 0) (pa_cons (pe_o o_law_spoilt_word (hr.mono (by decide)) (by rfl) (pa_cons (pv 0) (pa_cons (pv 4) pa_nil))) pa_nil))) (pa_cons (pe_o o_law_written (hr.mono (by decide)) (by rfl) (pa_cons (pe_op op_add (pv 1) pe_int) (pa_cons (pv 2) pa_nil))) (pa_cons (pv 4) pa_nil))))))
      (pss_one (ps_ret (pe_cmpR (op_eqNil hu) (pe_lc (own := [("one", 7)]) (g := gName 7) rfl scWorld.nd (pi_list (pv 5)) (blkOk_by (N := ["box", "houses", "roads", "by_name", "text", "texts", "k", "one"]) (sc := defScope sWorld) (by decide +kernel)) (fun _ _ _ _ _ => (pg_name (i := 7) scWorld.nd rfl (Or.inl rfl))) (fun _ _ _ _ _ => (pts_one (pt_not (pt_val (pe_oG o_law_asked_right hgd (hr.mono (by decide)) (by rfl) (pa_cons (pv 7) (pa_cons (pv 3) pa_nil))))))) (fun _ _ _ _ _ => (pv 7))) (pe_lst pa_nil) (nomark _)))))))))), ?_⟩
    obtain ⟨p, r, n, c, rs, rfl, hp, hc, n1, n2, hr0, ok, jo, q⟩ := h
    obtain ⟨ob, hob⟩ := hp.some
    have l0 := ok.len
    have b100 : ∀ q ∈ rs, q.1 < 100 ∧ q.2 < 100 := fun x hx => by have := ok.bnd x hx; omega
    have lt : (mkS (lineL n rs)).length ≤ 381 := by
      rw [len_tl, tl_mkS]
      have := line_len (n := n) (by omega) b100
      omega
    have nrp : r ≠ p := fun e => by
      cases hr0 with
      | lst h1 ra => rw [e, del_same] at h1; cases h1
    refine ⟨_, rfl, p, 2, c, rfl, hp, by omega, by decide, by decide, fun bi H1 b0 b1 k1 hp1 e1 => ⟨rfl, ?_⟩⟩
    generalize decide (V.int bi = V.int 1) = bn
    dsimp only [gName, L2.start]
    have r1 := hr0.mono (but_del k1)
    refine ⟨_, rfl, _, rfl, n, r, rs, rfl, by omega, r1.mono del_le, b100, by omega, fun H2 k2 => ?_⟩
    have r2 := r1.mono (del_mono k2)
    have hp2 := hp1.same k2
    have k02 : But p H H2 := k1.trans (But.of k2)
    dsimp only [gName]
    refine tSeq_by (fun σ H' => But p H H' ∧ BoxAt H' p (c + 1) ∧ σ = [some (.ref p), some (.int n), some (.ref r), some (.bl bn), some (.str (mkS (lineL n rs))), none, none, none]) ?_ fun rest => ?_
    · rintro σ H3 ⟨k3, hp3, rfl⟩
      obtain ⟨ob3, hob3⟩ := hp3.some
      have r3 : ∀ {H'}, But p H H' → Rdd (del H' p) (.ref r) (.list (rs.map rd)) := fun k => hr0.mono (but_del k)
      have at_ : ∀ {H'}, But p H H' → Rdd H' (.ref r) (.list (rs.map rd)) := fun k => (r3 k).mono del_le
      refine tSeq_by (fun σ H' => ∃ (l : Addr) (ts : List V), But p H H' ∧ BoxAt H' p (c + 7) ∧ l ≠ p ∧ H' l = some (.lst ts) ∧ Txts ts ∧ ts.length ≤ 2 ∧ σ = [some (.ref p), some (.int n), some (.ref r), some (.bl bn), some (.str (mkS (lineL n rs))), some (.ref l), none, none]) ?_ fun rest => ?_
      · rintro σ H4 ⟨l, ts, k4, hp4, nl, hl, tx, ltx, rfl⟩
        obtain ⟨ob4, hob4⟩ := hp4.some
        refine tSeq_by (fun σ H' => ∃ (l : Addr) (ts : List V), But p H H' ∧ BoxAt H' p (c + 32) ∧ l ≠ p ∧ H' l = some (.lst ts) ∧ Txts ts ∧ ts.length ≤ 9 ∧ σ = [some (.ref p), some (.int n), some (.ref r), some (.bl bn), some (.str (mkS (lineL n rs))), some (.ref l), none, none]) ?_ fun rest => ?_
        · rintro σ H5 ⟨l, ts, k5, hp5, nl, hl, tx, ltx, rfl⟩
          refine tSeq_by (fun σ H' => ∃ (l : Addr) (ts : List V), But p H H' ∧ BoxAt H' p (c + 39) ∧ l ≠ p ∧ H' l = some (.lst ts) ∧ Txts ts ∧ ts.length ≤ 12 ∧ σ = [some (.ref p), some (.int n), some (.ref r), some (.bl bn), some (.str (mkS (lineL n rs))), some (.ref l), none, none]) ?_ fun rest => ?_
          · rintro σ H6 ⟨l, ts, k6, hp6, nl, hl, tx, ltx, rfl⟩
            refine ⟨_, rfl, l, rfl, ⟨_, SqL.of hl⟩, fun D hD => ?_⟩
            refine lc_genL walk_list (fun _ => false) (fun _ _ _ => True) (fun _ _ _ _ _ h => h) hD (by omega) (fun H' k => SqL.of (del_sub k _ _ hl)) ?_ ?_
            · rintro i x H7 H8 K1 N1 hi k7 ⟨zs, hzs⟩ ⟨rfl, hx⟩ _ hN
              obtain ⟨z, rfl, lz, az⟩ := tx x (List.mem_of_getElem? hx)
              exact ⟨rfl, _, rfl, _, rfl, .str z, .str z, bn, rfl, .str _, (az.tame lz).tame (by decide) (by decide), (fun s e => by cases e; exact lz), .inl ⟨by simp [tyd], fun H9 k9 => ⟨_, rfl, iteF (hN rfl _ k9)⟩⟩⟩
            · intro ys H7 k7 h7 l7 _
              have ey : ys = [] := by
                rw [List.filter_eq_nil_iff.mpr (by simp)] at l7
                exact List.length_eq_zero_iff.mp l7
              subst ey
              refine ⟨two_ln (by show 0 ≤ _; decide), fun pe hpe => ⟨D, pe, [], rfl, rfl, SqL.of (upd_grow hpe _ _ h7), SqL.of upd_same, ?_⟩⟩
              have kk := (del_sub k7).trans (upd_grow (o := .lst []) hpe)
              exact q _ (k6.trans (But.of kk)) ((hp6.same kk).up (by omega))
          · refine ⟨_, rfl, _, rfl, _, rfl, _, rfl, p, n, _, rs, rfl, hp5, by omega, by omega, b100, by omega, fun z1 H6 k6 hp6 lz1 az1 => ?_⟩
            refine ⟨p, z1, _, rfl, hp6, by omega, by omega, az1, fun z2 H7 k7 hp7 lz2 az2 => ?_⟩
            have k57 := k6.trans k7
            have kH7 := k5.trans k57
            refine ⟨_, rfl, _, _, rfl, rfl, _, rfl, n + 1, r, rs, rfl, by omega, at_ kH7, b100, by omega, fun H8 k8 => ?_⟩
            obtain ⟨ob7, hob7⟩ := hp7.some
            have lw : (mkS (lineL (n + 1) rs)).length ≤ 640 := by
              rw [len_tl, tl_mkS]
              have := line_len (n := n + 1) (by omega) b100
              omega
            refine ⟨_, rfl, two_ln (by show 3 ≤ _; decide), fun pl hpl => ?_⟩
            have k_pl := upd_grow (o := .lst [.str z2, .str (mkS (lineL (n + 1) rs)), .str (mkS (lineL n rs))]) hpl
            have h_pl := upd_same (H := H8) (a := pl) (o := .lst [.str z2, .str (mkS (lineL (n + 1) rs)), .str (mkS (lineL n rs))])
            generalize upd H8 pl (.lst [.str z2, .str (mkS (lineL (n + 1) rs)), .str (mkS (lineL n rs))]) = H9 at k_pl h_pl ⊢
            have k89 := k8.trans k_pl
            refine ⟨l, pl, ts, _, rfl, rfl, k89 _ _ (k57 _ _ nl hl), h_pl, two_ln (by simp only [List.length_cons, List.length_nil]; omega), fun pd hpd => ?_⟩
            have k_pd := upd_grow (o := .lst (ts ++ [.str z2, .str (mkS (lineL (n + 1) rs)), .str (mkS (lineL n rs))])) hpd
            have h_pd := upd_same (H := H9) (a := pd) (o := .lst (ts ++ [.str z2, .str (mkS (lineL (n + 1) rs)), .str (mkS (lineL n rs))]))
            generalize upd H9 pd (.lst (ts ++ [.str z2, .str (mkS (lineL (n + 1) rs)), .str (mkS (lineL n rs))])) = HA at k_pd h_pd ⊢
            have k7A := k89.trans k_pd
            refine rest _ _ ⟨pd, _, kH7.trans (But.of k7A), (hp7.same k7A).up (by omega), (ne_of_none (k89 _ _ hob7) hpd).symm, h_pd, tx.app fun x hx => ?_, by simp only [List.length_append, List.length_cons, List.length_nil]; omega, rfl⟩
            simp only [List.mem_cons, List.not_mem_nil, or_false] at hx
            rcases hx with rfl | rfl | rfl
            · exact ⟨_, rfl, by omega, az2⟩
            · exact ⟨_, rfl, lw, asc_line _ _⟩
            · exact ⟨_, rfl, by omega, asc_line _ _⟩
        · refine ⟨_, rfl, _, rfl, by decide, by decide, fun D hD => ?_⟩
          have nDp : D ≠ p := (ne_of_none hob4 hD).symm
          refine lc_genB (p := p) (walk_range (lo := 0) (n := 3)) (fun i H' => BoxAt H' p (c + 7 + 3 * i)) (fun i y H' => ∃ z : Str, y = .str z ∧ z.length ≤ 640 ∧ Asc z) (fun _ _ _ _ _ h => h) (fun i H1 H2 e h => h.eq e.symm) hob4 hp4 hD (by decide) (fun _ _ => True.intro) ?_ ?_
          · rintro i x H5 H6 K1 N1 hi k5 ⟨o, ho⟩ s5 ⟨rfl, hx⟩ hK
            have hi : i < 3 := hi
            exact ⟨rfl, _, rfl, _, rfl, p, _, _, rfl, s5, by omega, by omega, asc_line _ _, fun z' H7 k7 hp7 lz az => hK _ _ k7 (hp7.up (by omega)) ⟨z', rfl, by omega, az⟩⟩
          · intro ys H5 k5 s5 h5 l5 r5
            have k45 := but_of k5
            have kH5 := k4.trans k45
            have hl5 := k45 _ _ nl hl
            obtain ⟨ob5, hob5⟩ := s5.some
            refine ⟨l, D, ts, ys, rfl, rfl, hl5, h5, two_ln (by omega), fun pc hpc => ?_⟩
            have k_pc := upd_grow (o := .lst (ts ++ ys)) hpc
            have h_pc := upd_same (H := H5) (a := pc) (o := .lst (ts ++ ys))
            generalize upd H5 pc (.lst (ts ++ ys)) = H6 at k_pc h_pc ⊢
            have npc : pc ≠ p := (ne_of_none hob5 hpc).symm
            have hob6 := k_pc _ _ hob5
            refine ⟨_, rfl, by decide, by decide, fun D2 hD2 => ?_⟩
            have nD2p : D2 ≠ p := (ne_of_none hob6 hD2).symm
            refine lc_genB (p := p) (walk_range (lo := 0) (n := 4)) (fun i H' => BoxAt H' p (c + 16 + 4 * i)) (fun i y H' => ∃ z : Str, y = .str z ∧ z.length ≤ 640 ∧ Asc z) (fun _ _ _ _ _ h => h) (fun i H1 H2 e h => h.eq e.symm) hob6 ((s5.same k_pc).up (by omega)) hD2 (by decide) (fun _ _ => True.intro) ?_ ?_
            · rintro i x H7 H8 K1 N1 hi k7 ⟨o, ho⟩ s7 ⟨rfl, hx⟩ hK
              have hi : i < 4 := hi
              exact ⟨rfl, _, rfl, _, rfl, p, n, _, rs, rfl, s7, by omega, by omega, b100, by omega, fun z' H9 k9 hp9 lz az => hK _ _ k9 (hp9.up (by omega)) ⟨z', rfl, by omega, az⟩⟩
            · intro zs H7 k7 s7 h7 l7 r7
              have k67 := but_of k7
              refine ⟨pc, D2, _, zs, rfl, rfl, k67 _ _ npc h_pc, h7, two_ln (by rw [List.length_append]; omega), fun pd hpd => ?_⟩
              obtain ⟨ob7, hob7⟩ := s7.some
              have k_pd := upd_grow (o := .lst (ts ++ ys ++ zs)) hpd
              have h_pd := upd_same (H := H7) (a := pd) (o := .lst (ts ++ ys ++ zs))
              generalize upd H7 pd (.lst (ts ++ ys ++ zs)) = H8 at k_pd h_pd ⊢
              exact rest _ _ ⟨pd, _, kH5.trans ((But.of k_pc).trans (k67.trans (But.of k_pd))), (s7.same k_pd).up (by omega), (ne_of_none hob7 hpd).symm, h_pd, (tx.app (Txts.of r5)).app (Txts.of r7), by rw [List.length_append, List.length_append]; omega, rfl⟩
      · refine ⟨_, rfl, by decide, by decide, fun D hD => ?_⟩
        have nDp : D ≠ p := (ne_of_none hob3 hD).symm
        refine lc_genB (p := p) (walk_range (lo := 0) (n := 2)) (fun i H' => BoxAt H' p (c + 1 + 3 * i)) (fun i y H' => ∃ z : Str, y = .str z ∧ z.length ≤ 640 ∧ Asc z) (fun _ _ _ _ _ h => h) (fun i H1 H2 e h => h.eq e.symm) hob3 hp3 hD (by decide) (fun _ _ => True.intro) ?_ ?_
        · rintro i x H4 H5 K1 N1 hi k4 ⟨o, ho⟩ s4 ⟨rfl, hx⟩ hK
          have hi : i < 2 := hi
          have kk := k3.trans (but_of k4)
          refine ⟨rfl, _, rfl, _, rfl, _, rfl, _, rfl, p, r, n, _, rs, rfl, s4, by omega, n2, r3 kk, ok, fun v H6 ss k6 hp6 rr bd ls => ?_⟩
          cases rr with
          | @lst a xs _ h1 ra =>
            refine ⟨n, a, ss, rfl, by omega, .lst (del_le _ _ h1) (ra.mono del_le), fun q hq => by have := bd q hq; omega, by omega, fun H7 k7 => hK _ _ (k6.trans (But.of k7)) ((hp6.same k7).up (by omega)) ⟨_, rfl, ?_, asc_line _ _⟩⟩
            rw [len_tl, tl_mkS]
            have := line_len (n := n) (rs := ss) (by omega) fun q hq => by have := bd q hq; omega
            omega
        · intro ys H4 k4 s4 h4 l4 r4
          exact rest _ _ ⟨D, ys, k3.trans (but_of k4), s4, nDp, h4, Txts.of r4, by omega, rfl⟩
    · obtain ⟨xs, hxs, hix⟩ : ∃ xs, H2 r = some (.lst xs) ∧ RddAll H2 xs (rs.map rd) := by
        cases r2.mono del_le with
        | lst h1 ra => exact ⟨_, h1, ra⟩
      have lx := rdds_len hix
      rw [List.length_map] at lx
      have R : Tn.Reads (tl (mkS (lineL n rs))) n rs := ⟨tl_mkS _, n1, n2, ok, jo⟩
      refine ⟨_, rfl, _, rfl, r, xs, rfl, .inl (SqL.of hxs), fun tp htp => ?_⟩
      have ku := upd_grow (o := .lst xs) htp
      refine ⟨rfl, rfl, fun a dx ha hdx ne => ?_⟩
      dsimp only [tNil]
      refine init_ok (by rfl) n1 n2 (.inl rfl) ok jo (.lst upd_same (hix.mono ku)) ha hdx ne fun H3 k3 T => ?_
      obtain ⟨dx2, rt, nt, g1, g2, g3⟩ := T.ex
      refine ⟨a, dx2, _, rfl, g1, rfl, a, n, rs, rfl, T, fun H4 k4 => ?_⟩
      refine ⟨_, rfl, rfl, _, rfl, iteB (fun z => by simp at z) fun _ => ?_⟩
      have k24 := ku.trans (k3.trans k4)
      refine ⟨_, rfl, _, _, rfl, .str _, (fun s e => by cases e; omega), (fun no => absurd ⟨_, n, rs, rfl, R⟩ no), fun s n' rs' e R' t H5 ht k5 T5 => ?_⟩
      cases e
      obtain ⟨rfl, rfl⟩ := R.inj R'
      have k25 := k24.trans k5
      refine ⟨_, rfl, _, rfl, r, xs, rfl, .inl ⟨SqL.of (k25 _ _ hxs), fun tq htq => ?_⟩⟩
      have kq := upd_grow (o := .tup xs) htq
      refine ⟨rfl, rfl, fun a2 dx3 ha2 hdx3 ne2 => ?_⟩
      dsimp only [tNil]
      refine init_ok (by rfl) n1 n2 (.inr rfl) ok jo (.tup upd_same (hix.mono (k25.trans kq))) ha2 hdx3 ne2 fun H6 k6 T6 => ?_
      have k26 := k25.trans (kq.trans k6)
      have T5' := T5.mono (kq.trans k6)
      obtain ⟨dx5, rt5, nt5, g5, _, _⟩ := T5'.ex
      obtain ⟨dx6, rt6, nt6, g6, _, _⟩ := T6.ex
      refine ⟨t, dx5, _, rfl, g5, .inr ⟨a2, dx6, _, rfl, g6⟩, t, n, rs, .ref a2, some (n, rs), rfl, T5', ⟨a2, rfl, T6⟩, _, rfl, ?_⟩
      rw [decide_eq_true rfl]
      refine ⟨_, rfl, iteF ?_⟩
      exact rest _ _ ⟨k02.trans (But.of k26), hp2.same k26, rfl⟩
end
end K03

/-! new values, told as data, that do not reach the draws' box at p -/
namespace L2
open PySem PySem.Spec PyProof.Rows
theorem fresh_of {H H' : Hp} {a : Addr} (k : Same H H') (h : H' a = none) : H a = none := by
  cases e : H a with
  | none => rfl
  | some o => rw [k _ _ e] at h; cases h
def tG (S : St → Prop) (p : Addr) (d : PyData) : TE := fun σ H Q => S σ ∧ (∃ o, H p = some o) ∧ ∀ v H', Same H H' → Rdd (del H' p) v d → (∀ a, v = .ref a → H a = none) → Q v H'
def tGs (S : St → Prop) (p : Addr) (ds : List PyData) : TA := fun σ H Q => S σ ∧ (∃ o, H p = some o) ∧ ∀ vs H', Same H H' → RddAll (del H' p) vs ds → (∀ a, V.ref a ∈ vs → H a = none) → Q vs H'
section
variable {X : Cx} {S : St → Prop} {p : Addr} {e : Expr} {es : List Expr} {d : PyData} {ds : List PyData} {pos : Pos}
theorem pa_g0 : PA X [] (tGs S p []) := pa_nil.mono fun σ H Q ⟨_, _, q⟩ => q [] H (Same.refl H) .nil fun _ z => nomatch z
theorem pa_g1 (he : PE X e (tG S p d)) (h : PA X es (tGs S p ds)) (hs : starEach (e :: es) X.env = (false, eval e X.env) :: starEach es X.env := by rfl) : PA X (e :: es) (tGs S p (d :: ds)) := by
  refine (pa_cons he h hs).mono fun σ H Q ⟨s, ⟨o, ho⟩, q⟩ => ⟨s, ⟨o, ho⟩, fun v H1 k1 r1 f1 => ⟨s, ⟨o, k1 _ _ ho⟩, fun vs H2 k2 r2 f2 => q _ H2 (k1.trans k2) (.cons (r1.mono (del_mono k2)) r2) fun a ha => ?_⟩⟩
  rcases List.mem_cons.mp ha with e | ha
  · exact f1 a e.symm
  · exact fresh_of k1 (f2 a ha)
/-- a constant -/
theorem pe_gC {v : V} (h : PE X e (tC v)) (r : ∀ H, Rdd H v d) (nr : ∀ a, v ≠ .ref a) : PE X e (tG S p d) := h.mono fun σ H Q ⟨_, _, q⟩ => q v H (Same.refl H) (r _) fun a z => absurd z (nr a)
/-- what is told by the names -/
theorem pe_gS {t : TE} {v : V} (h : PE X e t) (k : ∀ σ H (Q : VK), S σ → Q v H → t σ H Q) (r : ∀ H, Rdd H v d) (nr : ∀ a, v ≠ .ref a) : PE X e (tG S p d) := h.mono fun σ H Q ⟨s, _, q⟩ => k σ H Q s (q v H (Same.refl H) (r _) fun a z => absurd z (nr a))
theorem pe_gtup {k : Nat} (h : PA X es (tGs S p ds)) (l : ds.length ≤ 16777216 := by decide) : PE X (.Tuple es k pos) (tG S p (.tuple ds)) := (pe_tup h).mono fun σ H Q ⟨s, ⟨o, ho⟩, q⟩ => ⟨s, ⟨o, ho⟩, fun vs H1 k1 r1 f1 =>
  ⟨two_ln (by rw [rdds_len r1]; exact l), fun t ht => q _ _ (k1.trans (upd_grow ht)) (.tup (del_new (k1 _ _ ho) ht) (r1.mono (del_mono (upd_grow ht)))) fun a e => by cases e; exact fresh_of k1 ht⟩⟩
theorem pe_glst (h : PA X es (tGs S p ds)) (l : ds.length ≤ 16777216 := by decide) : PE X (.List es pos) (tG S p (.list ds)) := (pe_lst h).mono fun σ H Q ⟨s, ⟨o, ho⟩, q⟩ => ⟨s, ⟨o, ho⟩, fun vs H1 k1 r1 f1 =>
  ⟨two_ln (by rw [rdds_len r1]; exact l), fun t ht => q _ _ (k1.trans (upd_grow ht)) (.lst (del_new (k1 _ _ ho) ht) (r1.mono (del_mono (upd_grow ht)))) fun a e => by cases e; exact fresh_of k1 ht⟩⟩
theorem pe_gdict0 : PE X (.Dict [] [] pos) (tG S p (.dict [])) := pe_dnewK.mono fun σ H Q ⟨s, ⟨o, ho⟩, q⟩ a ha =>
  q _ _ (upd_grow ha) (.dK (del_new ho ha) .nil .nil) fun b e => by cases e; exact ha
/-- {"..": c} -/
theorem pe_gdict1 {e1 e2 : Expr} {x : Str} {v : V} (h1 : PE X e1 (tC (.str x))) (h2 : PE X e2 (tC v)) (r : ∀ H, Rdd H v d) (h : PPs X pos [some e1] [e2] [(tC (.str x), tC v)]) : PE X (.Dict [some e1] [e2] pos) (tG S p (.dict [(.str x, d)])) :=
  (pe_disp h rfl rfl (by simp) (by show 1 ≤ 15; decide)).mono fun σ H Q ⟨s, ⟨o, ho⟩, q⟩ a ha => by
    refine ⟨upd_same, [(.inr x, v)], rfl, (by show 1 ≤ 15; decide), ?_⟩
    have e : mergeK [] [((.inr x : Key), v)] = [(.inr x, v)] := rfl
    rw [e, upd_upd]
    exact q _ _ (upd_grow ha) (.dK (del_new ho ha) (.cons (.str _) .nil) (.cons (r _) .nil)) fun b z => by cases z; exact ha
end
end L2

namespace L2
open PySem PySem.Spec PyProof.Rows
/-- .. no item is taken; S tells how it stands -/
theorem lc_drop {J : It} {n : Nat} {G : Hp → Prop} {Y : Nat → Hp → V → Hp → Prop} (w : Walk J n G Y) {g : TG} {tt : TT} {te : TE} {vs : List Nat} {σ : St} {H : Hp} {D : Addr} {Qd : Hp → Prop} (S : Nat → Hp → Prop) (s0 : S 0 (upd H D (.lst [])))
    (hG : ∀ i H', i ≤ n → S i H' → G H')
    (he : ∀ i x H1 H2 (K : V → Hp → Prop) (N : Hp → Prop), i < n → S i H1 → H1 D = some (.lst []) → Y i H1 x H2 → (∀ H4, S (i + 1) H4 → H4 D = some (.lst []) → N H4) →
      g x (wipe σ vs) H2 fun σ2 H2' => wipe σ2 vs = wipe σ vs ∧ tt σ2 H2' fun b H3 => if b = true then te σ2 H3 K else N H3)
    (q : ∀ H', S n H' → H' D = some (.lst []) → Qd H') :
    ∃ W : Nat → Nat → Hp → Prop, (∃ m, W 0 m (upd H D (.lst []))) ∧ ∀ i m H, W i m H →
      (J.stop i H ∧ Qd H) ∨ (J.go i H ∧ ∃ Nx : Hp → Prop, (∀ H', Nx H' → ∃ m', m' < m ∧ W (i + 1) m' H') ∧ ∀ x H', J.yld i H x H' → g x (wipe σ vs) H' fun σ2 H2 => wipe σ2 vs = wipe σ vs ∧ tt σ2 H2 fun b H3 =>
        if b = true then te σ2 H3 fun y H4 => ∃ acc, H4 D = some (.lst acc) ∧ acc.length < sizeLine ∧ Nx (upd H4 D (.lst (acc ++ [y]))) else Nx H3) :=
  lc_it w (fun i H' => S i H' ∧ H' D = some (.lst [])) ⟨s0, upd_same⟩ (fun i H' hi h => hG i H' hi h.1) (fun i x H1 H2 hi h hy => he i x H1 H2 _ _ hi h.1 h.2 hy fun H4 s4 h4 => ⟨s4, h4⟩) fun H' h => q H' h.1 h.2
theorem del_upd_same {H : Hp} {D : Addr} {o : HO} : del (upd H D o) D = del H D := by
  funext b
  by_cases nb : b = D
  · rw [nb, del_same, del_same]
  · rw [del_ne nb, del_ne nb, upd_ne nb]
theorem but_del2 {p D : Addr} {H1 H2 : Hp} (k : But p H1 H2) : Same (del (del H1 D) p) (del (del H2 D) p) := fun b o e => by
  by_cases nb : b = p
  · rw [nb, del_same] at e; cases e
  · rw [del_ne nb] at e ⊢
    by_cases nd : b = D
    · rw [nd, del_same] at e; cases e
    · rw [del_ne nd] at e ⊢
      exact k b o nb e
theorem but_del3 {p b D : Addr} {H1 H2 : Hp} (k : But p H1 H2) : Same (del (del (del H1 D) b) p) (del (del (del H2 D) b) p) := fun c o e => by
  by_cases n1 : c = p
  · rw [n1, del_same] at e; cases e
  · rw [del_ne n1] at e ⊢
    by_cases n2 : c = b
    · rw [n2, del_same] at e; cases e
    · rw [del_ne n2] at e ⊢
      by_cases n3 : c = D
      · rw [n3, del_same] at e; cases e
      · rw [del_ne n3] at e ⊢
        exact k c o n1 e
theorem but_del4 {p b D : Addr} {H1 H2 : Hp} (k : But b H1 H2) : Same (del (del (del H1 D) b) p) (del (del (del H2 D) b) p) := fun c o e => by
  by_cases n1 : c = p
  · rw [n1, del_same] at e; cases e
  · rw [del_ne n1] at e ⊢
    by_cases n2 : c = b
    · rw [n2, del_same] at e; cases e
    · rw [del_ne n2] at e ⊢
      by_cases n3 : c = D
      · rw [n3, del_same] at e; cases e
      · rw [del_ne n3] at e ⊢
        exact k c o n2 e
/-- {"..": c}, a new table -/
def tD1 (x : Str) (v : V) : TE := fun σ H Q => ∀ a, H a = none → Q (.ref a) (upd H a (.dK [(.inr x, v)]))
theorem pe_dict1 {X : Cx} {pos : Pos} {e1 e2 : Expr} {x : Str} {v : V} (h : PPs X pos [some e1] [e2] [(tC (.str x), tC v)]) : PE X (.Dict [some e1] [e2] pos) (tD1 x v) :=
  (pe_disp h rfl rfl (by simp) (by show 1 ≤ 15; decide)).mono fun σ H Q q a ha => by
    refine ⟨upd_same, [(.inr x, v)], rfl, (by show 1 ≤ 15; decide), ?_⟩
    have e : mergeK [] [((.inr x : Key), v)] = [(.inr x, v)] := rfl
    rw [e, upd_upd]
    exact q a ha
end L2
namespace K03
open PySem PySem.Spec PyProof.Rows L2 Tn TL
abbrev sLCellR : Stmt := top 36
theorem scLCellR : FnScope ["box", "worlds", "turn", "houses", "trees", "world", "k", "star", "values", "value"] ["box"] (defScope sLCellR) := ⟨rfl, rfl, rfl, by decide +kernel, rfl, by decide +kernel, by decide +kernel⟩
abbrev sLaw : Stmt := top 37
theorem scLaw : FnScope ["script", "k"] ["script"] (defScope sLaw) := ⟨rfl, rfl, rfl, by decide +kernel, rfl, by decide +kernel, by decide +kernel⟩
theorem tup_del {H : Hp} {D : Addr} {zs : List V} (hD : H D = some (.lst zs)) {v : V} {ds : List PyData} (r : Rdd H v (.tuple ds)) (each : ∀ x d, d ∈ ds → Rdd H x d → Rdd (del H D) x d) : Rdd (del H D) v (.tuple ds) := by
  cases r with
  | @tup a xs _ h1 ra =>
    have na : a ≠ D := fun e => by rw [e, hD] at h1; cases h1
    refine .tup (by rw [del_ne na]; exact h1) (rdds_of (rdds_len ra) fun i x d hx hd => ?_)
    obtain ⟨y, hy, ry⟩ := rdds_get ra hd
    rw [hx] at hy
    cases hy
    exact each _ _ (List.mem_of_getElem? hd) ry
theorem TreeAt.del {K : PySem.W.Frag} {H : Hp} {D t : Addr} {zs : List V} {n : Nat} {rs : List Tm.Road} (hD : H D = some (.lst zs)) (T : TreeAt K H t n rs) : TreeAt K (del H D) t n rs := by
  obtain ⟨dx, rt, nt, h1, h2, h3⟩ := T.ex
  have i0 : ∀ x d (i : Int), d = .int i → Rdd H x d → Rdd (L2.del H D) x d := fun x d i e r => by
    subst e
    cases r
    exact .int _
  refine ⟨⟨dx, rt, nt, by rw [del_ne (fun e => by rw [e, hD] at h1; cases h1)]; exact h1, tup_del hD h2 fun x d hd r => ?_, tup_del hD h3 fun x d hd r => ?_⟩, T.ok, T.jo, T.le⟩
  · obtain ⟨⟨u, v⟩, _, rfl⟩ := List.mem_map.mp hd
    refine tup_del hD r fun y e he r2 => ?_
    simp only [List.mem_cons, List.not_mem_nil, or_false] at he
    rcases he with rfl | rfl
    · exact i0 _ _ _ rfl r2
    · exact i0 _ _ _ rfl r2
  · obtain ⟨h, _, rfl⟩ := List.mem_map.mp hd
    refine tup_del hD r fun y e he r2 => ?_
    obtain ⟨z, _, rfl⟩ := List.mem_map.mp he
    exact i0 _ _ _ rfl r2
theorem rds_del {H : Hp} {D r : Addr} {zs : List V} {rs : List Tm.Road} (hD : H D = some (.lst zs)) (rr : Rdd H (.ref r) (.list (rs.map rd))) (ne : r ≠ D) : Rdd (del H D) (.ref r) (.list (rs.map rd)) := by
  cases rr with
  | @lst a xs _ h1 ra =>
    refine .lst (by rw [del_ne ne]; exact h1) (rdds_of (rdds_len ra) fun i x d hx hd => ?_)
    obtain ⟨y, hy, ry⟩ := rdds_get ra hd
    rw [hx] at hy
    cases hy
    obtain ⟨⟨u, v⟩, _, rfl⟩ := List.mem_map.mp (List.mem_of_getElem? hd)
    refine tup_del hD ry fun y e he r2 => ?_
    simp only [List.mem_cons, List.not_mem_nil, or_false] at he
    rcases he with rfl | rfl <;> (cases r2; exact .int _)
theorem two_at {a : Nat → Addr} {i : Nat} (h : i < 2) : atI [V.ref (a 0), V.ref (a 1)] (i : Int) = some (.ref (a i)) := by
  match i, h with
  | 0, _ => rfl
  | 1, _ => rfl
theorem asc_ok {z : Str} (h : Asc z) : PyData.strOk z = true := by
  unfold PyData.strOk
  rw [Array.all_eq_true_iff_forall_mem]
  intro c hc
  have := h c (Array.mem_toList_iff.mpr hc)
  exact decide_eq_true (by omega)
theorem two_lay {a b : Str} (h : Asc a) (k : Asc b) : (PyData.list [.str a, .str b]).canLay0 = true := by
  show ((PyData.str a).canLay0 && ((PyData.str b).canLay0 && true)) = true
  simp [PyData.canLay0, asc_ok h, asc_ok k]
theorem two_shaped {a b : Str} (h : Asc a) (k : Asc b) : SeqAt.shaped (.list [.str a, .str b]) = true := by
  unfold SeqAt.shaped
  rw [Bool.and_eq_true]
  refine ⟨two_lay h k, decide_eq_true ?_⟩
  simp only [PyData.depth, PyData.depthAll]
  omega
theorem BoxAt.but {H H' : Hp} {p b : Addr} {c : Nat} (h : BoxAt H p c) (n : p ≠ b) (k : But b H H') : BoxAt H' p c := h.imp fun _ z => ⟨k _ _ n z.1, z.2⟩
/-- a pair of houses and roads -/
def WdE (H : Hp) (x : V) : Prop := ∃ (w r : Addr) (n : Nat) (rs : List Tm.Road), x = .ref w ∧ H w = some (.lst [.int (n : Nat), .ref r]) ∧ Rdd H (.ref r) (.list (rs.map rd)) ∧ Tm.RoadsOk n rs ∧ Tm.Joined n rs ∧ 1 ≤ n ∧ n ≤ 64
theorem WdE.mono {H H' : Hp} {x : V} (h : WdE H x) (k : Same H H') : WdE H' x :=
  let ⟨w, r, n, rs, e, h1, h2, h3⟩ := h
  ⟨w, r, n, rs, e, k _ _ h1, h2.mono k, h3⟩
/-- both of them -/
structure Wds (H : Hp) (p wl : Addr) (w r : Nat → Addr) (n : Nat → Nat) (rs : Nat → List Tm.Road) : Prop where
  wl : del H p wl = some (.lst [.ref (w 0), .ref (w 1)])
  a : ∀ i, i < 2 → del H p (w i) = some (.lst [.int (n i : Nat), .ref (r i)]) ∧ Rdd (del H p) (.ref (r i)) (.list ((rs i).map rd)) ∧ Tm.RoadsOk (n i) (rs i) ∧ Tm.Joined (n i) (rs i) ∧ 1 ≤ n i ∧ n i ≤ 64
theorem Wds.mono {H H' : Hp} {p wl : Addr} {w r : Nat → Addr} {n : Nat → Nat} {rs : Nat → List Tm.Road} (W : Wds H p wl w r n rs) (k : But p H H') : Wds H' p wl w r n rs :=
  ⟨but_del k _ _ W.wl, fun i hi => let ⟨h1, h2, h3⟩ := W.a i hi; ⟨but_del k _ _ h1, h2.mono (but_del k), h3⟩⟩
def spCellR : Sp := fun vs H Q _ => ∃ p : Addr, vs = [.ref p] ∧ BoxAt H p 0 ∧ ∀ H', But p H H' → Q (.bl true) H'
section
variable {P : Program} {w : World} {K : PySem.W.Frag} {mg : Str → Option Value} {base : Heap} {f : Addr} {fd fdI : FuncData}
theorem ok_cellr (F : Fd K "_law_cell_right" sLCellR f fd) (g : mg "_law_cell_right" = some (.ref f)) (B : Bl mg) (C : TreeK K mg) (FI : Md K "__init__" "Tree.__init__" sTInit (MT K "__init__") fdI)
    (oI : FnOk P w K mg base (L2N.CX P w) 3 (MT K "__init__") fdI ["self", "houses", "roads"] (spInit K)) (mL : Meth K (CT K) "line" (MT K "line")) (M : OkM P w K mg base CX0 1 "line" ["self"] (spTLine K))
    (o_law_take : Ok P w K mg base CX0 1 "_law_take" sTake ["box", "many"] spDraw1) (o_law_roads : Ok P w K mg base CX0 2 "_law_roads" sRoads ["box", "houses"] spRoads) (o_law_written : Ok P w K mg base CX0 1 "_law_written" sLWrit ["houses", "roads"] spLWrit)
    (o_law_world_right : OkG P w K mg base 8 "_law_world_right" sWorld ["box", "houses", "roads"] spWorld) (o_law_asked_right : OkG P w K mg base 7 "_law_asked_right" sAsked ["value", "by_name"] spAsk) : OkG P w K mg base 9 "_law_cell_right" sLCellR ["box"] spCellR := by
  obtain ⟨fdL, bLn, oLn⟩ := M.ex
  refine ⟨f, fd, g, F, F.bindsN fun _ _ _ _ _ _ us hl => match us, hl with | [_], _ => rfl, F.okG scLCellR (fun vs H Q E h => ?_) (fun cdv A outer s H vs Q hgd hr h => ?_)⟩
  · obtain ⟨p, rfl, _⟩ := h
    rfl
  · have hu : (cxOf CX0 P w K mg base ["box", "worlds", "turn", "houses", "trees", "world", "k", "star", "values", "value"] "_law_cell_right" (defScope sLCellR) f cdv A outer s H noE).A.units + 64 < cLine := by
      have z := hr.un
      show (A.deeper _).units + 64 < cLine
      omega
    refine ⟨_, (pss_cons (ps_set (i := 1) scLCellR.nd rfl (Or.inr rfl) (pe_lst pa_nil))
      (pss_cons (ps_for (passes_of rfl) rfl (pi_range1 (by rfl) (B.u "range" (by decide +kernel)) (pa_cons pe_int pa_nil)) (pg_name (i := 2) scLCellR.nd rfl (Or.inl rfl))
        (pss_cons (ps_set (i := 3) scLCellR.nd rfl (Or.inl rfl) (pe_ix ix_seq (pe_lst (pa_cons pe_int (pa_cons pe_int (pa_cons pe_int (pa_cons (pe_op op_add pe_int (pe_o o_law_take (hr.mono (by decide)) (by rfl) (pa_cons (pv 0) (pa_cons pe_int pa_nil)))) (pa_cons (pe_op op_add pe_int (pe_o o_law_take (hr.mono (by decide)) (by rfl) (pa_cons (pv 0) (pa_cons pe_int pa_nil)))) (pa_cons pe_int pa_nil))))))) (pe_o o_law_take (hr.mono (by decide)) (by rfl) (pa_cons (pv 0) (pa_cons pe_int pa_nil))) fun _ _ => rfl))
        (pss_one (ps_expr (pe_bm PySem.F.plainAttrs_list PySem.F.slot_list_append PySem.F.type_list_append mt_append (pv 1) (pa_cons (pe_lst (pa_cons (pv 3) (pa_cons (pe_o o_law_roads (hr.mono (by decide)) (by rfl) (pa_cons (pv 0) (pa_cons (pv 3) pa_nil))) pa_nil))) pa_nil))))))
      (pss_cons (ps_set (i := 4) scLCellR.nd rfl (Or.inr rfl) (pe_lc (own := [("world", 5)]) (g := gName 5) rfl scLCellR.nd (pi_list (pv 1)) (blkOk_by (N := ["box", "worlds", "turn", "houses", "trees", "world", "k", "star", "values", "value"]) (sc := defScope sLCellR) (by decide +kernel)) (fun _ _ _ _ _ => (pg_name (i := 5) scLCellR.nd rfl (Or.inl rfl))) (fun _ _ _ _ _ => pts_nil) (fun _ _ _ _ _ => (pe_makeS (E := fun _ => noE) C.mkT oI (hr.mono (by decide)) (by rfl) C.g (FI.kbn0 3 [] (pick [0, 1, 2]) (pick_rel [0, 1, 2]) fun _ _ _ _ _ _ us ws l1 l2 => match us, ws, l1, l2 with | [_, _, _], [], _, _ => rfl) (fun σ => pass_noneN σ) (pa_cons (pe_ix (r := rIx K) ix_seq (pv 5) pe_int fun _ _ => rfl) (pa_cons (pe_callTy (r := rLstOf K) (by exact call_list_of) (by rfl) (B.u "list" (by decide +kernel)) (by decide +kernel) (pa_cons (pe_ix (r := rIx K) ix_seq (pv 5) pe_int fun _ _ => rfl) pa_nil)) pa_nil))))))
      (pss_cons (ps_if (pt_cmpR (op_neNil hu) (pe_lc (own := [("k", 6)]) (g := gName 6) rfl scLCellR.nd (pi_range1 (by rfl) (B.u "range" (by decide +kernel)) (pa_cons pe_int pa_nil)) (blkOk_by (N := ["box", "worlds", "turn", "houses", "trees", "world", "k", "star", "values", "value"]) (sc := defScope sLCellR) (by decide +kernel)) (fun _ _ _ _ _ => (pg_name (i := 6) scLCellR.nd rfl (Or.inl rfl))) (fun _ _ _ _ _ => (pts_one (pt_not (pt_val (pe_oG o_law_world_right hgd (hr.mono (by decide)) (by rfl) (pa_cons (pv 0) (pa_cons (pe_ix (r := rIx K) ix_seq (pe_ix (r := rIx K) ix_seq (pv 1) (pv 6) fun _ _ => rfl) pe_int fun _ _ => rfl) (pa_cons (pe_ix (r := rIx K) ix_seq (pe_ix (r := rIx K) ix_seq (pv 1) (pv 6) fun _ _ => rfl) pe_int fun _ _ => rfl) pa_nil)))))))) (fun _ _ _ _ _ => (pv 6))) (pe_lst pa_nil) (nomark _))
        (pss_one (ps_ret pe_bl))
        pss_nil)
      (pss_cons (ps_if (pt_cmpR (op_neD hu) (pe_lc (own := [("k", 6)]) (g := gName 6) rfl scLCellR.nd (pi_range1 (by rfl) (B.u "range" (by decide +kernel)) (pa_cons pe_int pa_nil)) (blkOk_by (N := ["box", "worlds", "turn", "houses", "trees", "world", "k", "star", "values", "value"]) (sc := defScope sLCellR) (by decide +kernel)) (fun _ _ _ _ _ => (pg_name (i := 6) scLCellR.nd rfl (Or.inl rfl))) (fun _ _ _ _ _ => pts_nil) (fun _ _ _ _ _ => (pe_meth0 (pe_ix (r := rIx K) ix_seq (pv 4) (pv 6) fun _ _ => rfl) C.cl mL oLn (hr.mono (by decide)) bLn .nil pass0))) (pe_lc (own := [("world", 5)]) (g := gName 5) rfl scLCellR.nd (pi_list (pv 1)) (blkOk_by (N := ["box", "worlds", "turn", "houses", "trees", "world", "k", "star", "values", "value"]) (sc := defScope sLCellR) (by decide +kernel)) (fun _ _ _ _ _ => (pg_name (i := 5) scLCellR.nd rfl (Or.inl rfl))) (fun _ _ _ _ _ => pts_nil) (fun _ _ _ _ _ => (pe_o o_law_written (hr.mono (by decide)) (by rfl) (pa_cons (pe_ix (r := rIx K) ix_seq (pv 5) pe_int fun _ _ => rfl) (pa_cons (pe_ix (r := rIx K) ix_seq (pv 5) pe_int fun _ _ => rfl) pa_nil))))) (nomark _))
        (pss_one (ps_ret pe_bl))
        pss_nil)
      (pss_cons (ps_set (i := 7) scLCellR.nd rfl (Or.inl rfl) (pe_op op_add_str pe_str (pe_join pe_str (pe_lc (own := [("k", 6)]) (g := gName 6) rfl scLCellR.nd (pi_range2 (by rfl) (B.u "range" (by decide +kernel)) (pa_cons pe_int (pa_cons pe_int pa_nil))) (blkOk_by (N := ["box", "worlds", "turn", "houses", "trees", "world", "k", "star", "values", "value"]) (sc := defScope sLCellR) (by decide +kernel)) (fun _ _ _ _ _ => (pg_name (i := 6) scLCellR.nd rfl (Or.inl rfl))) (fun _ _ _ _ _ => pts_nil) (fun _ _ _ _ _ => (pe_op op_add_str pe_str (pe_callTy call_str_int (by rfl) (B.u "str" (by decide +kernel)) (by decide +kernel) (pa_cons (pv 6) pa_nil))))))))
      (pss_cons (ps_set (i := 8) scLCellR.nd rfl (Or.inl rfl) (pe_lst (pa_cons pe_non (pa_cons pe_bl (pa_cons pe_int (pa_cons (pe_lst (pa_cons pe_str pa_nil)) (pa_cons (pe_tup (pa_cons pe_str pa_nil)) (pa_cons (pe_dict1 (pps_cons pe_str pe_int pps_nil)) (pa_cons pe_str (pa_cons pe_str (pa_cons pe_str (pa_cons pe_str (pa_cons pe_str (pa_cons (pv 7) pa_nil))))))))))))))
      (pss_one (ps_ret (pe_cmpR (op_eqNil hu) (pe_lc (own := [("value", 9)]) (g := gName 9) rfl scLCellR.nd (pi_list (pv 8)) (blkOk_by (N := ["box", "worlds", "turn", "houses", "trees", "world", "k", "star", "values", "value"]) (sc := defScope sLCellR) (by decide +kernel)) (fun _ _ _ _ _ => (pg_name (i := 9) scLCellR.nd rfl (Or.inl rfl))) (fun _ _ _ _ _ => (pts_one (pt_not (pt_val (pe_oG o_law_asked_right hgd (hr.mono (by decide)) (by rfl) (pa_cons (pv 9) (pa_cons (pe_cmpR op_eq (pe_o o_law_take (hr.mono (by decide)) (by rfl) (pa_cons (pv 0) (pa_cons pe_int pa_nil))) pe_int (nomark _)) pa_nil))))))) (fun _ _ _ _ _ => (pv 9))) (pe_lst pa_nil) (nomark _))))))))))), ?_⟩
    obtain ⟨p, rfl, hp, q⟩ := h
    obtain ⟨ob, hob⟩ := hp.some
    refine ⟨two_ln (by decide), fun wl hwl => ?_⟩
    have nwl : wl ≠ p := (ne_of_none hob hwl).symm
    dsimp only [gName, L2.start]
    obtain ⟨h1k⟩ : Nonempty (Same H (upd H wl (.lst []))) := ⟨upd_grow hwl⟩
    have hp1 := hp.same h1k
    have ht1 := upd_same (H := H) (a := wl) (o := .lst [])
    have d1 : Same (del H p) (del (del (upd H wl (.lst [])) wl) p) := by
      rw [del_upd_same]
      refine del_mono fun b o e => ?_
      rw [del_ne (ne_of_none e hwl)]
      exact e
    generalize upd H wl (.lst []) = H1 at h1k hp1 ht1 d1 ⊢
    refine tSeq_by (fun σ H' => ∃ (w r : Nat → Addr) (n : Nat → Nat) (rs : Nat → List Tm.Road) (a2 a3 : Option V), But p H H' ∧ BoxAt H' p 262 ∧ Wds H' p wl w r n rs ∧ σ = [some (.ref p), some (.ref wl), a2, a3, none, none, none, none, none, none]) ?_ fun rest => ?_
    · rintro σ H2 ⟨w, r, n, rs, a2, a3, k2, hp2, W, rfl⟩
      obtain ⟨bx2, hbx2, _⟩ := id hp2
      have hwl2 := del_le _ _ W.wl
      refine tSeq_by (fun σ H' => ∃ (tr : Addr) (t : Nat → Addr), Same H2 H' ∧ tr ≠ p ∧ H' tr = some (.lst [.ref (t 0), .ref (t 1)]) ∧ (∀ i, i < 2 → TreeAt K H' (t i) (n i) (rs i)) ∧ σ = [some (.ref p), some (.ref wl), a2, a3, some (.ref tr), none, none, none, none, none]) ?_ fun rest => ?_
      · rintro σ H3 ⟨tr, t, k3, ntl, htl, hT, rfl⟩
        have hp3 := hp2.same k3
        have hbx3 := k3 _ _ hbx2
        have W3 : ∀ {H'}, But p H3 H' → Wds H' p wl w r n rs := fun k => W.mono ((But.of k3).trans k)
        have T3 : ∀ {H'}, But p H3 H' → ∀ i, i < 2 → TreeAt K H' (t i) (n i) (rs i) := fun k i hi => (((hT i hi).del hbx3).mono (but_del k)).mono del_le
        refine tSeq_by (fun σ H' => But p H3 H' ∧ BoxAt H' p 362 ∧ σ = [some (.ref p), some (.ref wl), a2, a3, some (.ref tr), none, none, none, none, none]) ?_ fun rest => ?_
        · rintro σ H4 ⟨k4, hp4, rfl⟩
          refine tSeq_by (fun σ H' => Same H4 H' ∧ σ = [some (.ref p), some (.ref wl), a2, a3, some (.ref tr), none, none, none, none, none]) ?_ fun rest => ?_
          · rintro σ H5 ⟨k5, rfl⟩
            refine tSeq_by (fun σ H' => ∃ st : Str, st.length ≤ 640 ∧ Asc st ∧ Same H5 H' ∧ σ = [some (.ref p), some (.ref wl), a2, a3, some (.ref tr), none, none, some (.str st), none, none]) ?_ fun rest => ?_
            · rintro σ H6 ⟨st, lst, ast, k6, rfl⟩
              have kH6 : But p H H6 := k2.trans ((But.of k3).trans (k4.trans (But.of (k5.trans k6))))
              have hp6 := hp4.same (k5.trans k6)
              obtain ⟨ob6, hob6⟩ := hp6.some
              refine ⟨two_ln (by show 1 ≤ _; decide), fun b hb => ?_⟩
              have k_b := upd_grow (o := .lst [.str "1:"]) hb
              have h_b := upd_same (H := H6) (a := b) (o := .lst [.str "1:"])
              generalize upd H6 b (.lst [.str "1:"]) = H7 at k_b h_b ⊢
              refine ⟨two_ln (by show 1 ≤ _; decide), fun tp htp => ?_⟩
              have k_tp := upd_grow (o := .tup [.str "1:"]) htp
              have h_tp := upd_same (H := H7) (a := tp) (o := .tup [.str "1:"])
              generalize upd H7 tp (.tup [.str "1:"]) = H8 at k_tp h_tp ⊢
              refine fun dd hdd => ?_
              have k_dd := upd_grow (o := .dK [(.inr "1:", .int 0)]) hdd
              have h_dd := upd_same (H := H8) (a := dd) (o := .dK [(.inr "1:", .int 0)])
              generalize upd H8 dd (.dK [(.inr "1:", .int 0)]) = H9 at k_dd h_dd ⊢
              refine ⟨_, rfl, two_ln (by show 12 ≤ _; decide), fun vl hvl => ?_⟩
              have k_vl := upd_grow (o := .lst [.non, .bl true, .int 1, .ref b, .ref tp, .ref dd, .str "", .str ":", .str "1", .str "1:", .str "0:", .str st]) hvl
              have h_vl := upd_same (H := H9) (a := vl) (o := .lst [.non, .bl true, .int 1, .ref b, .ref tp, .ref dd, .str "", .str ":", .str "1", .str "1:", .str "0:", .str st])
              generalize upd H9 vl (.lst [.non, .bl true, .int 1, .ref b, .ref tp, .ref dd, .str "", .str ":", .str "1", .str "1:", .str "0:", .str st]) = HA at k_vl h_vl ⊢
              have nbp : b ≠ p := (ne_of_none hob6 hb).symm
              have ntp : tp ≠ p := (ne_of_none (k_b _ _ hob6) htp).symm
              have ndp : dd ≠ p := (ne_of_none (k_tp _ _ (k_b _ _ hob6)) hdd).symm
              have nvp : vl ≠ p := (ne_of_none (k_dd _ _ (k_tp _ _ (k_b _ _ hob6))) hvl).symm
              have ntb : tp ≠ b := (ne_of_none h_b htp).symm
              have ndb : dd ≠ b := (ne_of_none (k_tp _ _ h_b) hdd).symm
              have nvb : vl ≠ b := (ne_of_none (k_dd _ _ (k_tp _ _ h_b)) hvl).symm
              have k6A : Same H6 HA := k_b.trans (k_tp.trans (k_dd.trans k_vl))
              have hbA := k_vl _ _ (k_dd _ _ (k_tp _ _ h_b))
              have hpA := hp6.same k6A
              have each : ∀ (i : Nat) (x : V), ([.non, .bl true, .int 1, .ref b, .ref tp, .ref dd, .str "", .str ":", .str "1", .str "1:", .str "0:", .str st] : List V)[i]? = some x → i ≠ 3 →
                  ∃ d, Rdd (del (del HA b) p) x d ∧ Tame d ∧ (∀ s, d = .str s → s.length ≤ 640) ∧ tyd d ≠ "list" := by
                intro i x hx n3
                match i, hx, n3 with
                | 0, hx, _ => cases hx; exact ⟨_, .non, ⟨by decide +kernel, by decide +kernel, by decide +kernel, by decide +kernel⟩, (fun s e => nomatch e), by decide⟩
                | 1, hx, _ => cases hx; exact ⟨_, .bl _, ⟨by decide +kernel, by decide +kernel, by decide +kernel, by decide +kernel⟩, (fun s e => nomatch e), by decide⟩
                | 2, hx, _ => cases hx; exact ⟨_, .int _, ⟨by decide +kernel, by decide +kernel, by decide +kernel, by decide +kernel⟩, (fun s e => nomatch e), by decide⟩
                | 3, _, n3 => exact absurd rfl n3
                | 4, hx, _ => cases hx; exact ⟨.tuple [.str "1:"], .tup (by rw [del_ne ntp, del_ne ntb]; exact k_vl _ _ (k_dd _ _ h_tp)) (.cons (.str _) .nil), ⟨by decide +kernel, by decide +kernel, by decide +kernel, by decide +kernel⟩, (fun s e => nomatch e), by decide⟩
                | 5, hx, _ => cases hx; exact ⟨.dict [(.str "1:", .int 0)], .dK (by rw [del_ne ndp, del_ne ndb]; exact k_vl _ _ h_dd) (.cons (.str _) .nil) (.cons (.int _) .nil), ⟨by decide +kernel, by decide +kernel, by decide +kernel, by decide +kernel⟩, (fun s e => nomatch e), by decide⟩
                | 6, hx, _ => cases hx; exact ⟨_, .str _, ⟨by decide +kernel, by decide +kernel, by decide +kernel, by decide +kernel⟩, (fun s e => by cases e; decide +kernel), by decide⟩
                | 7, hx, _ => cases hx; exact ⟨_, .str _, ⟨by decide +kernel, by decide +kernel, by decide +kernel, by decide +kernel⟩, (fun s e => by cases e; decide +kernel), by decide⟩
                | 8, hx, _ => cases hx; exact ⟨_, .str _, ⟨by decide +kernel, by decide +kernel, by decide +kernel, by decide +kernel⟩, (fun s e => by cases e; decide +kernel), by decide⟩
                | 9, hx, _ => cases hx; exact ⟨_, .str _, ⟨by decide +kernel, by decide +kernel, by decide +kernel, by decide +kernel⟩, (fun s e => by cases e; decide +kernel), by decide⟩
                | 10, hx, _ => cases hx; exact ⟨_, .str _, ⟨by decide +kernel, by decide +kernel, by decide +kernel, by decide +kernel⟩, (fun s e => by cases e; decide +kernel), by decide⟩
                | 11, hx, _ => cases hx; exact ⟨_, .str _, (ast.tame lst).tame (by decide) (by decide), (fun s e => by cases e; exact lst), by simp [tyd]⟩
                | i + 12, hx, _ => simp at hx
              refine ⟨_, rfl, vl, rfl, ⟨_, SqL.of h_vl⟩, fun D hD => ?_⟩
              have hobA := k6A _ _ hob6
              have nDp : D ≠ p := (ne_of_none hobA hD).symm
              have nDb : D ≠ b := (ne_of_none hbA hD).symm
              refine lc_drop walk_list (fun i H' => Same (del (del HA b) p) (del (del (del H' D) b) p) ∧ BoxAt H' p (362 + i) ∧ (i ≤ 3 → H' b = some (.lst [.str "1:"]))) ⟨?_, hpA.same (upd_grow hD), fun _ => upd_grow hD _ _ hbA⟩ (fun i H' _ h => SqL.of (del_le _ _ (del_le _ _ (del_le _ _ (h.1 _ _ (by rw [del_ne nvp, del_ne nvb]; exact h_vl)))))) ?_ ?_
              · rw [del_upd_same]
                refine del_mono (del_mono fun c o e => ?_)
                rw [del_ne (ne_of_none e hD)]
                exact e
              · rintro i x HB HC K1 N1 hi ⟨kB, hpB, hlB⟩ hDB ⟨rfl, hx⟩ hN
                have hi : i < 12 := hi
                refine ⟨rfl, _, rfl, _, rfl, p, 2, _, rfl, hpB, by omega, by decide, by decide, fun e HD e0 e1 kD hpD ee => ⟨rfl, ?_⟩⟩
                generalize decide (V.int e = V.int 1) = bn
                have hDD := kD _ _ nDp hDB
                have sm := kB.trans (but_del3 (D := D) (b := b) kD)
                by_cases i3 : i = 3
                · subst i3
                  obtain rfl : x = .ref b := (Option.some.inj hx).symm
                  have hbD := kD _ _ nbp (hlB (by decide))
                  refine ⟨.ref b, .list [.str "1:"], bn, rfl, .lst hbD (.cons (.str _) .nil), ⟨by decide +kernel, by decide +kernel, by decide +kernel, by decide +kernel⟩, (fun s e => nomatch e), .inr ⟨b, _, [.str "1:"], rfl, rfl, hbD, .cons (.str _) .nil, ⟨by decide +kernel, by decide +kernel, by decide +kernel, by decide +kernel⟩, fun HE kE => ⟨_, rfl, iteF (hN _ ⟨sm.trans (but_del4 kE), hpD.but nbp.symm kE, fun z => absurd z (by omega)⟩ (kE _ _ nDb hDD))⟩⟩⟩
                · obtain ⟨d, rd, tm, ln, ne⟩ := each i x hx i3
                  refine ⟨x, d, bn, rfl, (rd.mono sm).mono (fun c o e => del_le _ _ (del_le _ _ (del_le _ _ e))), tm, ln, .inl ⟨ne, fun HE kE => ⟨_, rfl, iteF (hN _ ⟨sm.trans (but_del3 (But.of kE)), (hpD.same kE).up (by omega), fun z => kE _ _ (kD _ _ nbp (hlB (by omega)))⟩ (kE _ _ hDD))⟩⟩⟩
              · rintro HB ⟨kB, hpB, _⟩ hDB
                refine ⟨two_ln (by show 0 ≤ _; decide), fun pe hpe => ⟨D, pe, [], rfl, rfl, SqL.of (upd_grow hpe _ _ hDB), SqL.of upd_same, ?_⟩⟩
                refine q _ fun c o nc e => ?_
                have eA := k6A _ _ (kH6 _ _ nc e)
                have ncb : c ≠ b := fun z => by
                  have := kH6 _ _ nc e
                  rw [z, hb] at this
                  cases this
                exact upd_grow hpe _ _ (del_le _ _ (del_le _ _ (del_le _ _ (kB _ _ (by rw [del_ne nc, del_ne ncb]; exact eA)))))
            · refine ⟨⟨_, rfl⟩, _, _, rfl, by decide, fun D hD => ?_⟩
              refine lc_gen (walk_range (lo := 1) (n := 64)) (fun _ => true) (fun i y _ => ∃ z : Str, y = .str z ∧ z.length ≤ 5 ∧ Asc z) (fun _ _ _ _ _ h => h) hD (by decide) (fun _ _ => True.intro) ?_ ?_
              · rintro i x H6 H7 K1 N1 hi k6 ⟨o, ho⟩ ⟨rfl, rfl⟩ hK _
                have hi : i < 64 := hi
                have ei : (1 : Int) + i = ((i + 1 : Nat) : Int) := by omega
                dsimp only [gName]
                rw [show V.int ((1 : Int) + i) = V.int ((i + 1 : Nat) : Int) from congrArg V.int ei]
                have ln := num_len (k := i + 1) (by omega)
                have a3' : (Str.ofString " 0-").length = 3 := rfl
                refine ⟨rfl, _, rfl, _, rfl, nat_log (by omega), _, _, rfl, rfl, two_ln (by omega), hK rfl _ _ (Same.refl _) ⟨_, rfl, by rw [strLen_append]; omega, Asc.app (ascS_of (by decide +kernel)) fun c hc => ?_⟩⟩
                rw [num_tl] at hc
                exact dg_asc hc
              · intro ys H6 k6 h6 l6 r6
                rw [filt_all] at l6 r6
                have l6 : ys.length = 64 := by rw [l6, List.length_range]
                have it : ItemsW 5 ys := fun x hx => by
                  obtain ⟨i, hi, e⟩ := List.mem_iff_getElem.mp hx
                  exact r6 i i x (by rw [List.getElem?_eq_getElem (by rw [List.length_range]; omega)]; simp) (by rw [List.getElem?_eq_getElem hi, e])
                obtain ⟨zs, rfl, lz, az, sz⟩ := it.strs
                have s3 : (Str.ofString "" : Str).length = 0 := rfl
                have jl : (Txt.join (Str.ofString "") zs).length ≤ 320 := by
                  rw [len_tl, join_eq, tl_join]
                  show (joinL [] (zs.map tl)).length ≤ _
                  rw [joinL_nil, List.length_flatten, List.map_map]
                  have e2 : zs.map (List.length ∘ tl) = zs.map (·.length) := List.map_congr_left fun z _ => (len_tl z).symm
                  rw [e2]
                  omega
                have s65 : (Str.ofString "65:" : Str).length = 3 := rfl
                refine ⟨_, D, zs, rfl, rfl, .inl (SqL.of h6), by rw [s3]; omega, _, _, rfl, rfl, two_ln (by omega), rest _ _ ⟨_, by rw [strLen_append]; omega, Asc.app (ascS_of (by decide +kernel)) (Asc.join (ascS_of (by decide +kernel)) az), del_sub k6, rfl⟩⟩
          · have htl4 := k4 _ _ ntl htl
            have T4 := T3 k4
            have W4 := W3 k4
            refine ⟨_, rfl, by decide, by decide, fun D hD => ?_⟩
            refine lc_genL (walk_range (lo := 0) (n := 2)) (fun _ => true) (fun i y _ => y = .str (mkS (lineL (n i) (rs i)))) (fun _ _ _ _ _ h => h) hD (by decide) (fun _ _ => True.intro) ?_ ?_
            · rintro i x H5 H6 K1 N1 hi k5 ⟨zs, hzs⟩ ⟨rfl, rfl⟩ hK _
              have hi : i < 2 := hi
              have ei : (0 : Int) + i = (i : Nat) := by omega
              dsimp only [gName]
              rw [show V.int ((0 : Int) + i) = V.int ((i : Nat) : Int) from congrArg V.int ei]
              have kx := del_sub k5
              have T5 := (T4 i hi).mono kx
              obtain ⟨dx, rt, nt, g1, _, _⟩ := T5.ex
              exact ⟨rfl, _, rfl, _, rfl, ixAt (kx _ _ htl4) (two_at hi) ⟨t i, dx, _, rfl, g1, rfl, t i, n i, rs i, rfl, T5, fun H7 k7 => hK rfl _ _ k7 rfl⟩⟩
            · intro ys H5 k5 h5 l5 r5
              rw [filt_all] at l5 r5
              have l5 : ys.length = 2 := l5
              obtain ⟨y0, y1, rfl⟩ : ∃ a b, ys = [a, b] := match ys, l5 with
                | [a, b], _ => ⟨a, b, rfl⟩
              obtain rfl := r5 0 0 y0 rfl rfl
              obtain rfl := r5 1 1 y1 rfl rfl
              have k45 := del_sub k5
              have hwl5 := k45 _ _ (del_le _ _ W4.wl)
              refine ⟨_, rfl, wl, rfl, ⟨_, SqL.of hwl5⟩, fun D2 hD2 => ?_⟩
              refine lc_genL walk_list (fun _ => true) (fun i y _ => y = .str (mkS (lineL (n i) (rs i)))) (fun _ _ _ _ _ h => h) hD2 (by show 2 ≤ _; decide) (fun H' k => SqL.of (del_sub k _ _ hwl5)) ?_ ?_
              · rintro i x H6 H7 K1 N1 hi k6 ⟨zs, hzs⟩ ⟨rfl, hx⟩ hK _
                have hi : i < 2 := hi
                have ex : x = .ref (w i) := by
                  match i, hi with
                  | 0, _ => exact (Option.some.inj hx).symm
                  | 1, _ => exact (Option.some.inj hx).symm
                subst ex
                have kx := k45.trans (del_sub k6)
                obtain ⟨h1, h2, ok, jo, m1, m2⟩ := W4.a i hi
                have h1' := kx _ _ (del_le _ _ h1)
                have l0 := ok.len
                exact ⟨rfl, _, rfl, ixAt (v := .int (n i : Nat)) h1' rfl ⟨_, rfl, ixAt (v := .ref (r i)) h1' rfl ⟨n i, r i, rs i, rfl, by omega, (h2.mono del_le).mono kx, fun q hq => by have := ok.bnd q hq; omega, by omega, fun H8 k8 => hK rfl _ _ k8 rfl⟩⟩⟩
              · intro zs H6 k6 h6 l6 r6
                rw [filt_all] at l6 r6
                have l6 : zs.length = 2 := l6
                obtain ⟨y0, y1, rfl⟩ : ∃ a b, zs = [a, b] := match zs, l6 with
                  | [a, b], _ => ⟨a, b, rfl⟩
                obtain rfl := r6 0 0 y0 rfl rfl
                obtain rfl := r6 1 1 y1 rfl rfl
                have k56 := del_sub k6
                refine ⟨.list [.str (mkS (lineL (n 0) (rs 0))), .str (mkS (lineL (n 1) (rs 1)))], .list [.str (mkS (lineL (n 0) (rs 0))), .str (mkS (lineL (n 1) (rs 1)))], Rdd.dp (.lst (k56 _ _ h5) (.cons (.str _) (.cons (.str _) .nil))) (two_lay (asc_line _ _) (asc_line _ _)), Rdd.dp (.lst h6 (.cons (.str _) (.cons (.str _) .nil))) (two_lay (asc_line _ _) (asc_line _ _)), two_shaped (asc_line _ _) (asc_line _ _), two_shaped (asc_line _ _) (asc_line _ _), ?_⟩
                have ee : PyData.eqv (.list [.str (mkS (lineL (n 0) (rs 0))), .str (mkS (lineL (n 1) (rs 1)))]) (.list [.str (mkS (lineL (n 0) (rs 0))), .str (mkS (lineL (n 1) (rs 1)))]) = true := by
                  simp [PyData.eqv, PyData.eqvAll]
                rw [ee]
                exact ⟨_, rfl, iteF (rest _ _ ⟨k45.trans k56, rfl⟩)⟩
        · obtain ⟨ob3, hob3⟩ := hp3.some
          refine ⟨_, rfl, by decide, by decide, fun D hD => ?_⟩
          have nDp : D ≠ p := (ne_of_none hob3 hD).symm
          have d3 : Same (del H3 p) (del (del (upd H3 D (.lst [])) D) p) := by
            rw [del_upd_same]
            refine del_mono fun b o e => ?_
            rw [del_ne (ne_of_none e hD)]
            exact e
          refine lc_drop (walk_range (lo := 0) (n := 2)) (fun i H' => Same (del H3 p) (del (del H' D) p) ∧ BoxAt H' p (262 + 50 * i)) ⟨d3, hp3.same (upd_grow hD)⟩ (fun _ _ _ _ => True.intro) ?_ ?_
          · rintro i x H4 H5 K1 N1 hi ⟨k4, hp4⟩ hDn ⟨rfl, rfl⟩ hN
            have hi : i < 2 := hi
            have ei : (0 : Int) + i = (i : Nat) := by omega
            dsimp only [gName]
            rw [show V.int ((0 : Int) + i) = V.int ((i : Nat) : Int) from congrArg V.int ei]
            have W4 := W3 (but_of k4)
            obtain ⟨h1, h2, ok, jo, m1, m2⟩ := W4.a i hi
            refine ⟨rfl, _, rfl, _, rfl, _, rfl, ixAt (del_le _ _ W4.wl) (two_at hi) (ixAt (v := .int (n i : Nat)) (del_le _ _ h1) rfl ⟨_, rfl, _, rfl, ixAt (del_le _ _ W4.wl) (two_at hi) (ixAt (v := .ref (r i)) (del_le _ _ h1) rfl ⟨p, r i, n i, _, rs i, rfl, hp4, by omega, m1, m2, h2, ok, jo, fun H6 k6 hp6 => ⟨_, rfl, iteF ?_⟩⟩)⟩)⟩
            exact hN _ ⟨k4.trans (but_del2 k6), hp6.up (by omega)⟩ (k6 _ _ nDp hDn)
          · rintro H4 ⟨k4, hp4⟩ h4
            refine ⟨two_ln (by show 0 ≤ _; decide), fun pe hpe => ⟨D, pe, [], rfl, rfl, SqL.of (upd_grow hpe _ _ h4), SqL.of upd_same, _, rfl, iteF ?_⟩⟩
            exact rest _ _ ⟨(but_of k4).trans (But.of (upd_grow hpe)), (hp4.same (upd_grow hpe)).up (by omega), rfl⟩
      · refine ⟨_, rfl, wl, rfl, ⟨_, SqL.of hwl2⟩, fun D hD => ?_⟩
        obtain ⟨ob2, hob2⟩ := hp2.some
        refine lc_genL walk_list (fun _ => true) (fun i y H' => ∃ a, y = .ref a ∧ TreeAt K H' a (n i) (rs i)) (fun i y _ _ k ⟨a, e, T⟩ => ⟨a, e, T.mono k⟩) hD (by show 2 ≤ _; decide) (fun H' k => SqL.of (del_sub k _ _ hwl2)) ?_ ?_
        · rintro i x H3 H4 K1 N1 hi k3 ⟨zs, hzs⟩ ⟨rfl, hx⟩ hK _
          have hi : i < 2 := hi
          have ex : x = .ref (w i) := by
            match i, hi with
            | 0, _ => exact (Option.some.inj hx).symm
            | 1, _ => exact (Option.some.inj hx).symm
          subst ex
          have kx := del_sub k3
          obtain ⟨h1, h2, ok, jo, m1, m2⟩ := W.a i hi
          have h1' := kx _ _ (del_le _ _ h1)
          obtain ⟨xs, hxs, hix⟩ : ∃ xs, H4 (r i) = some (.lst xs) ∧ RddAll H4 xs ((rs i).map rd) := by
            cases (h2.mono del_le).mono kx with
            | lst h1 ra => exact ⟨_, h1, ra⟩
          refine ⟨rfl, _, rfl, ixAt (v := .int (n i : Nat)) h1' rfl ⟨_, rfl, ixAt (v := .ref (r i)) h1' rfl ⟨r i, xs, rfl, .inl (SqL.of hxs), fun tp htp => ⟨rfl, rfl, fun a dx ha hdx ne => ?_⟩⟩⟩⟩
          dsimp only [tNil]
          refine init_ok (by rfl) m1 m2 (.inl rfl) ok jo (.lst upd_same (hix.mono (upd_grow htp))) ha hdx ne fun H5 k5 T5 => ?_
          have k35 := (upd_grow (o := .lst xs) htp).trans k5
          exact hK rfl _ _ k35 ⟨a, rfl, T5.del (k35 _ _ hzs)⟩
        · intro ys H3 k3 h3 l3 r3
          rw [filt_all] at l3 r3
          have l3 : ys.length = 2 := l3
          obtain ⟨y0, y1, rfl⟩ : ∃ a b, ys = [a, b] := match ys, l3 with
            | [a, b], _ => ⟨a, b, rfl⟩
          obtain ⟨t0, rfl, f0⟩ := r3 0 0 y0 rfl rfl
          obtain ⟨t1, rfl, f1⟩ := r3 1 1 y1 rfl rfl
          refine rest _ _ ⟨D, fun i => if i = 0 then t0 else t1, del_sub k3, (ne_of_none hob2 hD).symm, h3, fun i hi => ?_, rfl⟩
          match i, hi with
          | 0, _ => exact f0.mono del_le
          | 1, _ => exact f1.mono del_le
    · refine ⟨_, rfl, by decide, by decide, ?_⟩
      refine for_it (walk_range (lo := 0) (n := 2)) (fun i σ H' => Same (del H p) (del (del H' wl) p) ∧ BoxAt H' p (131 * i) ∧ (∃ ws : List V, H' wl = some (.lst ws) ∧ ws.length = i ∧ ∀ x ∈ ws, WdE (del (del H' wl) p) x) ∧ ∃ a2 a3 : Option V, σ = [some (.ref p), some (.ref wl), a2, a3, none, none, none, none, none, none])
        ⟨d1, hp1, ⟨[], ht1, rfl, fun _ h => nomatch h⟩, none, none, rfl⟩ (fun _ _ _ _ _ => True.intro) ?_ ?_
      · rintro i x σ H0 H2 hi ⟨k2, hp2, ⟨ws, hws, lws, hW⟩, a2, a3, rfl⟩ ⟨rfl, rfl⟩
        have hi : i < 2 := hi
        dsimp only [gName]
        refine tSeq_by (fun σ H' => ∃ m : Nat, 1 ≤ m ∧ m ≤ 64 ∧ But p H2 H' ∧ BoxAt H' p (131 * i + 3) ∧ σ = [some (.ref p), some (.ref wl), some (.int ((0 : Int) + i)), some (.int m), none, none, none, none, none, none]) ?_ fun rest2 => ?_
        · rintro σ H4 ⟨m, m1, m2, k4, hp4, rfl⟩
          have hw4 := k4 _ _ nwl hws
          refine ⟨_, rfl, .inl ⟨rfl, _, SqL.of hw4⟩, _, rfl, _, rfl, _, rfl, p, m, _, rfl, hp4, m1, m2, by omega, fun rs q5 H5 ok jo k5 hp5 fq nq rr => ⟨two_ln (by show 2 ≤ _; decide), fun pw hpw => ?_⟩⟩
          have hw5 := k5 _ _ nwl hw4
          have k_pw := upd_grow (o := .lst [.int m, .ref q5]) hpw
          have h_pw := upd_same (H := H5) (a := pw) (o := .lst [.int m, .ref q5])
          generalize upd H5 pw (.lst [.int m, .ref q5]) = H6 at k_pw h_pw ⊢
          have hw6 := k_pw _ _ hw5
          obtain ⟨o5, ho5⟩ := hp5.some
          have nwp : pw ≠ p := (ne_of_none ho5 hpw).symm
          have nww : pw ≠ wl := (ne_of_none hw5 hpw).symm
          have nqw : q5 ≠ wl := fun e => by rw [e, hw4] at fq; cases fq
          have k26 := k4.trans (k5.trans (But.of k_pw))
          refine ⟨wl, ws, _, rfl, rfl, hw6, lt_ln (by omega), ?_⟩
          refine ⟨?_, ((hp5.same k_pw).eq (upd_ne nwl.symm)).up (by omega), ⟨ws ++ [.ref pw], upd_same, by rw [List.length_append, lws]; rfl, fun x hx => ?_⟩, _, _, rfl⟩
          · rw [del_upd_same]
            exact k2.trans (but_del2 k26)
          · rw [del_upd_same]
            rcases List.mem_append.mp hx with hx | hx
            · exact (hW x hx).mono (but_del2 k26)
            · rw [List.mem_singleton.mp hx]
              refine ⟨pw, q5, m, rs, rfl, by rw [del_ne nwp, del_ne nww]; exact h_pw, ?_, ok, jo, m1, m2⟩
              rw [del_comm]
              exact rds_del (by rw [del_ne nwl]; exact hw6) (rr.mono (del_mono k_pw)) nqw
        · refine ⟨_, rfl, p, 9, _, rfl, hp2, by omega, by decide, by decide, fun a H4 a0 a1 k4 hp4 e4 => ⟨_, _, rfl, rfl, _, rfl, p, 64, _, rfl, hp4, by omega, by decide, by decide, fun b H5 b0 b1 k5 hp5 e5 => ⟨_, _, rfl, rfl, two_ln (by show 6 ≤ _; decide), fun pl hpl => ?_⟩⟩⟩
          have k_pl := upd_grow (o := .lst [.int 3, .int 2, .int 1, .int (4 + a), .int (1 + b), .int 64]) hpl
          have h_pl := upd_same (H := H5) (a := pl) (o := .lst [.int 3, .int 2, .int 1, .int (4 + a), .int (1 + b), .int 64])
          generalize upd H5 pl (.lst [.int 3, .int 2, .int 1, .int (4 + a), .int (1 + b), .int 64]) = H6 at k_pl h_pl ⊢
          refine ⟨_, rfl, p, 6, _, rfl, hp5.same k_pl, by omega, by decide, by decide, fun d H7 d0 d1 k7 hp7 e7 => ?_⟩
          obtain ⟨o5, ho5⟩ := hp5.some
          have hl := k7 _ _ (ne_of_none ho5 hpl).symm h_pl
          have fin : ∀ m : Int, 1 ≤ m → m ≤ 64 → ∃ m' : Nat, 1 ≤ m' ∧ m' ≤ 64 ∧ But p H2 H7 ∧ BoxAt H7 p (131 * i + 3) ∧ [some (V.ref p), some (V.ref wl), some (V.int ((0 : Int) + i)), some (V.int m), none, none, none, none, none, none] = [some (V.ref p), some (V.ref wl), some (V.int ((0 : Int) + i)), some (V.int m'), none, none, none, none, none, none] := fun m h1 h2 =>
            ⟨m.toNat, by omega, by omega, k4.trans (k5.trans ((But.of k_pl).trans k7)), hp7.up (by omega), by rw [show ((m.toNat : Nat) : Int) = m by omega]⟩
          have six : d = 0 ∨ d = 1 ∨ d = 2 ∨ d = 3 ∨ d = 4 ∨ d = 5 := by omega
          rcases six with rfl | rfl | rfl | rfl | rfl | rfl
          · exact ixAt hl rfl (rest2 _ _ (fin 3 (by decide) (by decide)))
          · exact ixAt hl rfl (rest2 _ _ (fin 2 (by decide) (by decide)))
          · exact ixAt hl rfl (rest2 _ _ (fin 1 (by decide) (by decide)))
          · exact ixAt hl rfl (rest2 _ _ (fin (4 + a) (by omega) (by omega)))
          · exact ixAt hl rfl (rest2 _ _ (fin (1 + b) (by omega) (by omega)))
          · exact ixAt hl rfl (rest2 _ _ (fin 64 (by decide) (by decide)))
      · rintro σ H2 ⟨k2, hp2, ⟨ws, hws, lws, hW⟩, a2, a3, rfl⟩
        have lws : ws.length = 2 := lws
        obtain ⟨x0, x1, rfl⟩ : ∃ a b, ws = [a, b] := match ws, lws with
          | [a, b], _ => ⟨a, b, rfl⟩
        obtain ⟨w0, r0, n0, q0, rfl, f0⟩ := hW x0 (by simp)
        obtain ⟨w1, r1, n1, q1, rfl, f1⟩ := hW x1 (by simp)
        have le : Same (del (del H2 wl) p) (del H2 p) := del_mono del_le
        refine rest _ _ ⟨fun i => if i = 0 then w0 else w1, fun i => if i = 0 then r0 else r1, fun i => if i = 0 then n0 else n1, fun i => if i = 0 then q0 else q1, a2, a3, but_of k2, hp2, ⟨by rw [del_ne nwl]; exact hws, fun i hi => ?_⟩, rfl⟩
        match i, hi with
        | 0, _ => exact ⟨le _ _ f0.1, f0.2.1.mono le, f0.2.2⟩
        | 1, _ => exact ⟨le _ _ f1.1, f1.2.1.mono le, f1.2.2⟩
end
end K03

namespace K03
open PySem PySem.Spec PyProof.Rows L2 Tn TL
def spLaw (K : PySem.W.Frag) : Sp := fun vs H Q _ => ∃ (l : Addr) (ns : List Int), vs = [.ref l] ∧ SqL K H l (ns.map V.int) ∧ ∀ H', Q (.bl true) H'
theorem sql_same {K : PySem.W.Frag} {H H' : Hp} {l : Addr} {xs : List V} (h : SqL K H l xs) (k : Same H H') : SqL K H' l xs := by
  rcases h with h | h
  · exact .inl (h.imp (k _ _) fun ⟨o, z⟩ => ⟨o, k _ _ z⟩)
  · exact .inr h
section
variable {P : Program} {w : World} {K : PySem.W.Frag} {mg : Str → Option Value} {base : Heap} {f : Addr} {fd : FuncData}
theorem ok_law (F : Fd K "law" sLaw f fd) (B : Bl mg) (o_law_cell : Ok P w K mg base CX0 1 "_law_cell" sCell ["script", "k"] (spCell K)) (o_law_box : Ok P w K mg base CX0 1 "_law_box" sBox ["great"] spBox)
    (o_law_cell_right : OkG P w K mg base 9 "_law_cell_right" sLCellR ["box"] spCellR) : FnG P w K mg base 10 f fd ["script"] (spLaw K) := by
  refine F.okG scLaw (fun vs H Q E h => ?_) (fun cdv A outer s H vs Q hgd hr h => ?_)
  · obtain ⟨l, ns, rfl, _⟩ := h
    rfl
  · refine ⟨_, (pss_cons (ps_for (passes_of rfl) rfl (pi_range1 (by rfl) (B.u "range" (by decide +kernel)) (pa_cons (pe_callB (call_max2 rfl) (by rfl) (B.u "max" (by decide +kernel)) (by decide +kernel) (pa_cons pe_int (pa_cons (pe_callB (call_min2 rfl) (by rfl) (B.u "min" (by decide +kernel)) (by decide +kernel) (pa_cons pe_int (pa_cons (pe_callB call_len (by rfl) (B.u "len" (by decide +kernel)) boot_len (pa_cons (pv 0) pa_nil)) pa_nil))) pa_nil))) pa_nil)) (pg_name (i := 1) scLaw.nd rfl (Or.inl rfl))
        (pss_one (ps_if (pt_not (pt_val (pe_oG o_law_cell_right hgd (hr.mono (by decide)) (by rfl) (pa_cons (pe_o o_law_box (hr.mono (by decide)) (by rfl) (pa_cons (pe_o o_law_cell (hr.mono (by decide)) (by rfl) (pa_cons (pv 0) (pa_cons (pv 1) pa_nil))) pa_nil)) pa_nil))))
          (pss_one (ps_ret pe_bl))
          pss_nil)))
      (pss_one (ps_ret pe_bl))), ?_⟩
    obtain ⟨l, ns, rfl, hl, q⟩ := h
    refine ⟨_, rfl, _, _, rfl, .inl ⟨_, hl, rfl⟩, _, _, rfl, _, _, rfl, _, rfl, ?_⟩
    generalize hJ : (if (if ((List.map V.int ns).length : Int) < 3 then ((List.map V.int ns).length : Int) else 3) > 2 then (if ((List.map V.int ns).length : Int) < 3 then ((List.map V.int ns).length : Int) else 3) else (2 : Int)) = J
    have j0 : 2 ≤ J := by rw [← hJ]; split <;> omega
    have j1 : J ≤ 3 := by rw [← hJ]; split <;> (try split) <;> omega
    refine ⟨by omega, by omega, ?_⟩
    refine for_it (walk_range (lo := 0) (n := J.toNat)) (fun i σ H' => Same H H' ∧ ∃ a : Option V, σ = [some (.ref l), a]) ⟨Same.refl _, none, rfl⟩ (fun _ _ _ _ _ => True.intro) ?_ ?_
    · rintro i x σ H0 H1 hi ⟨k1, a, rfl⟩ ⟨rfl, rfl⟩
      refine ⟨_, rfl, _, rfl, l, ns, (0 : Int) + i, rfl, sql_same hl k1, by omega, by omega, fun n H2 k2 => ⟨n, rfl, fun p xs hp hb => ?_⟩⟩
      refine ⟨p, rfl, ⟨xs, upd_same, hb⟩, fun H3 k3 => ⟨true, rfl, iteF ⟨k1.trans (k2.trans (fresh_same hp k3)), _, rfl⟩⟩⟩
    · rintro σ H1 ⟨k1, a, rfl⟩
      exact q H1
end
end K03

/-! the law's call, its def one that is called where no repr is under way -/
namespace L2
open PySem PySem.Spec PyProof.Rows
/-- the script's object -/
def scriptO (vs : List Value) : Obj := { cls := .type "list", data := .seq vs.toArray }
/-- what is tracked at the call: at most the script, at a -/
structure Entry (P : Program) (w : World) (K : PySem.W.Frag) (a : Addr) (H : Hp) (h : Heap) : Prop where
  only : Only H
  ok : HOk P w H h
  at_ : ∀ b, H b ≠ none → b = a
  own : H a ≠ none → K.lookup a = none
section
variable {P : Program} {w : World} {K : PySem.W.Frag} {mg mb : Str → Option Value} {k : Nat} {fa a : Addr} {fd : FuncData} {x : Str}
variable {sp : Sp} {z : Shared} {vs : List Value} {ns : List Int} {H : Hp}
theorem Entry.free (e : Entry P w K a H z.heap) (ha : z.heap.get? a = some (scriptO vs)) {b : Addr} (hb : b ≠ a) : H b = none := by
  cases q : H b with
  | none => rfl
  | some u => exact absurd (e.at_ b (by rw [q]; exact fun y => nomatch y)) hb
theorem Entry.base (e : Entry P w K a H z.heap) (KX : K.In z.heap) : K.In (hidT z.heap H) := by
  intro b o h
  refine hidT_get (KX b o h) ?_
  cases q : H b with
  | none => rfl
  | some u =>
    have y : H b ≠ none := by
      rw [q]
      exact fun y => nomatch y
    have i := e.at_ b y
    subst i
    rw [e.own y] at h
    cases h
theorem Entry.keepNs (e : Entry P w K a H z.heap) (ha : z.heap.get? a = some (scriptO vs)) {b : Addr} {m : Str → Option Value} (n : z.heap.Ns b m) : (hidT z.heap H).Ns b m := by
  obtain ⟨o, es, ep, g, d, r⟩ := n
  refine ⟨o, es, ep, hidT_get g (e.free ha fun i => ?_), d, r⟩
  rw [i, ha] at g
  cases g
  cases d
theorem law_coreG (e : Entry P w K a H z.heap) (KX : K.In z.heap) (hns : z.heap.Ns mainGlobals mg) (hb : z.heap.Ns builtinsNs mb)
    (hbb : ∀ y : Str, y ≠ "__name__" → mb y = bootBuiltins y) (hlim : z.heap.NoLimit) (hg : z.gens = #[])
    (ha : z.heap.get? a = some (scriptO vs)) (hr : Room k callerA)
    (F : ∀ base : Heap, K.In base → base.Ns mainGlobals mg → FnG P w K mg base k fa fd [x] sp)
    (hbind : ∀ (s : Shared) (u : Value), BindsTo s fd ⟨[u], []⟩ [(x, u)])
    (hsp : sp [.ref a] H (fun v _ => v = .bl true) noE) :
    codeAny (model P w) callerA (.call (.ref fa) ⟨[.ref a], []⟩)
      (fun r t => r = .ok (.ret (.bool true)) ∧ OldK z.heap t.heap ∧ t.os = z.os ∧ AllBare t.gens) z := by
  have kb := e.base KX
  have main := e.keepNs ha hns
  obtain ⟨mc, c1, c2⟩ := hlim
  have env : Env0 P w K mg (hidT z.heap H) callerA [] z H := by
    refine ⟨rfl, ⟨kb, main, ⟨mb, e.keepNs ha hb, hbb⟩, ⟨mc, e.keepNs ha c1, c2⟩⟩, fun b o y => of_hidT y, ?_, trivial, (fun b y => nomatch y), e.ok, .of_eq hg⟩
    exact Nat.le_of_eq (hidT_size _ _)
  have run := (F _ kb main).run callerA [] z H ⟨[.ref a], []⟩ [.ref a] [.ref a] _ hr rfl env (hbind z (.ref a)) (.cons rfl .nil) hsp
  refine codeAny_mono run fun r t h => ?_
  rcases r with er | fl
  · exact h.elim
  · cases fl with
    | ret u =>
      obtain ⟨v, H2, os, bare, un, ok2, ru, rfl⟩ := h
      have eu : u = Value.bool true := ru
      refine ⟨by rw [eu], OldK.of_keep fun b o y => ?_, os, bare⟩
      by_cases i : H b = none
      · exact un.keep b o y i (fun m => nomatch m) fun m => nomatch m
      · rcases e.only b with j | ⟨ob, ys, j⟩
        · exact absurd j i
        · have o1 := (e.ok b _ j).1
          rw [o1] at y
          cases y
          exact (ok2 b _ (un.frzs b _ _ j)).1
    | next => exact h.elim
    | brk => exact h.elim
    | cont => exact h.elim
/-- the script as one that is tracked -/
def trackO (a : Addr) (vs : List Value) (ns : List Int) : Hp := upd (fun _ => none) a (.frz (scriptO vs) (.lst (ns.map V.int)))
theorem law_callG (KX : K.In z.heap) (hns : z.heap.Ns mainGlobals mg) (hb : z.heap.Ns builtinsNs mb)
    (hbb : ∀ y : Str, y ≠ "__name__" → mb y = bootBuiltins y) (hlim : z.heap.NoLimit) (hg : z.gens = #[])
    (ha : z.heap.get? a = some (scriptO vs)) (hi : IntsAre vs ns) (hl : ns.length ≤ sizeLine) (hr : Room k callerA)
    (F : ∀ base : Heap, K.In base → base.Ns mainGlobals mg → FnG P w K mg base k fa fd [x] sp)
    (hbind : ∀ (s : Shared) (u : Value), BindsTo s fd ⟨[u], []⟩ [(x, u)])
    (hsp : ∀ H : Hp, SqL K H a (ns.map V.int) → sp [.ref a] H (fun v _ => v = .bl true) noE) :
    codeAny (model P w) callerA (.call (.ref fa) ⟨[.ref a], []⟩)
      (fun r t => r = .ok (.ret (.bool true)) ∧ OldK z.heap t.heap ∧ t.os = z.os ∧ AllBare t.gens) z := by
  have rel := vals_ints hi
  cases q : K.lookup a with
  | some o =>
    have g := KX a o q
    rw [ha] at g
    cases g
    have e : Entry P w K a (fun _ => none) z.heap := ⟨fun _ => .inl rfl, (fun b u y => nomatch y), fun b y => absurd rfl y, fun y => absurd rfl y⟩
    refine law_coreG e KX hns hb hbb hlim hg ha hr F hbind (hsp _ (.inr ⟨_, vs.toArray, _, q, rfl, rfl, rfl, ?_, by simpa using rel⟩))
    rw [List.size_toArray, hi.length]
    exact hl
  | none =>
    have e : Entry P w K a (trackO a vs ns) z.heap := by
      refine Entry.mk (fun b => ?_) (fun b u y => ?_) (fun b y => ?_) fun _ => q
      · by_cases i : b = a
        · exact .inr ⟨_, _, by rw [i]; exact upd_same⟩
        · exact .inl (upd_ne i)
      · by_cases i : b = a
        · subst i
          have y2 : some (HO.frz (scriptO vs) (.lst (ns.map V.int))) = some u := upd_same.symm.trans y
          cases y2
          refine ⟨ha, ?_, vs, _, rel, ha⟩
          rw [List.length_map]
          exact hl
        · have y2 : (none : Option HO) = some u := (upd_ne i).symm.trans y
          cases y2
      · by_cases i : b = a
        · exact i
        · exact absurd (upd_ne i) y
    exact law_coreG e KX hns hb hbb hlim hg ha hr F hbind (hsp _ (.inl (.inr ⟨scriptO vs, upd_same⟩)))
end
/-- the end of a law whose def is called where no repr is under way -/
theorem walk_G {l : PySem.W.OpenLaw} {n k : Nat} {q : Program} {loose : List Str} {XP : (Str → Option Value) → Heap → Prop} {YP : World → Heap → Prop} {d : DefRec} {x : Str}
    (hn : l.most = some n) (hn2 : n ≤ sizeLine) (hdf : d.params.defaults = []) (hr : Room k callerA)
    (F : ∀ (w : World) (mg : Str → Option Value) (fa : Addr) (h : Heap), YP w h → h.Ns mainGlobals mg → mg d.name = some (.ref fa) →
      ∃ (K : PySem.W.Frag) (fd : FuncData) (sp : Sp), K.In h ∧ (∀ (s : Shared) (u : Value), BindsTo s fd ⟨[u], []⟩ [(x, u)]) ∧
        (∀ (H : Hp) (a : Addr) (ns : List Int), SqL K H a (ns.map V.int) → sp [.ref a] H (fun v _ => v = .bl true) noE) ∧
        ∀ base : Heap, K.In base → base.Ns mainGlobals mg → FnG l.prog w K mg base k fa fd [x] sp) :
    PySem.W.WalkO q loose XP YP l.row.toRowW d [] (fun f vs => PySem.call f vs) := by
  refine Att.attach_call hn hdf fun w s0 z mg mb fa o pm cd doc a vs ns G Y ho hd hcd hmg hobj hints hlen hg => ?_
  obtain ⟨K, fd, sp, KX, hb, hsp, hF⟩ := F w mg fa _ Y G.T.g hmg
  exact law_callG KX G.T.g G.T.b G.T.builtins G.T.nolimit hg hobj hints (Nat.le_trans hlen hn2) hr hF hb fun H => hsp H a ns
end L2

/-! a head's facts: a check of one's own, the classes of exceptions, sys -/
namespace Ml
open PySem PySem.Spec PyProof.Rows L2 He
/-- the written part: what the module's names reach in n steps, and sys.modules -/
def partG (g : Addr → Option Obj) (n : Nat) : PySem.W.Frag := frG g (sysModules :: asD g n)
def seeM (ck : PySem.W.Frag → Bool) (fa : List Fa) (fn : List DefD) (K : PySem.W.Frag) : AlD := ((obsD fa fn K).1 && ck K, (obsD fa fn K).2)
def hookM (n : Nat) (fa : List Fa) (fn : List DefD) (ck : PySem.W.Frag → Bool) : PySem.W.Hook where
  α := AlD
  obs := fun s => seeM ck fa fn (partG s.heap.get? n)
  val := fun _ => valD fn
  says := fun _ h => ∃ K : PySem.W.Frag, K.In h ∧ seeM ck fa fn K = valD fn
  of := fun _ _ e => ⟨_, frG_in, e⟩
  keeps := fun _ _ _ ⟨K, hK, c⟩ k => ⟨K, PySem.W.Frag.In.keeps hK k, c⟩
theorem see_eq {n : Nat} {fa : List Fa} {fn : List DefD} {ck : PySem.W.Frag → Bool} {g : Addr → Option Obj} {s : Shared} (h : ∀ a, g a = s.heap.get? a) : seeM ck fa fn (partG g n) = (hookM n fa fn ck).obs s := by
  have e : g = s.heap.get? := funext h
  rw [e] <;> rfl
theorem see_ok {ck : PySem.W.Frag → Bool} {fa : List Fa} {fn : List DefD} {K : PySem.W.Frag} (h : seeM ck fa fn K = valD fn) : SaysD fa fn K ∧ ck K = true := by
  have e1 : ((obsD fa fn K).1 && ck K) = true := congrArg (fun z : AlD => z.1) h
  have e2 : (obsD fa fn K).2 = fn.map DefD.val := congrArg (fun z : AlD => z.2) h
  obtain ⟨c1, c2⟩ := ba e1
  exact ⟨Prod.ext c1 e2, c2⟩
/-! ### a class of exceptions with an __init__ of its own -/
def oexB (K : PySem.W.Frag) (C : Addr) : Bool := match K.lookup C with
  | some ⟨.type "type", _, .cls cd, sl⟩ => (match cd.mro, sl.toList with
    | .ref C' :: bm, [_, _, _, _, some (.builtin n), _] => C' == C && (n == "ValueError.__new__" && (!cd.hasDel && (cd.hasDict && PySem.HandSPX.refsVE bm)))
    | _, _ => false)
  | _ => false
theorem oexB_ok {K : PySem.W.Frag} {C : Addr} (q : oexB K C = true) :
    ∃ nm qn N bs bm sn sub ab col dd k0 k1 k2 k3 k5, K.lookup C = some (excClassObj nm qn C N bs bm true sn sub ab col dd k0 k1 k2 k3 k5 "ValueError.__new__") ∧ PySem.HandSPX.refsVE bm = true := by
  unfold oexB at q
  split at q
  case h_2 => cases q
  rename_i dd cd sl ho
  split at q
  case h_2 => cases q
  rename_i C' bm k0 k1 k2 k3 n k5 hm hs
  obtain ⟨q1, q⟩ := ba q
  obtain ⟨q2, q⟩ := ba q
  obtain ⟨q3, q⟩ := ba q
  obtain ⟨q4, q5⟩ := ba q
  have e1 : C' = C := eq_of_beq q1
  have e2 : n = "ValueError.__new__" := eq_of_beq q2
  obtain ⟨nm, bs, mro, ns, qn, hd, sn, sub, ab, col, del⟩ := cd
  have e3 : del = false := by
    cases del with
    | false => rfl
    | true => cases q3
  have e4 : hd = true := q4
  have e5 : mro = .ref C' :: bm := hm
  subst e1 e2 e3 e4 e5
  have e6 : sl = #[k0, k1, k2, k3, some (.builtin "ValueError.__new__"), k5] := by
    obtain ⟨l⟩ := sl
    exact congrArg Array.mk hs
  subst e6
  exact ⟨nm, qn, ns, bs, bm, sn, sub, ab, col, dd, k0, k1, k2, k3, k5, ho, q5⟩
def bO (K : PySem.W.Frag) (C : Addr) (m : Str) (b : String) : Bool := decide (PySem.W.findIn K (.ref C) m = some (some (.builtin b)))
/-- all of it -/
def clsB (K : PySem.W.Frag) (C L : Addr) : Bool :=
  oexB K C && (bO K C "__setattr__" "object.__setattr__" && (decide (PySem.W.subIn K (.ref C) (.type "BaseException") = some true) && (decide (PySem.W.typeIn K (.ref C) = some (.type "type")) && (PySem.W.keepIn K (.ref C) &&
  (bO K C "__getattribute__" "BaseException.__getattribute__" && (decide (PySem.W.findIn K (.ref C) "__getattr__" = some none) && (PySem.W.hasDictIn K C && (bO K C "__class__" "object.__class__" && (decide (PySem.W.mroIn K C (.type "object") = some true) &&
  (decide (PySem.W.findIn K (.ref C) "__init__" = some (some (.ref (ma K C "__init__")))) && (decide (PySem.W.typeIn K (.ref (ma K C "__init__")) = some (.type "function")) && (decide (PySem.W.kitOne K (.ref C) (.ref L) = some true) &&
  (decide (PySem.W.kitOne K (.ref C) (.type "ValueError") = some true) && decide (PySem.W.exmOne K (.ref C) (.ref L) = some true))))))))))))))
/-- what all exceptions rest on -/
def gsB (K : PySem.W.Frag) : Bool := decide (PySem.W.specialIn K (.builtin "object.__class__") "__get__" = some (some (.builtin "getset_descriptor.__get__"))) && decide (PySem.W.takesIn K (.builtin "object.__class__") = some true)
structure ClsI (K : PySem.W.Frag) (C L : Addr) : Prop where
  T : OexC K C
  E : ExcC K C
  X : XfC K C
  iC : PySem.W.findIn K (.ref C) "__init__" = some (some (.ref (ma K C "__init__")))
  tI : PySem.W.typeIn K (.ref (ma K C "__init__")) = some (.type "function")
  lost : PySem.W.kitOne K (.ref C) (.ref L) = some true
  val : PySem.W.kitOne K (.ref C) (.type "ValueError") = some true
  exm : PySem.W.exmOne K (.ref C) (.ref L) = some true
theorem clsB_ok {K : PySem.W.Frag} {C L : Addr} (g : gsB K = true) (h : clsB K C L = true) : ClsI K C L := by
  obtain ⟨g1, g2⟩ := ba g
  obtain ⟨h1, h⟩ := ba h
  obtain ⟨h2, h⟩ := ba h
  obtain ⟨h3, h⟩ := ba h
  obtain ⟨h4, h⟩ := ba h
  obtain ⟨h5, h⟩ := ba h
  obtain ⟨h6, h⟩ := ba h
  obtain ⟨h7, h⟩ := ba h
  obtain ⟨h8, h⟩ := ba h
  obtain ⟨h9, h⟩ := ba h
  obtain ⟨h10, h⟩ := ba h
  obtain ⟨h11, h⟩ := ba h
  obtain ⟨h12, h⟩ := ba h
  obtain ⟨h13, h⟩ := ba h
  obtain ⟨h14, h15⟩ := ba h
  have e3 := of_decide_eq_true h3
  exact ⟨⟨oexB_ok h1, of_decide_eq_true h2, e3, of_decide_eq_true h4, h5⟩,
    ⟨of_decide_eq_true h6, of_decide_eq_true h7, e3, h8, of_decide_eq_true h9, of_decide_eq_true g1, of_decide_eq_true g2, of_decide_eq_true h10⟩,
    ⟨of_decide_eq_true h6, of_decide_eq_true h7, e3, h8⟩, of_decide_eq_true h11, of_decide_eq_true h12, of_decide_eq_true h13, of_decide_eq_true h14, of_decide_eq_true h15⟩
end Ml

namespace K03
open PySem PySem.Spec PyProof.Rows L2 Ml Tn TL
/-- the __init__ of the class at i -/
def ini (i : Nat) : Stmt := match top i with
  | .ClassDef _ _ _ (s :: _) _ _ _ _ _ _ _ => s
  | s => s
def dC (i : Nat) (x qual : Str) : He.DefD := ⟨(x, some "__init__"), "__init__", qual, defArgs (ini i), defBody (ini i), defScope (ini i), [], []⟩
def dM (k : Nat) (m qual : Str) : He.DefD := ⟨("Tree", some m), m, qual, defArgs (cdef 16 k), defBody (cdef 16 k), defScope (cdef 16 k), [], []⟩
def dF (i : Nat) (x : Str) : He.DefD := ⟨(x, none), x, x, defArgs (top i), defBody (top i), defScope (top i), [], []⟩
abbrev Fi (K : PySem.W.Frag) (i : Nat) (x qual : Str) (fd : FuncData) : Prop := FunD K "__init__" qual (defArgs (ini i)) (defBody (ini i)) (defScope (ini i)) [] [] (He.ma K (He.ga K x) "__init__") fd
section
variable {P : Program} {w : World} {K : PySem.W.Frag} {mg : Str → Option Value} {base : Heap} {fd : FuncData} {x f g qual : Str} {i : Nat}
theorem one_of {q1 q2 q3 q4 : Pos} (F : Fi K i x qual fd) (G : mg x = some (.ref (He.ga K x))) (B : ClsI K (He.ga K x) (He.ga K "LostError")) (no : PySem.W.findIn K (.ref (He.ga K x)) f = some none)
    (S : FnScope ["self", f] ["self", f] (defScope (ini i))) (hb : defBody (ini i) = iB1 f q1 q2 q3 q4) (pf : Plain f) (b1 : KBn K fd ["self", f] 2 [] (fun us _ => us) (fun vs _ => vs))
    (b2 : KBn K fd ["self", f] 1 [f] (fun us ws => us ++ ws) (fun vs zs => vs ++ zs)) : One P w K mg base x f :=
  ⟨G, B.T, B.iC, B.tI, fd, ok_init1 F S hb B.T no pf, b1, b2⟩
theorem oneH_of {q1 q2 q3 q4 : Pos} (F : Fi K i x qual fd) (G : mg x = some (.ref (He.ga K x))) (B : ClsI K (He.ga K x) (He.ga K "LostError")) (no : PySem.W.findIn K (.ref (He.ga K x)) f = some none)
    (S : FnScope ["self", f] ["self", f] (defScope (ini i))) (hb : defBody (ini i) = iB1 f q1 q2 q3 q4) (pf : Plain f) (b1 : Binds K fd ["self", f] []) : OneH P w K mg base x f :=
  ⟨G, B.T, B.iC, B.tI, fd, ok_init1H F S hb B.T no pf, b1⟩
theorem oH2 (F : Fi K 2 "InvalidText" "InvalidText.__init__" fd) (G : mg "InvalidText" = some (.ref (He.ga K "InvalidText"))) (B : ClsI K (He.ga K "InvalidText") (He.ga K "LostError")) (no : PySem.W.findIn K (.ref (He.ga K "InvalidText")) "given" = some none) : OneH P w K mg base "InvalidText" "given" :=
  oneH_of F G B no ⟨rfl, rfl, rfl, by decide +kernel, rfl, by decide +kernel, by decide +kernel⟩ rfl ⟨by decide, by decide⟩
    (F.bindsN fun _ _ _ _ _ _ us hl => match us, hl with | [_, _], _ => rfl)
theorem rel_rev {vs zs : List V} {us ws : List Value} (r : Vals vs us) (q : Vals zs ws) : Vals (vs ++ zs.reverse) (us ++ ws.reverse) := r.append q.rev
theorem o2 (F : Fi K 2 "InvalidText" "InvalidText.__init__" fd) (G : mg "InvalidText" = some (.ref (He.ga K "InvalidText"))) (B : ClsI K (He.ga K "InvalidText") (He.ga K "LostError")) (no : PySem.W.findIn K (.ref (He.ga K "InvalidText")) "given" = some none) : One P w K mg base "InvalidText" "given" :=
  one_of F G B no ⟨rfl, rfl, rfl, by decide +kernel, rfl, by decide +kernel, by decide +kernel⟩ rfl ⟨by decide, by decide⟩
    (F.kbn0 2 [] (fun us _ => us) (fun r _ => r) fun _ _ _ _ _ _ us ws l1 l2 => match us, ws, l1, l2 with | [_, _], [], _, _ => rfl)
    (F.kbn0 1 ["given"] (fun us ws => us ++ ws) rel_app fun _ _ _ _ _ _ us ws l1 l2 => match us, ws, l1, l2 with | [_], [_], _, _ => rfl)
theorem o3 (F : Fi K 3 "InvalidHouses" "InvalidHouses.__init__" fd) (G : mg "InvalidHouses" = some (.ref (He.ga K "InvalidHouses"))) (B : ClsI K (He.ga K "InvalidHouses") (He.ga K "LostError")) (no : PySem.W.findIn K (.ref (He.ga K "InvalidHouses")) "given" = some none) : One P w K mg base "InvalidHouses" "given" :=
  one_of F G B no ⟨rfl, rfl, rfl, by decide +kernel, rfl, by decide +kernel, by decide +kernel⟩ rfl ⟨by decide, by decide⟩
    (F.kbn0 2 [] (fun us _ => us) (fun r _ => r) fun _ _ _ _ _ _ us ws l1 l2 => match us, ws, l1, l2 with | [_, _], [], _, _ => rfl)
    (F.kbn0 1 ["given"] (fun us ws => us ++ ws) rel_app fun _ _ _ _ _ _ us ws l1 l2 => match us, ws, l1, l2 with | [_], [_], _, _ => rfl)
theorem o4 (F : Fi K 4 "InvalidRoads" "InvalidRoads.__init__" fd) (G : mg "InvalidRoads" = some (.ref (He.ga K "InvalidRoads"))) (B : ClsI K (He.ga K "InvalidRoads") (He.ga K "LostError")) (no : PySem.W.findIn K (.ref (He.ga K "InvalidRoads")) "given" = some none) : One P w K mg base "InvalidRoads" "given" :=
  one_of F G B no ⟨rfl, rfl, rfl, by decide +kernel, rfl, by decide +kernel, by decide +kernel⟩ rfl ⟨by decide, by decide⟩
    (F.kbn0 2 [] (fun us _ => us) (fun r _ => r) fun _ _ _ _ _ _ us ws l1 l2 => match us, ws, l1, l2 with | [_, _], [], _, _ => rfl)
    (F.kbn0 1 ["given"] (fun us ws => us ++ ws) rel_app fun _ _ _ _ _ _ us ws l1 l2 => match us, ws, l1, l2 with | [_], [_], _, _ => rfl)
theorem o5 (F : Fi K 5 "NotJoined" "NotJoined.__init__" fd) (G : mg "NotJoined" = some (.ref (He.ga K "NotJoined"))) (B : ClsI K (He.ga K "NotJoined") (He.ga K "LostError")) (no : PySem.W.findIn K (.ref (He.ga K "NotJoined")) "house" = some none) : One P w K mg base "NotJoined" "house" :=
  one_of F G B no ⟨rfl, rfl, rfl, by decide +kernel, rfl, by decide +kernel, by decide +kernel⟩ rfl ⟨by decide, by decide⟩
    (F.kbn0 2 [] (fun us _ => us) (fun r _ => r) fun _ _ _ _ _ _ us ws l1 l2 => match us, ws, l1, l2 with | [_, _], [], _, _ => rfl)
    (F.kbn0 1 ["house"] (fun us ws => us ++ ws) rel_app fun _ _ _ _ _ _ us ws l1 l2 => match us, ws, l1, l2 with | [_], [_], _, _ => rfl)
end
def fnA : List He.DefD := [dC 2 "InvalidText" "InvalidText.__init__", dC 3 "InvalidHouses" "InvalidHouses.__init__", dC 4 "InvalidRoads" "InvalidRoads.__init__", dC 5 "NotJoined" "NotJoined.__init__", dM 0 "__init__" "Tree.__init__", dM 1 "__len__" "Tree.__len__", dM 2 "__contains__" "Tree.__contains__", dM 3 "__eq__" "Tree.__eq__", dM 4 "line" "Tree.line", dF 7 "is_int", dF 8 "is_below", dF 9 "is_list", dF 10 "is_tuple", dF 11 "is_number", dF 12 "is_ascending", dF 17 "are_roads"]
def fnB : List He.DefD := [dF 18 "houses_near", dF 19 "houses_from", dF 20 "read_tree", dF 21 "road_of", dF 23 "_law_cell", dF 24 "_law_box", dF 25 "_law_take", dF 26 "_law_roads", dF 27 "_law_written", dF 28 "_law_number", dF 29 "_law_joined", dF 30 "_law_read", dF 31 "_law_spoilt_sign", dF 32 "_law_spoilt_word", dF 33 "_law_other_road", dF 34 "_law_asked_right"]
def fnC : List He.DefD := [dF 35 "_law_world_right", dF 36 "_law_cell_right", dF 37 "law"]
def fn : List He.DefD := fnA ++ (fnB ++ fnC)
def globA : List Str := ["LostError", "InvalidText", "InvalidHouses", "InvalidRoads", "NotJoined", "Tree", "is_int", "is_below", "is_list", "is_tuple", "is_number", "is_ascending", "are_roads", "houses_near", "houses_from", "read_tree"]
def globB : List Str := ["road_of", "_law_cell", "_law_box", "_law_take", "_law_roads", "_law_written", "_law_number", "_law_joined", "_law_read", "_law_spoilt_sign", "_law_spoilt_word", "_law_other_road", "_law_asked_right", "_law_world_right", "_law_cell_right", "law"]
def globC : List Str := []
def glob : List Str := globA ++ (globB ++ globC)
def free : List Str := bnames
def fa : List He.Fa := .int "MOST_HOUSES" 64 :: .int "FIGURES" 2 :: (glob.map He.Fa.glo ++ free.map He.Fa.free)
def errs : List Str := ["InvalidText", "InvalidHouses", "InvalidRoads", "NotJoined"]
abbrev kinds : List String := ["str", "list"]
def noat : List (Str × Str) := [("InvalidText", "given"), ("InvalidHouses", "given"), ("InvalidRoads", "given"), ("NotJoined", "house"), ("Tree", "houses"), ("Tree", "roads"), ("Tree", "near")]
def exlo : List Str := ["InvalidHouses", "InvalidRoads", "NotJoined"]
def meths : List Str := ["__contains__", "__len__", "__eq__", "__init__", "line"]
/-- the class Tree -/
def treeA (K : PySem.W.Frag) : Bool := PySem.W.plainGet K (CT K) Str.empty && (PySem.W.hasDictIn K (CT K) && (PySem.W.plainOver K (CT K) && (bO K (CT K) "__setattr__" "object.__setattr__" && (PySem.W.makesIn K (CT K) && PySem.W.keepIn K (.ref (CT K))))))
def treeB (K : PySem.W.Frag) : Bool := meths.all (fun m => decide (PySem.W.findIn K (.ref (CT K)) m = some (some (.ref (MT K m)))) && PySem.W.isFn K (.ref (MT K m))) && (bO K (CT K) "__ne__" "object.__ne__" && (decide (PySem.W.subIn K (.ref (CT K)) (.type "object") = some true) &&
  (decide (PySem.W.kitOne K (.ref (CT K)) (.ref (CT K)) = some true) && (tys.all (fun t => decide (PySem.W.kitOne K (.type t) (.ref (CT K)) = some false) && PySem.W.notFirst K (CT K) (.type t)) && (bO K (CT K) "__class__" "object.__class__" &&
  (decide (PySem.W.specialIn K (.builtin "object.__class__") "__get__" = some (some (.builtin "getset_descriptor.__get__"))) && (decide (PySem.W.takesIn K (.builtin "object.__class__") = some true) && decide (PySem.W.mroIn K (CT K) (.type "object") = some true))))))))
/-- what else the head is asked -/
def ck (K : PySem.W.Frag) : Bool := gsB K && (errs.all (fun x => clsB K (He.ga K x) (He.ga K "LostError")) && (noat.all (fun x => decide (PySem.W.findIn K (.ref (He.ga K x.1)) x.2 = some none)) &&
  (errs.all (fun x => decide (PySem.W.exmOne K (.ref (He.ga K x)) (.ref (He.ga K x)) = some true)) && (exlo.all (fun x => decide (PySem.W.exmOne K (.ref (He.ga K x)) (.ref (He.ga K "LostError")) = some true)) &&
  (tys.all (fun t => kinds.all fun u => decide (PySem.W.kitOne K (.type t) (.type u) = some (decide (t = u)))) &&
  (PySem.W.keepIn K (.ref (MT K "line")) && (treeA K && (treeB K && (K.lookup sysModules).isSome))))))))
theorem fact_of {fa : List He.Fa} {fn : List He.DefD} {K : PySem.W.Frag} (c : He.SaysD fa fn K) {f : He.Fa} (h : f ∈ fa) : f.ok K = true := by
  obtain ⟨i, e⟩ := List.mem_iff_getElem?.mp h
  exact c.fact i e
section
variable {P : Program} {w : World} {K : PySem.W.Frag} {h : Heap} {mg : Str → Option Value}
theorem tree_ok (a : treeA K = true) (b : treeB K = true) (n : ∀ x ∈ noat, PySem.W.findIn K (.ref (He.ga K x.1)) x.2 = some none) (g : mg "Tree" = some (.ref (CT K))) : TreeK K mg := by
  obtain ⟨a1, a⟩ := He.ba a
  obtain ⟨a2, a⟩ := He.ba a
  obtain ⟨a3, a⟩ := He.ba a
  obtain ⟨a4, a⟩ := He.ba a
  obtain ⟨a5, a6⟩ := He.ba a
  obtain ⟨b1, b⟩ := He.ba b
  obtain ⟨b2, b⟩ := He.ba b
  obtain ⟨b3, b⟩ := He.ba b
  obtain ⟨b4, b⟩ := He.ba b
  obtain ⟨b5, b⟩ := He.ba b
  obtain ⟨b6, b⟩ := He.ba b
  obtain ⟨b7, b⟩ := He.ba b
  obtain ⟨b8, b9⟩ := He.ba b
  have M : ∀ {m : Str}, m ∈ meths → PySem.W.findIn K (.ref (CT K)) m = some (some (.ref (MT K m))) ∧ PySem.W.isFn K (.ref (MT K m)) = true := fun hm =>
    have z := He.ba (List.all_eq_true.mp b1 _ hm)
    ⟨of_decide_eq_true z.1, z.2⟩
  have m1 := M (m := "__contains__") (by decide +kernel)
  have m2 := M (m := "__len__") (by decide +kernel)
  have m3 := M (m := "__eq__") (by decide +kernel)
  have m4 := M (m := "__init__") (by decide +kernel)
  exact ⟨g, ⟨a1, a2, a3, of_decide_eq_true a4⟩, n ("Tree", "houses") (by decide +kernel), n ("Tree", "roads") (by decide +kernel), n ("Tree", "near") (by decide +kernel), ⟨a5, m4.1, m4.2, a6⟩, m1.1, m1.2, m2.1, m2.2, m3.1, m3.2, of_decide_eq_true b2, of_decide_eq_true b3, of_decide_eq_true b4,
    fun t ht => ⟨of_decide_eq_true (He.ba (List.all_eq_true.mp b5 _ ht)).1, (He.ba (List.all_eq_true.mp b5 _ ht)).2⟩, of_decide_eq_true b6, of_decide_eq_true b7, of_decide_eq_true b8, of_decide_eq_true b9⟩
theorem line_ok (a : PySem.W.keepIn K (.ref (MT K "line")) = true) (b : treeB K = true) : Meth K (CT K) "line" (MT K "line") := by
  obtain ⟨b1, _⟩ := He.ba b
  have z := He.ba (List.all_eq_true.mp b1 "line" (by decide +kernel))
  exact ⟨of_decide_eq_true z.1, z.2, a⟩
theorem facts {f : Addr} (X : K.In h) (G : h.Ns mainGlobals mg) (hfa : mg ("law" : Str) = some (.ref f)) (c : He.SaysD fa fn K) (k : ck K = true) :
    ∃ fd : FuncData, (∀ (s : Shared) (v : Value), BindsTo s fd ⟨[v], []⟩ [("script", v)]) ∧ ∀ base : Heap, K.In base → base.Ns mainGlobals mg → FnG P w K mg base 10 f fd ["script"] (spLaw K) := by
  obtain ⟨k1, k⟩ := He.ba k
  obtain ⟨k2, k⟩ := He.ba k
  obtain ⟨k3, k⟩ := He.ba k
  obtain ⟨k4, k⟩ := He.ba k
  obtain ⟨k5, k⟩ := He.ba k
  obtain ⟨k6, k⟩ := He.ba k
  obtain ⟨k7, k⟩ := He.ba k
  obtain ⟨k8, k⟩ := He.ba k
  obtain ⟨k9, k10⟩ := He.ba k
  have D : ∀ {x : Str}, x ∈ glob → mg x = some (.ref (He.ga K x)) := fun hx => He.glo_ok X G (fact_of c (List.mem_cons_of_mem _ (List.mem_cons_of_mem _ (List.mem_append_left _ (List.mem_map_of_mem hx)))))
  have U : ∀ x : Str, x ∈ bnames → mg x = none := fun x hx => He.free_ok X G (fact_of c (List.mem_cons_of_mem _ (List.mem_cons_of_mem _ (List.mem_append_right _ (List.mem_map_of_mem hx)))))
  have Bc : ∀ {x : Str}, x ∈ errs → ClsI K (He.ga K x) (He.ga K "LostError") := fun hx => clsB_ok k1 (List.all_eq_true.mp k2 _ hx)
  have N : ∀ x ∈ noat, PySem.W.findIn K (.ref (He.ga K x.1)) x.2 = some none := fun x hx => of_decide_eq_true (List.all_eq_true.mp k3 _ hx)
  have M : ∀ {x : Str}, x ∈ errs → PySem.W.exmOne K (.ref (He.ga K x)) (.ref (He.ga K x)) = some true := fun hx => of_decide_eq_true (List.all_eq_true.mp k4 _ hx)
  have XN : ∀ x ∈ exlo, PySem.W.exmOne K (.ref (He.ga K x)) (.ref (He.ga K "LostError")) = some true := fun x hx => of_decide_eq_true (List.all_eq_true.mp k5 _ hx)
  have T : KitK K := ⟨fun t ht u hu => of_decide_eq_true (List.all_eq_true.mp (List.all_eq_true.mp k6 _ ht) _ hu)⟩
  have hsy : ∃ o, K.lookup sysModules = some o := Option.isSome_iff_exists.mp k10
  have B : Bl mg := ⟨U⟩
  have C : TreeK K mg := tree_ok k8 k9 N (D (by decide +kernel))
  have hM := He.int_ok X G (c.fact 0 (f := .int "MOST_HOUSES" 64) rfl)
  have hF := He.int_ok X G (c.fact 1 (f := .int "FIGURES" 2) rfl)
  have mL : Meth K (CT K) "line" (MT K "line") := line_ok k7 k9
  have E2 : ErrK K mg "InvalidText" := ⟨D (by decide +kernel), M (by decide +kernel), (Bc (x := "InvalidText") (by decide +kernel)).X⟩
  have E3 : ErrK K mg "InvalidHouses" := ⟨D (by decide +kernel), M (by decide +kernel), (Bc (x := "InvalidHouses") (by decide +kernel)).X⟩
  have E4 : ErrK K mg "InvalidRoads" := ⟨D (by decide +kernel), M (by decide +kernel), (Bc (x := "InvalidRoads") (by decide +kernel)).X⟩
  have E5 : ErrK K mg "NotJoined" := ⟨D (by decide +kernel), M (by decide +kernel), (Bc (x := "NotJoined") (by decide +kernel)).X⟩
  obtain ⟨dI2, FI2⟩ := c.def_ 0 (d := dC 2 "InvalidText" "InvalidText.__init__") rfl
  obtain ⟨dI3, FI3⟩ := c.def_ 1 (d := dC 3 "InvalidHouses" "InvalidHouses.__init__") rfl
  obtain ⟨dI4, FI4⟩ := c.def_ 2 (d := dC 4 "InvalidRoads" "InvalidRoads.__init__") rfl
  obtain ⟨dI5, FI5⟩ := c.def_ 3 (d := dC 5 "NotJoined" "NotJoined.__init__") rfl
  obtain ⟨dM0, (FM0 : Md K "__init__" "Tree.__init__" (cdef 16 0) (MT K "__init__") dM0)⟩ := c.def_ 4 (d := dM 0 "__init__" "Tree.__init__") rfl
  obtain ⟨dM1, (FM1 : Md K "__len__" "Tree.__len__" (cdef 16 1) (MT K "__len__") dM1)⟩ := c.def_ 5 (d := dM 1 "__len__" "Tree.__len__") rfl
  obtain ⟨dM2, (FM2 : Md K "__contains__" "Tree.__contains__" (cdef 16 2) (MT K "__contains__") dM2)⟩ := c.def_ 6 (d := dM 2 "__contains__" "Tree.__contains__") rfl
  obtain ⟨dM3, (FM3 : Md K "__eq__" "Tree.__eq__" (cdef 16 3) (MT K "__eq__") dM3)⟩ := c.def_ 7 (d := dM 3 "__eq__" "Tree.__eq__") rfl
  obtain ⟨dM4, (FM4 : Md K "line" "Tree.line" (cdef 16 4) (MT K "line") dM4)⟩ := c.def_ 8 (d := dM 4 "line" "Tree.line") rfl
  obtain ⟨d7, (F7 : Fd K "is_int" (top 7) (He.ga K "is_int") d7)⟩ := c.def_ 9 (d := dF 7 "is_int") rfl
  have g7 : mg "is_int" = some (.ref (He.ga K "is_int")) := D (by decide +kernel)
  obtain ⟨d8, (F8 : Fd K "is_below" (top 8) (He.ga K "is_below") d8)⟩ := c.def_ 10 (d := dF 8 "is_below") rfl
  have g8 : mg "is_below" = some (.ref (He.ga K "is_below")) := D (by decide +kernel)
  obtain ⟨d9, (F9 : Fd K "is_list" (top 9) (He.ga K "is_list") d9)⟩ := c.def_ 11 (d := dF 9 "is_list") rfl
  have g9 : mg "is_list" = some (.ref (He.ga K "is_list")) := D (by decide +kernel)
  obtain ⟨d10, (F10 : Fd K "is_tuple" (top 10) (He.ga K "is_tuple") d10)⟩ := c.def_ 12 (d := dF 10 "is_tuple") rfl
  have g10 : mg "is_tuple" = some (.ref (He.ga K "is_tuple")) := D (by decide +kernel)
  obtain ⟨d11, (F11 : Fd K "is_number" (top 11) (He.ga K "is_number") d11)⟩ := c.def_ 13 (d := dF 11 "is_number") rfl
  have g11 : mg "is_number" = some (.ref (He.ga K "is_number")) := D (by decide +kernel)
  obtain ⟨d12, (F12 : Fd K "is_ascending" (top 12) (He.ga K "is_ascending") d12)⟩ := c.def_ 14 (d := dF 12 "is_ascending") rfl
  have g12 : mg "is_ascending" = some (.ref (He.ga K "is_ascending")) := D (by decide +kernel)
  obtain ⟨d17, (F17 : Fd K "are_roads" (top 17) (He.ga K "are_roads") d17)⟩ := c.def_ 15 (d := dF 17 "are_roads") rfl
  have g17 : mg "are_roads" = some (.ref (He.ga K "are_roads")) := D (by decide +kernel)
  obtain ⟨d18, (F18 : Fd K "houses_near" (top 18) (He.ga K "houses_near") d18)⟩ := c.def_ 16 (d := dF 18 "houses_near") rfl
  have g18 : mg "houses_near" = some (.ref (He.ga K "houses_near")) := D (by decide +kernel)
  obtain ⟨d19, (F19 : Fd K "houses_from" (top 19) (He.ga K "houses_from") d19)⟩ := c.def_ 17 (d := dF 19 "houses_from") rfl
  have g19 : mg "houses_from" = some (.ref (He.ga K "houses_from")) := D (by decide +kernel)
  obtain ⟨d20, (F20 : Fd K "read_tree" (top 20) (He.ga K "read_tree") d20)⟩ := c.def_ 18 (d := dF 20 "read_tree") rfl
  have g20 : mg "read_tree" = some (.ref (He.ga K "read_tree")) := D (by decide +kernel)
  obtain ⟨d21, (F21 : Fd K "road_of" (top 21) (He.ga K "road_of") d21)⟩ := c.def_ 19 (d := dF 21 "road_of") rfl
  have g21 : mg "road_of" = some (.ref (He.ga K "road_of")) := D (by decide +kernel)
  obtain ⟨d23, (F23 : Fd K "_law_cell" (top 23) (He.ga K "_law_cell") d23)⟩ := c.def_ 20 (d := dF 23 "_law_cell") rfl
  have g23 : mg "_law_cell" = some (.ref (He.ga K "_law_cell")) := D (by decide +kernel)
  obtain ⟨d24, (F24 : Fd K "_law_box" (top 24) (He.ga K "_law_box") d24)⟩ := c.def_ 21 (d := dF 24 "_law_box") rfl
  have g24 : mg "_law_box" = some (.ref (He.ga K "_law_box")) := D (by decide +kernel)
  obtain ⟨d25, (F25 : Fd K "_law_take" (top 25) (He.ga K "_law_take") d25)⟩ := c.def_ 22 (d := dF 25 "_law_take") rfl
  have g25 : mg "_law_take" = some (.ref (He.ga K "_law_take")) := D (by decide +kernel)
  obtain ⟨d26, (F26 : Fd K "_law_roads" (top 26) (He.ga K "_law_roads") d26)⟩ := c.def_ 23 (d := dF 26 "_law_roads") rfl
  have g26 : mg "_law_roads" = some (.ref (He.ga K "_law_roads")) := D (by decide +kernel)
  obtain ⟨d27, (F27 : Fd K "_law_written" (top 27) (He.ga K "_law_written") d27)⟩ := c.def_ 24 (d := dF 27 "_law_written") rfl
  have g27 : mg "_law_written" = some (.ref (He.ga K "_law_written")) := D (by decide +kernel)
  obtain ⟨d28, (F28 : Fd K "_law_number" (top 28) (He.ga K "_law_number") d28)⟩ := c.def_ 25 (d := dF 28 "_law_number") rfl
  have g28 : mg "_law_number" = some (.ref (He.ga K "_law_number")) := D (by decide +kernel)
  obtain ⟨d29, (F29 : Fd K "_law_joined" (top 29) (He.ga K "_law_joined") d29)⟩ := c.def_ 26 (d := dF 29 "_law_joined") rfl
  have g29 : mg "_law_joined" = some (.ref (He.ga K "_law_joined")) := D (by decide +kernel)
  obtain ⟨d30, (F30 : Fd K "_law_read" (top 30) (He.ga K "_law_read") d30)⟩ := c.def_ 27 (d := dF 30 "_law_read") rfl
  have g30 : mg "_law_read" = some (.ref (He.ga K "_law_read")) := D (by decide +kernel)
  obtain ⟨d31, (F31 : Fd K "_law_spoilt_sign" (top 31) (He.ga K "_law_spoilt_sign") d31)⟩ := c.def_ 28 (d := dF 31 "_law_spoilt_sign") rfl
  have g31 : mg "_law_spoilt_sign" = some (.ref (He.ga K "_law_spoilt_sign")) := D (by decide +kernel)
  obtain ⟨d32, (F32 : Fd K "_law_spoilt_word" (top 32) (He.ga K "_law_spoilt_word") d32)⟩ := c.def_ 29 (d := dF 32 "_law_spoilt_word") rfl
  have g32 : mg "_law_spoilt_word" = some (.ref (He.ga K "_law_spoilt_word")) := D (by decide +kernel)
  obtain ⟨d33, (F33 : Fd K "_law_other_road" (top 33) (He.ga K "_law_other_road") d33)⟩ := c.def_ 30 (d := dF 33 "_law_other_road") rfl
  have g33 : mg "_law_other_road" = some (.ref (He.ga K "_law_other_road")) := D (by decide +kernel)
  obtain ⟨d34, (F34 : Fd K "_law_asked_right" (top 34) (He.ga K "_law_asked_right") d34)⟩ := c.def_ 31 (d := dF 34 "_law_asked_right") rfl
  have g34 : mg "_law_asked_right" = some (.ref (He.ga K "_law_asked_right")) := D (by decide +kernel)
  obtain ⟨d35, (F35 : Fd K "_law_world_right" (top 35) (He.ga K "_law_world_right") d35)⟩ := c.def_ 32 (d := dF 35 "_law_world_right") rfl
  have g35 : mg "_law_world_right" = some (.ref (He.ga K "_law_world_right")) := D (by decide +kernel)
  obtain ⟨d36, (F36 : Fd K "_law_cell_right" (top 36) (He.ga K "_law_cell_right") d36)⟩ := c.def_ 33 (d := dF 36 "_law_cell_right") rfl
  have g36 : mg "_law_cell_right" = some (.ref (He.ga K "_law_cell_right")) := D (by decide +kernel)
  obtain ⟨d37, (F37 : Fd K "law" (top 37) (He.ga K "law") d37)⟩ := c.def_ 34 (d := dF 37 "law") rfl
  have g37 : mg "law" = some (.ref (He.ga K "law")) := D (by decide +kernel)
  have e := hfa.symm.trans g37
  cases e
  have b := FunD.bindsA (ps := ["script"]) F37 fun _ _ _ _ _ _ us hl => match us, hl with | [_], _ => rfl
  refine ⟨d37, fun s v => b s [v] rfl, fun base _ _ => ?_⟩
  have O2 : One P w K mg base "InvalidText" "given" := o2 FI2 (D (by decide +kernel)) (Bc (by decide +kernel)) (N ("InvalidText", "given") (by decide +kernel))
  have O3 : One P w K mg base "InvalidHouses" "given" := o3 FI3 (D (by decide +kernel)) (Bc (by decide +kernel)) (N ("InvalidHouses", "given") (by decide +kernel))
  have O4 : One P w K mg base "InvalidRoads" "given" := o4 FI4 (D (by decide +kernel)) (Bc (by decide +kernel)) (N ("InvalidRoads", "given") (by decide +kernel))
  have O5 : One P w K mg base "NotJoined" "house" := o5 FI5 (D (by decide +kernel)) (Bc (by decide +kernel)) (N ("NotJoined", "house") (by decide +kernel))
  have OH := oH2 (P := P) (w := w) (base := base) FI2 (D (by decide +kernel)) (Bc (by decide +kernel)) (N ("InvalidText", "given") (by decide +kernel))
  have p7 := ok_is_int (P := P) (w := w) (base := base) F7 g7 B
  have p8 := ok_is_below (P := P) (w := w) (base := base) F8 g8 B
  have p9 := ok_is_list (P := P) (w := w) (base := base) F9 g9 B
  have p10 := ok_is_tuple (P := P) (w := w) (base := base) F10 g10 B
  have p11 := ok_is_number (P := P) (w := w) (base := base) F11 g11 B
  have p12 := ok_is_ascending (P := P) (w := w) (base := base) F12 g12 B
  have p17 := ok_are_roads F17 g17 B p9 p10 p8 p12
  have p18 := ok_houses_near (P := P) (w := w) (base := base) F18 g18 B
  have p19 := ok_houses_from (P := P) (w := w) (base := base) F19 g19 B
  have pI := ok_init FM0 C B hM O3 O4 O5 p7 p17 p18 p19
  have pE := ok_eq (P := P) (w := w) (base := base) FM3 C B
  have pL := ok_line (P := P) (w := w) (base := base) FM4 C B
  have p21 := ok_road_of F21 g21 B hF p11
  have p20 := ok_read_tree F20 g20 B C FM0 mL hF (D (by decide +kernel)) O2 OH (fun x hx => XN x hx) pI p11 p21 pL
  have p23 := ok_cell (P := P) (w := w) (base := base) F23 g23 B
  have p24 := ok_box (P := P) (w := w) (base := base) F24 g24 B
  have p25 := (ok_take (P := P) (w := w) (base := base) F25 g25 B).imp (fun _ _ _ _ => take_draw)
  have p26 := ok_roads F26 g26 B p25
  have p27 := ok_written (P := P) (w := w) (base := base) F27 g27 B
  have p28 := ok_lnumber (P := P) (w := w) (base := base) F28 g28 B
  have p29 := ok_ljoined (P := P) (w := w) (base := base) F29 g29 B
  have p30 := ok_lread F30 g30 B T p28 p29
  have p31 := ok_sps F31 g31 B p25
  have p32 := ok_spw F32 g32 B p25
  have p33 := ok_other F33 g33 B p25
  have p34 := ok_asked F34 g34 B T C hsy mL pL E2 (N ("InvalidText", "given") (by decide +kernel)) p30 p20
  have p35 := ok_world F35 g35 B C FM0 pI pE mL pL p25 p27 p20 p33 p31 p32 p34
  have p36 := ok_cellr F36 g36 B C FM0 pI mL pL p25 p26 p27 p35 p34
  exact ok_law F37 B p23 p24 p36
end
end K03

namespace K03
open PySem PySem.Spec PyProof.Rows L2 Ml Tn TL
abbrev R : PySem.W.OpenRow := PySem.W.OpenLaw.row PySem.Challenge.rw_maplost_k03_tree_lines
abbrev hk : PySem.W.Hook := hookM 4 fa fn ck
def ob (s : PySem.W.SharedT) : He.AlD := seeM ck fa fn (partG (HandSHeadRun.getT s) 4)
theorem ob_eq (s : PySem.W.SharedT) : ob s = hk.obs s.abs := see_eq (HandSHeadRun.getT_eq s)
def looseA : List Str := ["_wall", "LostError", "InvalidText", "InvalidHouses", "InvalidRoads", "NotJoined", "MOST_HOUSES", "FIGURES", "Tree", "is_int", "is_below", "is_list", "is_tuple", "is_number", "is_ascending", "are_roads"]
def looseB : List Str := ["houses_near", "houses_from", "read_tree", "road_of", "_law_cell", "_law_box", "_law_take", "_law_roads", "_law_written", "_law_number", "_law_joined", "_law_read", "_law_spoilt_sign", "_law_spoilt_word", "_law_other_road", "_law_asked_right"]
def looseC : List Str := ["_law_world_right", "_law_cell_right"]
abbrev looseN : List Str := looseA ++ (looseB ++ looseC)
theorem run (w : World) : HandSHeadRun.RunEq R (PySem.W.view R.prog [37]) hk ob 20000 looseN w := by
  intro os
  kernel_rfl
end K03

open PySem PySem.W PySem.Calls PyProof.Rows
theorem PySem.Challenge.cw_maplost_k03_tree_lines_holds : PySem.Challenge.rw_maplost_k03_tree_lines.Holds := by
  w_on; o_law
  refine HandSHeadRun.head_any (r := OpenLaw.row PySem.Challenge.rw_maplost_k03_tree_lines) (q := view (OpenLaw.row PySem.Challenge.rw_maplost_k03_tree_lines).prog [37]) (H := K03.hk) (ob := K03.ob) (M := 20000) (loose := K03.looseN)
    (d := HandSHeadRun.topDef (OpenLaw.row PySem.Challenge.rw_maplost_k03_tree_lines).prog 37) (kwd := []) K03.ob_eq
    (by kernel_rfl) (fun s => by kernel_rfl) K03.run (by kernel_rfl) (by kernel_rfl) (by kernel_rfl) (by rfl) (by first | assumption | decide +kernel) (by decide +kernel) ⟨rfl, rfl, rfl, rfl, rfl, by decide +kernel⟩ ?hw ?hc
  case hw => w_witness2
  case hc =>
    refine L2.walk_G (l := PySem.Challenge.rw_maplost_k03_tree_lines) (n := 63) (k := 10) (x := "script") rfl (by decide) (by kernel_rfl) ⟨by decide, by decide, by decide⟩ ?_
    intro w mg fx h Y G hmg0
    obtain ⟨K, KX, c⟩ := Y
    obtain ⟨c, ck⟩ := Ml.see_ok c
    have hmg : mg ("law" : PySem.Str) = some (.ref fx) := by
      have e : (HandSHeadRun.topDef (OpenLaw.row PySem.Challenge.rw_maplost_k03_tree_lines).prog 37).name = ("law" : PySem.Str) := by kernel_rfl
      rw [← e]
      exact hmg0
    obtain ⟨fd, hb, hF⟩ := K03.facts (P := (PySem.Challenge.rw_maplost_k03_tree_lines).prog) (w := w) KX G hmg c ck
    exact ⟨K, fd, K03.spLaw K, KX, hb, fun H a ns hS => ⟨a, ns, rfl, hS, fun _ => rfl⟩, hF⟩

