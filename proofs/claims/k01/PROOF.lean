import PyProof.Rows.All
import Wide.All
import OpenK.AllK
import Wide.FinOn
import PyProof.EqAt
import PyProof.EqKinds
import PyProof.TupleCall
import HandS.ForMost
import HandS.Exc
import HandS.ExcInit
import HandS.Defaults
import KE.KIsAll
import KE.KTryMore
import HandS.ExcIs
import HandS.ExcField
import HandS.IsInst
import HandS.MakeKwOnly
import HandS.HotCalls
import HandS.Comp
import PyProof.ReprRoads
import HandS.DeepEq
import HandS.HeadHook1
import HandS.ExcInitHot
import HandS.Iter
import PyProof.StrLoop
import HandS.Walk
import HandS.NamedTupGet
import HandS.Text
import HandS.Flow
import HandS.ForExc
import HandS.ListEq
import HandS.DictComp
import HandS.WordsList
import HandS.More
import PyProof.StrLawsRepr
import PyProof.Rows.StrLawsPart
import HandS.ExcOwn
import HandS.Style
import HandS.Dict
import HandS.Ends
import HandS.Head0
import HandS.Head1
import HandS.Head2
import HandS.HeadHook2
import KE.KStateDown
import HandS.HeadEnd
import HandS.Small
import PySem.Challenge.RW_maplost_k01_names_lines_and_rounds
set_option Elab.async false
set_option linter.all false
set_option maxRecDepth 100000
set_option maxHeartbeats 0
/-! exceptions with an own __init__, made by values and by keywords -/
namespace PySem
namespace MlE
open Builtin Builtin.ObjectAttr PySem.HandSPX
section
variable {M : Model} {A : Around} {E : Value → Shared → Prop} {hp : Heap} {gs : Array GenState} {dr : Drawn} {tk : Nat} {os : OsState}
variable {nm q : Str} {C N : Addr} {bs bm base : List Value} {hdct : Bool} {sn : List Str} {sub : List Value} {ab : Bool} {col : Option Bool} {dd : Option Addr}
variable {k0 k1 k2 k3 k5 : Option Value} {B nid iid : String}
theorem newCheckK (F : ExcBaseFacts B nid iid base) (hT : ∀ Y : String, bm.contains (.type Y) = base.contains (.type Y))
    {xs : List Value} {kw : List (Str × Value)} {Q : Unit → Shared → Prop}
    (hC : hp.get? C = some (excClassObj nm q C N bs bm hdct sn sub ab col dd k0 k1 k2 k3 k5 nid))
    (hq : Q () ⟨hp, gs, dr, tk, os⟩) :
    wpAny M A (checkBuiltinCall nid { pos := .ref C :: xs, kw := kw }) Q E ⟨hp, gs, dr, tk, os⟩ := by
  have inB : (Value.ref C :: bm).contains (.type B) = true := by
    rw [List.contains_cons, hT, F.hasB, Bool.or_true]
  have st := F.noStar
  simp only [checkBuiltinCall, F.newKind, F.newSplit, F.newRow]
  repeat (first
    | refine wpAny_loadPart_at hC ?_
    | (refine wpAny_isSubtype_exc hC ?_; rw [inB])
    | refine wpAny_staticBase_exc hC ?_
    | refine wpAny_madeBy_exc hC ?_
    | simp only [bne_self_eq_false, Bool.false_eq_true, if_false]
    | wp_step)
  exact hq
end
section
variable {P : Program} {w : World} {A : Around} {E : Value → Shared → Prop} {R : Result → Shared → Prop} {hp : Heap} {gs : Array GenState} {dr : Drawn} {tk : Nat} {os : OsState}
variable {nm q : Str} {C N : Addr} {bs bm base : List Value} {hdct : Bool} {sn : List Str} {sub : List Value} {ab : Bool} {col : Option Bool} {dd : Option Addr}
variable {k0 k1 k2 k3 k5 : Option Value} {B nid iid : String}
/-- the heap behind BaseException.__new__ -/
abbrev withNew (hp : Heap) (C : Addr) (xs : List Value) : Heap := (hp.push (PySem.W.kdv_tup xs)).push (excO C hp.objs.size)
theorem newK (F : ExcBaseFacts B nid iid base) (hT : ∀ Y : String, bm.contains (.type Y) = base.contains (.type Y))
    {xs : List Value} {kw : List (Str × Value)}
    (hC : hp.get? C = some (excClassObj nm q C N bs bm hdct sn sub ab col dd k0 k1 k2 k3 k5 nid)) (hl : xs.length ≤ sizeLine)
    (hq : R (.ok (.ret (.ref (hp.objs.size + 1)))) ⟨withNew hp C xs, gs, dr, tk, os⟩) :
    codeAny (model P w) A (.builtin nid { pos := .ref C :: xs, kw := kw }) R ⟨hp, gs, dr, tk, os⟩ := by
  have en := F.ends
  have inB : (Value.ref C :: bm).contains (.type B) = true := by
    rw [List.contains_cons, hT, F.hasB, Bool.or_true]
  have inA : (Value.ref C :: bm).contains (.type "AttributeError") = false := by
    rw [List.contains_cons, hT, F.noAttr] <;> rfl
  have inN : (Value.ref C :: bm).contains (.type "NameError") = false := by
    rw [List.contains_cons, hT, F.noName] <;> rfl
  refine codeAny_builtinAt F.entry ?_
  unfold Builtin.«BaseException.__new__»
  refine wpAt_bind ?_
  show wpAt _ _ _ (stack >>= _) _ _ _
  refine wpAt_bind (wpAt_stack fun p below => wpAt_of_wpAny ?_)
  wp_walk
  refine wpAt_of_wpAny ?_
  rw [F.owner]
  repeat (first
    | with_reducible refine wpAny_madeHere_exc F.canon hC ?_
    | with_reducible refine wpAny_loadPart_at hC ?_
    | (with_reducible refine wpAny_isSubtype_exc hC ?_; first | rw [inB] | rw [inA] | rw [inN])
    | wp_step)
  show R _ _
  rw [Heap.size_push]
  exact hq
/-- type.__call__ on such a class, with keywords -/
theorem typeCallK (F : ExcBaseFacts B nid iid base) (hT : ∀ Y : String, bm.contains (.type Y) = base.contains (.type Y))
    {xs : List Value} {kw : List (Str × Value)} {fI : Addr} {Q : Fin → Shared → Prop}
    (hC : hp.get? C = some (excClassObj nm q C N bs bm hdct sn sub ab col dd k0 k1 k2 k3 k5 nid))
    (hi : W.Looks (model P w) hp (typeLookup (.ref C) "__init__") (some (.ref fI)))
    (hb : ∀ self, W.Looks (model P w) hp (bindSpecial (.ref fI) self) (.ref fI, [self])) (hl : xs.length ≤ sizeLine)
    (hq : codeAny (model P w) A (.call (.ref fI) ⟨.ref (hp.objs.size + 1) :: xs, kw⟩)
      (fun r z => match r with
        | .ok (.ret v) => v = .none ∧ Q (.done (.ret (.ref (hp.objs.size + 1)))) z
        | .ok _ => False
        | .error e => E e z) ⟨withNew hp C xs, gs, dr, tk, os⟩) :
    wpAny (model P w) A (Builtin.«type.__call__» { pos := .ref C :: xs, kw := kw }) Q E ⟨hp, gs, dr, tk, os⟩ := by
  repeat (first
    | with_reducible refine wpAny_loadPart_at hC ?_
    | with_reducible refine wpAny_madeBy_exc hC ?_
    | wp_step)
  refine codeAny_call_builtin_code (Code.quiet_builtin _ F.quiet) (newCheckK F hT hC ?_)
  refine newK F hT hC hl ?_
  show wpAny _ _ _ _ _ _
  have up : ∀ b o, hp.get? b = some o → (withNew hp C xs).get? b = some o :=
    fun b o e => Heap.get?_push_of_some _ (Heap.get?_push_of_some _ e)
  have atC := up _ _ hC
  have atE : (withNew hp C xs).get? (hp.objs.size + 1) = some (excO C hp.objs.size) := by heap_get
  have self : (Value.ref C :: bm).contains (.ref C) = true := by simp
  have iK := hi.keeps up
  have bK := (hb (.ref (hp.objs.size + 1))).keeps up
  unfold isInstance
  repeat (first
    | with_reducible refine wpAny_loadPart_at atE ?_
    | (with_reducible refine wpAny_isSubtype_exc atC ?_; rw [self])
    | wp_step)
  show wpAny _ _ (typeLookup (.ref C) _) _ _ _
  refine iK.at ?_
  refine wpAny_holding (wpAny_bind (bK.at ?_))
  refine wpAny_bind (wpAny_call (codeAny_mono hq fun r z hz => ?_))
  cases r with
  | error e => exact hz
  | ok fl =>
    cases fl with
    | ret v =>
      obtain ⟨rfl, hz⟩ := hz
      first
        | exact wpAny_pure (wpAny_pure hz)
        | (wp_walk; exact hz)
    | next => exact hz.elim
    | brk => exact hz.elim
    | cont => exact hz.elim
theorem callK (F : ExcBaseFacts B nid iid base) (hT : ∀ Y : String, bm.contains (.type Y) = base.contains (.type Y))
    {xs : List Value} {kw : List (Str × Value)} {fI : Addr}
    (hC : hp.get? C = some (excClassObj nm q C N bs bm hdct sn sub ab col dd k0 k1 k2 k3 k5 nid))
    (hi : W.Looks (model P w) hp (typeLookup (.ref C) "__init__") (some (.ref fI)))
    (hb : ∀ self, W.Looks (model P w) hp (bindSpecial (.ref fI) self) (.ref fI, [self])) (hl : xs.length ≤ sizeLine)
    (hq : codeAny (model P w) (A.under (.builtin "type.__call__" ⟨.ref C :: xs, kw⟩))
      (.call (.ref fI) ⟨.ref (hp.objs.size + 1) :: xs, kw⟩) (W.InitBack (hp.objs.size + 1) R) ⟨withNew hp C xs, gs, dr, tk, os⟩) :
    codeAny (model P w) A (.call (.ref C) { pos := xs, kw := kw }) R ⟨hp, gs, dr, tk, os⟩ := by
  have g1 := tc_lookup
  have g2 := tc_bind (.ref C)
  have gT : (⟨hp, gs, dr, tk, os⟩ : Shared).TypeIs (.ref C) "type" := ⟨_, hC, rfl⟩
  refine codeAny_of_tree ?_
  show wpAny _ _ (callAny (.ref C) _) _ _ _
  repeat (any_goals (first
    | assumption
    | with_reducible refine wpAny_loadPart_at hC ?_
    | wp_step))
  refine ⟨rfl, ?_⟩
  refine codeAny_call_builtin_at (Code.quiet_builtin _ (by decide +kernel)) entry_typeCall ?_
  refine wpAny_check_type_call_sub hC (typeCallK F hT hC hi hb hl ?_)
  refine codeAny_mono hq fun r z hz => ?_
  cases r with
  | error e => exact hz
  | ok fl => cases fl <;> exact hz
end
end MlE
end PySem

/-! exceptions as values: isinstance, fields, whatever their dict -/
namespace PySem
namespace MlE
open PySem.W PySem.Spec PySem.Calls PyProof.Rows
section
variable {prog : Program} {w : World} {A : Around} {E : Value → Shared → Prop} {s : Shared} {K : Frag} {x D : Addr} {ox : Obj} {od : Option Obj}
theorem findObj_class {C : Addr} {name : Str} {a g : Value} (hc : (clsIn K C).isSome = true)
    (ha : findIn K (.ref C) name = some (some a)) (hg : specialIn K a "__get__" = some (some g)) (ht : takesIn K a = some true) :
    findObj K C od name = some (.bind g a) := by
  obtain ⟨cd, hcd⟩ := Option.isSome_iff_exists.mp hc
  unfold findObj
  simp [hcd, ha, hg, ht]
theorem class_of_exc {Q : Option Value → Shared → Prop} (T : L2.ExcC K D) (X : K.In s.heap) (I : InstAt s.heap x ox D od)
    (h : Q (some (.ref D)) { s with toks := s.toks + 1 }) : wpAny (model prog w) A (getAttr? (.ref x) "__class__") Q E s := by
  obtain ⟨hg, hk, hs, hd, ha, hn, ht, hm⟩ := T
  have cl : (clsIn K D).isSome = true := by
    obtain ⟨cd, hc, _⟩ := any_some hd
    rw [hc] <;> rfl
  have hf : findObj K D od "__class__" = some (.bind (.builtin "getset_descriptor.__get__") (.builtin "object.__class__")) :=
    findObj_class cl ha hn ht
  obtain ⟨hp, gs, dr, tk, os⟩ := s
  have l0 := I.type (M := model prog w)
  have l1 := looks_findIn (M := model prog w) X hg
  have l2 := looks_findIn (M := model prog w) X hk
  have l3 := looks_find (M := model prog w) X I hf
  have lb : Looks (model prog w) hp (isInstance (.ref x) (.type "BaseException")) true :=
    l0.andThen (looks_subIn X hs)
  have n0 : (false && onTheHeap (Value.builtin "BaseException.__getattribute__")) = false := rfl
  have n2 : (Value.builtin "BaseException.__getattribute__" == Value.builtin "object.__getattribute__") = false := by
    decide +kernel
  have n1 : (onTheHeap (Value.ref D) && Value.builtin "BaseException.__getattribute__" == Value.builtin "object.__getattribute__") = false := by
    rw [n2] <;> rfl
  unfold getAttr? getAttrBy? getAttrBy
  refine wpAny_bind (wpAny_mkText (wpAny_bind (wpAny_attempt ?_)))
  refine wpAny_holding (wpAny_bind (l0.at (wpAny_bind (l1.at ?_))))
  show wpAny _ _ (if (onTheHeap (Value.ref D) && Value.builtin "BaseException.__getattribute__" == Value.builtin "object.__getattribute__") = true then _
    else _) _ _ _
  rw [n1, if_neg Bool.false_ne_true]
  unfold getAttrByItsOwn hookBefore
  refine wpAny_bind ?_
  rw [if_pos (show onTheHeap (Value.ref D) = true from rfl)]
  refine l2.at ?_
  refine wpAny_bind (wpAny_attempt ?_)
  refine wpAny_holding ?_
  unfold callGetattribute
  rw [n0, if_neg Bool.false_ne_true]
  unfold boundAndCalled
  rw [PySem.F.excAttr_ValueError.ga.bind (.ref x)]
  refine wpAny_bind (wpAny_pure ?_)
  show wpAny _ _ (call (.builtin "BaseException.__getattribute__") [.ref x, .str "__class__" tk]) _ _ _
  refine wpAny_call ?_
  refine codeAny_call_builtin PySem.F.excAttr_ValueError.ga.plain PySem.F.entry_bexc_ga ?_
  refine @check_slot (model prog w) _ _ ⟨hp, gs, dr, tk + 1, os⟩ "BaseException.__getattribute__" "BaseException" "__getattribute__"
    (.ref x) [.str "__class__" tk] [] _ (by decide +kernel) (by decide +kernel) lb (PySem.F.args_bexc_ga (.ref x) (.str "__class__" tk)) ?_
  unfold Builtin.«object.__getattribute__»
  refine wpAny_bind ?_
  refine wpAny_of_eq (a := ((Value.ref x : Value), [Value.str "__class__" tk])) (by first | rfl | (simp only [slotArgs]; rfl)) ?_
  refine wpAny_bind (wpAny_pure ?_)
  refine wpAny_bind (l0.at (wpAny_bind (l3.at ?_)))
  show wpAny _ _ (holding [Value.builtin "object.__class__"] (call (.builtin "getset_descriptor.__get__")
    [.builtin "object.__class__", .ref x, .ref D]) >>= ret) _ _ _
  refine wpAny_bind (wpAny_holding (wpAny_call ?_))
  refine class_get (s := ⟨hp, gs, dr, tk + 1, os⟩) (ox := ox) (od := od) X I hm ?_
  refine wpAny_pure ?_
  show wpAny _ _ (handedOut (.ref D)) _ _ _
  rw [handedOut_of (v := .ref D) rfl]
  first
    | exact wpAny_pure (wpAny_pure h)
    | exact wpAny_pure h
    | exact wpAny_pure (wpAny_bind (wpAny_pure (wpAny_pure h)))
theorem kitx_excD (T : L2.ExcC K D) : KitX K (.ref x) (.ref D) (fun h => InstAt h x ox D od) where
  ty := fun _ _ _ I => I.type
  it := fun M h X _ => by
    obtain ⟨cd, hc, _⟩ := any_some T.hd
    unfold clsIn at hc
    split at hc
    · rename_i c1 d1 cd1 sl1 ho
      intro A1 Q1 E1 s1 k q
      unfold isType loadHead
      refine wpAny_bind ?_
      exact wpAny_loadPart (k _ _ (X _ _ ho)) (wpAny_pure q)
    · cases hc
  ne := fun h tp dd its n sl X htp => by
    obtain ⟨cd, hc, _⟩ := any_some T.hd
    rw [Bool.eq_false_iff]
    intro q
    obtain rfl : D = tp := Value.ref.inj (beq_iff_eq.mp q)
    unfold clsIn at hc
    split at hc
    · rename_i c1 d1 cd1 sl1 ho
      have z := (X _ _ ho).symm.trans htp
      cases z
    · cases hc
  ca := fun X I k => class_of_exc T X I k
end
end MlE
end PySem

namespace L2
open PySem PySem.Spec PyProof.Rows
/-! ### an exception that is held: tracked, or one of the pins ps -/
abbrev Pin := Addr × Obj
/-- the field table of an exception stands at d -/
def XdAt (H : Hp) (d : Addr) (fs : List (Str × V)) : Prop := H d = some (exd d fs) ∨ H d = some (.xd fs)
/-- at a: an exception of the class at C, its table at d with the fields fs -/
structure EvP (ps : List Pin) (H : Hp) (a C d : Addr) (fs : List (Str × V)) : Prop where
  at_ : H a = some (exo a C (some d)) ∨ ∃ oe : Obj, (a, oe) ∈ ps ∧ oe.cls = .ref C ∧ oe.dict = some d ∧ ∃ vs, oe.data = .fields vs
  tab : XdAt H d fs
theorem EvP.mono {ps qs : List Pin} {H H' : Hp} {a C d : Addr} {fs : List (Str × V)} (e : EvP ps H a C d fs)
    (hp : ∀ p ∈ ps, p ∈ qs) (k : ∀ b o, H b = some o → H' b = some o) : EvP qs H' a C d fs where
  at_ := e.at_.imp (k _ _) fun ⟨oe, h1, h2⟩ => ⟨oe, hp _ h1, h2⟩
  tab := e.tab.imp (k _ _) (k _ _)
section
variable {X : Cx} {pins : List Pin} {σ : St} {H : Hp} {s : Shared}
theorem XdAt.look (I : Inv X pins σ H s) {d : Addr} {fs : List (Str × V)} (x : XdAt H d fs) :
    ∃ mA, s.heap.Ns1 d mA ∧ ∀ f, RelO (fs.lookup f) (mA f) := by
  rcases x with x | x
  · exact exd_at I.hok x
  · exact I.hok d _ x
theorem EvP.look (I : Inv X pins σ H s) {ps : List Pin} (hps : ∀ p ∈ ps, p ∈ X.pn) {a C d : Addr} {fs : List (Str × V)} (e : EvP ps H a C d fs) :
    ∃ oe od mA, PySem.W.InstAt s.heap a oe C (some od) ∧ s.heap.Ns1 d mA ∧ (∀ f, RelO (fs.lookup f) (mA f)) ∧
      ∀ name, PySem.W.lookIn name od = some (mA name) := by
  obtain ⟨mA, hn, hr⟩ := e.tab.look I
  obtain ⟨od, ho, hl⟩ := lookIn_ns hn
  have key : ∃ oe : Obj, s.heap.get? a = some oe ∧ oe.cls = .ref C ∧ oe.dict = some d ∧ ∃ vs, oe.data = .fields vs := by
    rcases e.at_ with h | ⟨oe, hm, h1, h2, h3⟩
    · obtain ⟨t1, z⟩ := exo_at I.hok h
      exact ⟨_, z, rfl, rfl, _, rfl⟩
    · exact ⟨oe, (I.pin (a, oe) (List.mem_append_left _ (hps _ hm))).1, h1, h2, h3⟩
  obtain ⟨oe, z, hc, hd, vs, hv⟩ := key
  refine ⟨oe, od, mA, ⟨z, hc, ?_, ?_⟩, hn, hr, hl⟩
  · unfold PySem.W.notCls
    rw [hv] <;> rfl
  · rw [hd]
    exact ho
end

/-! ### isinstance -/
def rIsEv (K : PySem.W.Frag) (ps : List Pin) : List V → Hp → VK → Prop := fun xs H Q =>
  ∃ (a D d : Addr) (fs : List (Str × V)) (c : V) (u : Value) (b : Bool), xs = [.ref a, c] ∧ EvP ps H a D d fs ∧ ExcC K D ∧
    ClsV c u ∧ PySem.W.kitOne K (.ref D) u = some b ∧ Q (.bl b) H
def rIsEvT (K : PySem.W.Frag) (ps : List Pin) : List V → Hp → VK → Prop := fun xs H Q =>
  ∃ (a D d tp : Addr) (fs : List (Str × V)) (cs : List V) (us : List Value) (b : Bool), xs = [.ref a, .ref tp] ∧ EvP ps H a D d fs ∧
    ExcC K D ∧ H tp = some (.tup cs) ∧ Paired ClsV cs us ∧ PySem.W.kitAny K (.ref D) us = some b ∧ Q (.bl b) H
section
variable {X : Cx} {ps : List Pin}
theorem call_isEv (hps : ∀ p ∈ ps, p ∈ X.pn) : CallR X (.builtin "isinstance") (rIsEv X.K ps) := by
  intro pins s σ H xs us Q I r h
  obtain ⟨a, D, d, fs, c, u, b, rfl, ev, C, k, e, q⟩ := h
  obtain ⟨u1, u2, rfl, r1, r2⟩ := vals2 r
  have e2 := k.eq r2
  subst e2
  obtain rfl : u1 = Value.ref a := r1
  obtain ⟨oe, od, mA, J, _⟩ := ev.look I hps
  exact PySem.W.kia_one (PySem.MlE.kitx_excD C) I.kIn J e (fun z => nomatch z)
    fun tk => ⟨.bl b, H, I.tok tk, rfl, q⟩
theorem call_isEvT (hps : ∀ p ∈ ps, p ∈ X.pn) : CallR X (.builtin "isinstance") (rIsEvT X.K ps) := by
  intro pins s σ H xs us Q I r h
  obtain ⟨a, D, d, tp, fs, cs, ws, b, rfl, ev, C, hT, k, e, q⟩ := h
  obtain ⟨u1, u2, rfl, r1, r2⟩ := vals2 r
  obtain rfl : u2 = Value.ref tp := r2
  obtain rfl : u1 = Value.ref a := r1
  obtain ⟨oe, od, mA, J, _⟩ := ev.look I hps
  obtain ⟨_, its, rv, o, h1, h2, n, h3⟩ := (show ObjOk X.prog X.w H s.heap tp (.tup cs) from I.hok tp _ hT)
  have e3 := ClsV.all k rv
  subst e3
  obtain ⟨oc, od2, dt, sl⟩ := o
  simp only at h2 h3
  subst h2 h3
  exact PySem.W.kia_tup (PySem.MlE.kitx_excD C) I.kIn J h1 e (fun z => nomatch z)
    fun tk => ⟨.bl b, H, I.tok tk, rfl, q⟩
end

/-! ### a field -/
def tEvF (K : PySem.W.Frag) (ps : List Pin) (f : Str) (te : TE) : TE := fun σ H Q => te σ H fun x H1 =>
  ∃ (a D d : Addr) (fs : List (Str × V)) (v : V), x = .ref a ∧ EvP ps H1 a D d fs ∧ XfC K D ∧
    PySem.W.findIn K (.ref D) f = some none ∧ fs.lookup f = some v ∧ Q v H1
theorem pe_evF {X : Cx} {ps : List Pin} {e : Expr} {te : TE} {f : Str} {pos : Pos} (hps : ∀ p ∈ ps, p ∈ X.pn) (he : PE X e te)
    (hb : attributeBase e f X.env (eval e X.env) = eval e X.env := by rfl) : PE X (.Attribute e f pos) (tEvF X.K ps f te) := by
  refine ⟨fun pins s σ H Q I h => ?_⟩
  refine attr_of hb (thn (he.run pins s σ H _ I h) fun u s1 hh => ?_)
  obtain ⟨x, H1, I1, rx, a, D, d, fs, v, rfl, ev, T, hno, l, q⟩ := hh
  obtain rfl : u = Value.ref a := rx
  obtain ⟨oe, od, mA, J, _, hr, hl⟩ := ev.look I1 hps
  obtain ⟨y, hu, ru⟩ := RelO.some_of (v := v) (o := mA f) (by rw [← l]; exact hr f)
  exact HandSPX.exc_get I1.kIn J T.ga T.gg T.exC (PySem.W.findObj_own T.hdC hno rfl (by rw [hl, hu]))
    (handed_of ru) ⟨v, H1, I1.tok _, ru, q⟩

/-! ### C(e, .., k = v, ..) as a value -/
def tMkEv (C : Addr) (n m : Nat) (sp : Sp) (gV : List V → List V → List V) (t tk : TA) : TE := fun σ H Q =>
  t σ H fun vs H1 => tk σ H1 fun zs H2 => vs.length = n ∧ zs.length = m ∧
    ∀ a, H2 a = none → sp (gV (.ref a :: vs) zs) (upd H2 a (exo a C none)) (fun v H3 => v = .non ∧ Q (.ref a) H3) fun _ _ _ => False
section
variable {X : Cx} {CX : CXT} {k n : Nat} {C fI : Addr} {fd : FuncData} {ps ks : List Str} {sp : Sp} {x : Str} {p pos : Pos}
variable {e : Expr} {es : List Expr} {kws : List Keyword} {t tk : TA} {g : List Value → List Value → List Value} {gV : List V → List V → List V}
theorem run_mkEv {pins : List Pin} {σ : St} {H : Hp} {s : Shared} {Q : VK} {us ws : List Value} {vs zs : List V} (T : OexC X.K C)
    (iC : PySem.W.findIn X.K (.ref C) "__init__" = some (some (.ref fI))) (tI : PySem.W.typeIn X.K (.ref fI) = some (.type "function"))
    (F : FnOk X.prog X.w X.K X.mg X.base CX k fI fd ps sp) (hr : Room (k + 1) X.A) (hb : KBn X.K fd ps (n + 1) ks g gV)
    (hx : Passes CX X fun _ _ _ => False) (I : Inv X pins σ H s) (r : Vals vs us) (rz : Vals zs ws) (l1 : vs.length = n)
    (l2 : zs.length = ks.length) (hn : n ≤ 1000)
    (h : ∀ a, H a = none → sp (gV (.ref a :: vs) zs) (upd H a (exo a C none)) (fun v H2 => v = .non ∧ Q (.ref a) H2) fun _ _ _ => False) :
    wpAny (model X.prog X.w) X.A (call (.ref C) us (ks.zip ws)) (EP X pins σ Q) X.xe s := by
  obtain ⟨nm, q, N, bs, bm, sn, sub, ab, col, dd, k0, k1, k2, k3, k5, hC, hbm⟩ := T.cls
  obtain ⟨hp, gs, dr, tk0, os⟩ := s
  have le1 : hp.objs.size ≤ hp.objs.size + 1 := Nat.le_succ _
  have hq := h (hp.objs.size + 1) (I.hok.fresh le1)
  have up : ∀ b o, hp.get? b = some o → (PySem.MlE.withNew hp C us).get? b = some o :=
    fun b o e => Heap.get?_push_of_some _ (Heap.get?_push_of_some _ e)
  have atE : (PySem.MlE.withNew hp C us).get? (hp.objs.size + 1) = some (PySem.HandSPX.excO C hp.objs.size) := by heap_get
  have I2 : Inv X pins σ (upd H (hp.objs.size + 1) (exo (hp.objs.size + 1) C none)) ⟨PySem.MlE.withNew hp C us, gs, dr, tk0, os⟩ :=
    I.laid (t' := tk0) (a := hp.objs.size + 1) (o := exo (hp.objs.size + 1) C none) (h' := PySem.MlE.withNew hp C us) up le1 (exo_ok atE)
  have r1 : Vals (V.ref (hp.objs.size + 1) :: vs) (Value.ref (hp.objs.size + 1) :: us) := .cons rfl r
  have r2 := hb.rel r1 rz
  have e1 : (Value.ref (hp.objs.size + 1) :: us).length = n + 1 := r1.length.symm.trans (congrArg Nat.succ l1)
  have e2 : ws.length = ks.length := rz.length.symm.trans l2
  have hus : us.length ≤ sizeLine := by
    have z := r.length
    rw [sizeLine_eq]
    omega
  refine wpAny_call (PySem.MlE.callK PySem.F.excBase_ValueError (fun Y => PySem.HandSPX.refsVE_contains Y bm hbm)
    (I.kIn _ _ hC) (PySem.W.looks_findIn I.kIn iC) (fun self => PySem.W.bind_fn I.kIn self tI) hus ?_)
  refine codeAny_mono (F.run _ X.stack _ _ ⟨Value.ref (hp.objs.size + 1) :: us, ks.zip ws⟩ (g (Value.ref (hp.objs.size + 1) :: us) ws)
    _ _ (fun _ _ _ => False) (hr.make C us (ks.zip ws)) (I2.env0.make C us (ks.zip ws))
    (hb.to _ (Value.ref (hp.objs.size + 1) :: us) ws I2.kIn e1 e2) r2 hq) fun r s1 h1 => ?_
  cases r with
  | error er => exact hx pins σ _ _ er s1 I2 h1
  | ok fl =>
    cases fl with
    | ret u =>
      obtain ⟨v, H3, I3, rv, ev, q3⟩ := I2.after h1
      subst ev
      exact ⟨rv, ⟨V.ref (hp.objs.size + 1), H3, I3, rfl, q3⟩⟩
    | next => exact False.elim h1
    | brk => exact False.elim h1
    | cont => exact False.elim h1
/-- C(e, ..), values alone -/
theorem pe_mkEv (T : OexC X.K C) (iC : PySem.W.findIn X.K (.ref C) "__init__" = some (some (.ref fI)))
    (tI : PySem.W.typeIn X.K (.ref fI) = some (.type "function")) (FI : FnOk X.prog X.w X.K X.mg X.base CX k fI fd ps sp) (hr : Room (k + 1) X.A)
    (hb : KBn X.K fd ps (n + 1) [] g gV) (hx : Passes CX X fun _ _ _ => False) (hn : n ≤ 1000) (hg : Gl X x) (hm : X.mg x = some (.ref C)) (ha : PA X (e :: es) t)
    (hdb : (x == ("__debug__" : Str)) = false := by decide) (he : starEach (e :: es) X.env = (false, eval e X.env) :: starEach es X.env := by rfl)
    (hpl : (backTo pos (starEach es X.env)).any (·.1) = false := by rfl) : PE X (.Call (.Name x p) (e :: es) [] pos) (tMkEv C n 0 sp gV t tNil) := by
  refine ⟨fun pins s σ H Q I h => ?_⟩
  refine wpAny_Call_Name_kw (ld_glob I hg hm ?_ hdb)
  refine PySem.W.callWith_K (h₀ := X.base) I.ok.mod.kin T.kC ?_ he hpl
  refine thn (ha.run pos pins s σ H _ I h) fun us s1 ⟨vs, H1, I1, r, l1, l2, q⟩ => ⟨I1.kIn, ?_⟩
  exact run_mkEv (ks := []) (ws := []) (zs := []) T iC tI FI hr hb hx I1 r .nil l1 rfl hn q
/-- C(k = v, ..) -/
theorem pe_mkEvK (T : OexC X.K C) (iC : PySem.W.findIn X.K (.ref C) "__init__" = some (some (.ref fI)))
    (tI : PySem.W.typeIn X.K (.ref fI) = some (.type "function")) (FI : FnOk X.prog X.w X.K X.mg X.base CX k fI fd ps sp) (hr : Room (k + 1) X.A)
    (hb : KBn X.K fd ps 1 ks g gV) (hx : Passes CX X fun _ _ _ => False) (hg : Gl X x) (hm : X.mg x = some (.ref C)) (hkw : PK X kws tk)
    (hall : (backToKw pos (keywordEach kws X.env)).all (·.1.isSome) = true := by rfl)
    (hks : (backToKw pos (keywordEach kws X.env)).filterMap (·.1) = ks := by rfl) (hdb : (x == ("__debug__" : Str)) = false := by decide)
    (hpl : ((backTo pos (starEach [] X.env)).any (·.1) || (backToKw pos (keywordEach kws X.env)).any (·.1.isNone)) = false := by rfl) :
    PE X (.Call (.Name x p) [] kws pos) (tMkEv C 0 ks.length sp gV tNil tk) := by
  refine ⟨fun pins s σ H Q I h => ?_⟩
  refine wpAny_Call_Name_kw (ld_glob I hg hm ?_ hdb)
  refine PySem.W.callWith_KW0 (h₀ := X.base) I.ok.mod.kin T.kC hall ?_ hpl
  refine thn (hkw.run pos pins s σ H _ I h) fun ws s2 ⟨zs, H2, I2, rz, l1, l2, q2⟩ => ⟨I2.kIn, ?_⟩
  rw [hks]
  exact run_mkEv (us := []) (vs := []) T iC tI FI hr hb hx I2 .nil rz rfl l2 (Nat.zero_le _) q2
/-- C(e, .., k = v, ..) -/
theorem pe_mkEvM (T : OexC X.K C) (iC : PySem.W.findIn X.K (.ref C) "__init__" = some (some (.ref fI)))
    (tI : PySem.W.typeIn X.K (.ref fI) = some (.type "function")) (FI : FnOk X.prog X.w X.K X.mg X.base CX k fI fd ps sp) (hr : Room (k + 1) X.A)
    (hb : KBn X.K fd ps (n + 1) ks g gV) (hx : Passes CX X fun _ _ _ => False) (hn : n ≤ 1000) (hg : Gl X x) (hm : X.mg x = some (.ref C))
    (ha : PA X (e :: es) t) (hkw : PK X kws tk) (hall : (backToKw pos (keywordEach kws X.env)).all (·.1.isSome) = true := by rfl)
    (hks : (backToKw pos (keywordEach kws X.env)).filterMap (·.1) = ks := by rfl) (hdb : (x == ("__debug__" : Str)) = false := by decide)
    (he : starEach (e :: es) X.env = (false, eval e X.env) :: starEach es X.env := by rfl)
    (hpl : ((backTo pos (starEach (e :: es) X.env)).any (·.1) || (backToKw pos (keywordEach kws X.env)).any (·.1.isNone)) = false := by rfl) :
    PE X (.Call (.Name x p) (e :: es) kws pos) (tMkEv C n ks.length sp gV t tk) := by
  refine ⟨fun pins s σ H Q I h => ?_⟩
  refine wpAny_Call_Name_kw (ld_glob I hg hm ?_ hdb)
  refine PySem.W.callWith_KW (h₀ := X.base) I.ok.mod.kin T.kC hall ?_ hpl he
  refine thn (ha.run pos pins s σ H _ I h) fun us s1 ⟨vs, H1, I1, r, q⟩ => ?_
  refine thn (hkw.run pos pins s1 σ H1 _ I1 q) fun ws s2 ⟨zs, H2, I2, rz, l1, l2, q2⟩ => ⟨I2.kIn, ?_⟩
  rw [hks]
  exact run_mkEv T iC tI FI hr hb hx I2 r rz l1 l2 hn q2
end
end L2

namespace L2
open PySem PySem.Spec PyProof.Rows
theorem Vals.rev : ∀ {xs : List V} {us : List Value}, Vals xs us → Vals xs.reverse us.reverse
  | _, _, .nil => .nil
  | x :: xs, u :: us, .cons r t => by
    rw [List.reverse_cons, List.reverse_cons]
    exact (Vals.rev t).append (.cons r .nil)
section
variable {K : PySem.W.Frag} {x qual : Str} {params : Arguments} {body : List Stmt} {scope : Scope} {f : Addr} {fd : FuncData} {ps : List Str}
/-- a def without defaults, called by n values and the keywords ks -/
theorem FunD.kbn0 (F : FunD K x qual params body scope [] [] f fd) (n : Nat) (ks : List Str) (g : {α : Type} → List α → List α → List α)
    (hrel : ∀ {vs zs : List V} {us ws : List Value}, Vals vs us → Vals zs ws → Vals (g vs zs) (g us ws))
    (h : ∀ (kV doc pm : Value) (an : Option Addr) (cdv ct : Value) (us ws : List Value), us.length = n → ws.length = ks.length →
      bindArgs (PySem.W.fnOf x qual params body scope .none kV doc pm an cdv ct) ⟨us, ks.zip ws⟩ = pure (ps.zip (g us ws))) :
    KBn K fd ps n ks (fun us ws => g us ws) (fun vs zs => g vs zs) := by
  obtain ⟨oc, od, dV, kV, doc, pm, an, cdv, ct, osl, rfl, lk, hcd, hD, hK⟩ := F.ex
  rcases hD with ⟨_, rfl⟩ | ⟨e, _⟩
  · exact ⟨fun s us ws X l1 l2 => .of_eq (h kV doc pm an cdv ct us ws l1 l2), fun r1 r2 => hrel r1 r2⟩
  · exact absurd rfl e
end
theorem visP {N P : List Str} {sc : Scope} (S : FnScope N P sc) {y : Str} (hy : y ∈ P) : Vis sc y := by
  rcases S.par y hy with e | e
  · exact .inl e
  · exact .inr (.inl e)
/-- a name that means nothing to the machine -/
structure Plain (f : Str) : Prop where
  a : (f == ("__debug__" : Str)) = false
  b : (f == ("__classdict__" : Str)) = false
/-! ### self.f = f -/
abbrev iB1 (f : Str) (q1 q2 q3 q4 : Pos) : List Stmt := [.Assign [.Attribute (.Name "self" q1) f q2] (.Name f q3) q4]
abbrev iB2 (f g : Str) (q1 q2 q3 q4 r1 r2 r3 r4 : Pos) : List Stmt :=
  [.Assign [.Attribute (.Name "self" q1) f q2] (.Name f q3) q4, .Assign [.Attribute (.Name "self" r1) g r2] (.Name g r3) r4]
/-- the heap with a new exception at a, of the class at C, its table at d -/
def withEv (H : Hp) (a C d : Addr) (fs : List (Str × V)) : Hp := upd (upd H d (exd d fs)) a (exo a C (some d))
def spI1 (C : Addr) (f : Str) : Sp := fun vs H Q _ => ∃ (a : Addr) (v : V), vs = [.ref a, v] ∧ H a = some (exo a C none) ∧
  ∀ dx, H dx = none → dx ≠ a → Q .non (withEv H a C dx [(f, v)])
def spI2 (C : Addr) (f g : Str) : Sp := fun vs H Q _ => ∃ (a : Addr) (v w : V), vs = [.ref a, v, w] ∧ H a = some (exo a C none) ∧
  ∀ dx, H dx = none → dx ≠ a → Q .non (withEv H a C dx [(g, w), (f, v)])
section
variable {P : Program} {w : World} {K : PySem.W.Frag} {mg : Str → Option Value} {base : Heap} {C fI : Addr} {fd : FuncData} {qual f g : Str} {pa : Arguments} {bd : List Stmt} {sc : Scope}
theorem ok_init1 {q1 q2 q3 q4 : Pos} (F : FunD K "__init__" qual pa bd sc [] [] fI fd) (S : FnScope ["self", f] ["self", f] sc) (hb : bd = iB1 f q1 q2 q3 q4)
    (T : OexC K C) (no : PySem.W.findIn K (.ref C) f = some none) (pf : Plain f) : FnOk P w K mg base CX0 1 fI fd ["self", f] (spI1 C f) := by
  refine F.ok S (fun vs H Q E h => ?_) (fun cdv A outer s H vs Q E hr h => ?_)
  · obtain ⟨a, v, rfl, _⟩ := h
    rfl
  · subst hb
    refine ⟨_, pss_one (ps_ost (pe_var (i := 0) rfl (visP S List.mem_cons_self)) (pe_var (i := 1) rfl (visP S (List.mem_cons_of_mem _ List.mem_cons_self)) (hd := pf.a) (hcd := pf.b))), ?_⟩
    obtain ⟨a, v, rfl, ha, k⟩ := h
    exact ⟨_, rfl, _, rfl, a, C, rfl, T, no, .inl ⟨ha, fun dx n ne => k dx n ne⟩⟩
theorem ok_init2 {q1 q2 q3 q4 r1 r2 r3 r4 : Pos} (F : FunD K "__init__" qual pa bd sc [] [] fI fd) (S : FnScope ["self", f, g] ["self", f, g] sc) (hb : bd = iB2 f g q1 q2 q3 q4 r1 r2 r3 r4)
    (T : OexC K C) (no : PySem.W.findIn K (.ref C) f = some none) (no2 : PySem.W.findIn K (.ref C) g = some none) (pf : Plain f) (pg : Plain g) : FnOk P w K mg base CX0 1 fI fd ["self", f, g] (spI2 C f g) := by
  refine F.ok S (fun vs H Q E h => ?_) (fun cdv A outer s H vs Q E hr h => ?_)
  · obtain ⟨a, v, w, rfl, _⟩ := h
    rfl
  · subst hb
    have v0 := visP S (y := "self") List.mem_cons_self
    have v1 := visP S (y := f) (List.mem_cons_of_mem _ List.mem_cons_self)
    have v2 := visP S (y := g) (List.mem_cons_of_mem _ (List.mem_cons_of_mem _ List.mem_cons_self))
    refine ⟨_, pss_cons (ps_ost (pe_var (i := 0) rfl v0) (pe_var (i := 1) rfl v1 (hd := pf.a) (hcd := pf.b))) (pss_one (ps_ost (pe_var (i := 0) rfl v0) (pe_var (i := 2) rfl v2 (hd := pg.a) (hcd := pg.b)))), ?_⟩
    obtain ⟨a, v, w, rfl, ha, k⟩ := h
    refine ⟨_, rfl, _, rfl, a, C, rfl, T, no, .inl ⟨ha, fun dx n ne => ?_⟩⟩
    refine ⟨_, rfl, _, rfl, a, C, rfl, T, no2, .inr ⟨dx, [(f, v)], upd_same, ?_, by show 1 ≤ 900; decide, ?_⟩⟩
    · rw [upd_ne ne, upd_same]
    · have z := k dx n ne
      have e : upd (upd (upd H dx (exd dx [(f, v)])) a (exo a C (some dx))) dx (exd dx [(g, w), (f, v)]) = withEv H a C dx [(g, w), (f, v)] := by
        funext b
        unfold withEv
        by_cases h1 : b = dx
        · subst h1
          rw [upd_same, upd_ne ne, upd_same]
        · rw [upd_ne h1]
          by_cases h2 : b = a
          · rw [h2, upd_same, upd_same]
          · rw [upd_ne h2, upd_ne h1, upd_ne h2, upd_ne h1]
      exact e ▸ z
end
end L2

/-! defs that are called within an except suite and outside of one alike -/
namespace L2
open PySem PySem.Spec PyProof.Rows
open L2H (RoomH Hot1 PinOk)
/-- nothing is handled, or p is -/
def WarmA (A : Around) (p : Pin) : Prop := A.handled = none ∨ Hot1 A p
/-- no exception leaves -/
abbrev noE : XK := fun _ _ _ => False
structure FnP (P : Program) (w : World) (K : PySem.W.Frag) (mg : Str → Option Value) (base : Heap) (k : Nat) (f : Addr) (fd : FuncData)
    (ps : List Str) (p : Pin) (sp : Sp) : Prop where
  len : ∀ vs H Q E, sp vs H Q E → vs.length = ps.length
  run : ∀ (A : Around) (outer : List Env) (s : Shared) (H : Hp) (args : Args) (us : List Value) (vs : List V) (Q : VK), RoomH k A → A.guards = some [] → WarmA A p →
    PinOk outer H s p → Env0 P w K mg base A outer s H → BindsTo s fd args (ps.zip us) → Vals vs us → sp vs H Q noE →
    codeAny (model P w) A (.call (.ref f) args) (CR CX0 outer P w H s Q noE) s
/-- the body's context -/
abbrev cxP (P : Program) (w : World) (K : PySem.W.Frag) (mg : Str → Option Value) (base : Heap) (N : List Str) (qual : Str) (scope : Scope)
    (f : Addr) (cd : Value) (A : Around) (outer : List Env) (s : Shared) (H : Hp) (p : Pin) : Cx :=
  L2H.cxH CX0 P w K mg base N qual scope f cd A outer s H noE p
/-- what is known of a body's context -/
structure WarmC (X : Cx) (p : Pin) : Prop where
  mem : p ∈ X.pn
  gd : X.A.guards = some []
  warm : WarmA X.A p
section
variable {P : Program} {w : World} {K : PySem.W.Frag} {mg : Str → Option Value} {base : Heap} {k : Nat} {f : Addr} {fd : FuncData} {ps N : List Str}
variable {p : Pin} {sp : Sp} {x qual : Str} {pa : Arguments} {bd : List Stmt} {sc : Scope}
theorem FunD.okP (F : FunD K x qual pa bd sc [] [] f fd) (S : FnScope N ps sc) (len : ∀ vs H Q E, sp vs H Q E → vs.length = ps.length)
    (hbody : ∀ (cdv : Value) (A : Around) (outer : List Env) (s : Shared) (H : Hp) (vs : List V) (Q : VK), WarmC (cxP P w K mg base N qual sc f cdv A outer s H p) p →
      RoomH k (A.deeper (envOfC qual sc s.heap.objs.size f cdv)) → sp vs H Q noE →
      ∃ t, PSs (cxP P w K mg base N qual sc f cdv A outer s H p) bd t ∧ t { nx := fun _ H' => Q .non H', rt := Q } (start N vs) H) :
    FnP P w K mg base (k + 1) f fd ps p sp := by
  obtain ⟨oc, od, dV, kV, doc, pm, an, cdv, ct, osl, rfl, lk, hcd, _, _⟩ := F.ex
  refine ⟨len, fun A outer s H args us vs Q hr hgd hw hpin e0 hb r hsp => ?_⟩
  have hlen := len _ _ _ _ hsp
  have kin : K.In s.heap := e0.mod.kin.keeps fun b o e => (e0.bs b o e).1
  have lim : s.heap.NoLimit := e0.mod.nolimit.keeps fun b o e => (e0.bs b o e).1
  have kinds : ∀ y ∈ ps.zip us, sc.names.lookup y.1 = some .local ∨
      (sc.names.lookup y.1 = some .cell ∧ ((cellsFrom (s.heap.objs.size + 1) sc.names []).lookup y.1).isSome = true) := by
    rintro ⟨n, v⟩ hy
    rcases S.par n (List.of_mem_zip hy).1 with q | q
    · exact .inl q
    · exact .inr ⟨q, PySem.W.cellsFrom_some _ _ _ (.inl q)⟩
  refine codeAny_call_function hr.depth (kin _ _ lk) rfl S.co S.gen rfl (PySem.W.codeRec_of kin hcd) (hb _ _ _ _ ?_)
  refine wpAny_newFunctionEnv_cells S.kind kinds fun env he s1 z => ?_
  subst he
  refine ⟨lim.keeps z.toInCall.keep, codeAny_func ?_⟩
  have I : Inv (cxP P w K mg base N qual sc f cdv A outer s H p) [] (start N vs) H s1 := L2H.inv_startH S hpin e0 hlen r z
  have wc : WarmC (cxP P w K mg base N qual sc f cdv A outer s H p) p :=
    ⟨List.mem_cons_self, hgd, hw⟩
  obtain ⟨t, ht, hq⟩ := hbody cdv A outer s H vs Q wc (hr.deeper _) hsp
  have fin : ∀ {σ1 : St} {H1 : Hp} {v : V} {u : Value} {s2 : Shared}, Inv (cxP P w K mg base N qual sc f cdv A outer s H p) [] σ1 H1 s2 → RelV v u → Q v H1 →
      CE outer P w H s Q u s2 := fun {σ1 H1 v u s2} J rv q => ⟨v, H1, J.os, J.bare, J.base, J.hok, rv, q⟩
  refine wpAny_mono (ht.run [] s1 (start N vs) H _ I hq) (fun fl s2 hs => ?_) fun e s2 hs => hs
  cases fl with
  | ret u =>
    obtain ⟨v, σ1, H1, J, rv, q⟩ := hs
    exact fin J rv q
  | next =>
    obtain ⟨σ1, H1, J, q⟩ := hs
    exact fin (v := V.non) (u := Value.none) J rfl q
  | brk =>
    obtain ⟨_, _, _, q⟩ := hs
    exact q.elim
  | cont =>
    obtain ⟨_, _, _, q⟩ := hs
    exact q.elim
/-- a def that is called where no repr is under way -/
structure FnG (P : Program) (w : World) (K : PySem.W.Frag) (mg : Str → Option Value) (base : Heap) (k : Nat) (f : Addr) (fd : FuncData)
    (ps : List Str) (sp : Sp) : Prop where
  len : ∀ vs H Q E, sp vs H Q E → vs.length = ps.length
  run : ∀ (A : Around) (outer : List Env) (s : Shared) (H : Hp) (args : Args) (us : List Value) (vs : List V) (Q : VK), Room k A → A.guards = some [] →
    Env0 P w K mg base A outer s H → BindsTo s fd args (ps.zip us) → Vals vs us → sp vs H Q noE →
    codeAny (model P w) A (.call (.ref f) args) (CR CX0 outer P w H s Q noE) s
theorem FnG.mono {j : Nat} (F : FnG P w K mg base j f fd ps sp) (h : j ≤ k) : FnG P w K mg base k f fd ps sp :=
  ⟨F.len, fun A outer s H args us vs Q hr => F.run A outer s H args us vs Q (hr.mono h)⟩
/-- outside of a suite: any object of the written part may be the pin -/
theorem FnP.ok {a : Addr} {o : Obj} (F : FnP P w K mg base k f fd ps (a, o) sp) (ho : K.lookup a = some o) (hc : ∀ v, o.data ≠ .cell v) :
    FnG P w K mg base k f fd ps sp := by
  refine ⟨F.len, fun A outer s H args us vs Q hr hgd e0 hb r hsp => ?_⟩
  have hz : base.get? a = some o := e0.mod.kin _ _ ho
  have pin : PinOk outer H s (a, o) := by
    refine ⟨(e0.bs a o hz).1, (e0.bs a o hz).2, fun hm => ?_, hc⟩
    have z := (e0.funs.mem hm).1
    rw [hz] at z
    cases z
  exact F.run A outer s H args us vs Q (L2H.roomH_of hr) hgd (.inl hr.hd) pin e0 hb r hsp
theorem FunD.okG (F : FunD K x qual pa bd sc [] [] f fd) (S : FnScope N ps sc) (len : ∀ vs H Q E, sp vs H Q E → vs.length = ps.length)
    (hbody : ∀ (cdv : Value) (A : Around) (outer : List Env) (s : Shared) (H : Hp) (vs : List V) (Q : VK), (A.deeper (envOfC qual sc s.heap.objs.size f cdv)).guards = some [] →
      Room k (A.deeper (envOfC qual sc s.heap.objs.size f cdv)) → sp vs H Q noE →
      ∃ t, PSs (cxOf CX0 P w K mg base N qual sc f cdv A outer s H noE) bd t ∧ t { nx := fun _ H' => Q .non H', rt := Q } (start N vs) H) :
    FnG P w K mg base (k + 1) f fd ps sp := by
  obtain ⟨oc, od, dV, kV, doc, pm, an, cdv, ct, osl, rfl, lk, hcd, _, _⟩ := F.ex
  refine ⟨len, fun A outer s H args us vs Q hr hgd e0 hb r hsp => ?_⟩
  have hlen := len _ _ _ _ hsp
  have kin : K.In s.heap := e0.mod.kin.keeps fun b o e => (e0.bs b o e).1
  have lim : s.heap.NoLimit := e0.mod.nolimit.keeps fun b o e => (e0.bs b o e).1
  have kinds : ∀ y ∈ ps.zip us, sc.names.lookup y.1 = some .local ∨
      (sc.names.lookup y.1 = some .cell ∧ ((cellsFrom (s.heap.objs.size + 1) sc.names []).lookup y.1).isSome = true) := by
    rintro ⟨n, v⟩ hy
    rcases S.par n (List.of_mem_zip hy).1 with q | q
    · exact .inl q
    · exact .inr ⟨q, PySem.W.cellsFrom_some _ _ _ (.inl q)⟩
  refine codeAny_call_function hr.depth (kin _ _ lk) rfl S.co S.gen rfl (PySem.W.codeRec_of kin hcd) (hb _ _ _ _ ?_)
  refine wpAny_newFunctionEnv_cells S.kind kinds fun env he s1 z => ?_
  subst he
  refine ⟨lim.keeps z.toInCall.keep, codeAny_func ?_⟩
  have I : Inv (cxOf CX0 P w K mg base N qual sc f cdv A outer s H noE) [] (start N vs) H s1 := inv_start S hr.hd e0 hlen r z
  obtain ⟨t, ht, hq⟩ := hbody cdv A outer s H vs Q hgd (hr.deeper _) hsp
  have fin : ∀ {σ1 : St} {H1 : Hp} {v : V} {u : Value} {s2 : Shared}, Inv (cxOf CX0 P w K mg base N qual sc f cdv A outer s H noE) [] σ1 H1 s2 → RelV v u → Q v H1 →
      CE outer P w H s Q u s2 := fun {σ1 H1 v u s2} J rv q => ⟨v, H1, J.os, J.bare, J.base, J.hok, rv, q⟩
  refine wpAny_mono (ht.run [] s1 (start N vs) H _ I hq) (fun fl s2 hs => ?_) fun e s2 hs => hs
  cases fl with
  | ret u =>
    obtain ⟨v, σ1, H1, J, rv, q⟩ := hs
    exact fin J rv q
  | next =>
    obtain ⟨σ1, H1, J, q⟩ := hs
    exact fin (v := V.non) (u := Value.none) J rfl q
  | brk =>
    obtain ⟨_, _, _, q⟩ := hs
    exact q.elim
  | cont =>
    obtain ⟨_, _, _, q⟩ := hs
    exact q.elim
end
section
variable {X : Cx} {k : Nat} {f : Addr} {fd : FuncData} {ps : List Str} {p : Pin} {sp : Sp} {x : Str} {np pos : Pos} {e : Expr} {es : List Expr} {t : TA}
theorem pe_callP (F : FnP X.prog X.w X.K X.mg X.base k f fd ps p sp) (hw : WarmC X p) (hr : RoomH k X.A) (hg : Gl X x) (hm : X.mg x = some (.ref f))
    (hk : PySem.W.keepIn X.K (.ref f) = true) (hb : Binds X.K fd ps []) (ha : PA X (e :: es) t) (hdb : (x == ("__debug__" : Str)) = false := by decide)
    (he : starEach (e :: es) X.env = (false, eval e X.env) :: starEach es X.env := by rfl) (hpl : (backTo pos (starEach es X.env)).any (·.1) = false := by rfl) :
    PE X (.Call (.Name x np) (e :: es) [] pos) (tCall sp [] noE t) := by
  refine ⟨fun pins s σ H Q I h => ?_⟩
  refine wpAny_Call_Name_kw (ld_glob I hg hm ?_ hdb)
  refine PySem.W.callWith_K (h₀ := X.base) I.ok.mod.kin hk ?_ he hpl
  refine thn (ha.run pos pins s σ H _ I h) fun us s1 ⟨vs, H1, I1, r, q⟩ => ⟨I1.kIn, ?_⟩
  have q : sp vs H1 Q noE := by
    have z : sp (vs ++ []) H1 Q noE := q
    rwa [List.append_nil] at z
  have hl : (us ++ []).length = ps.length := by
    rw [List.append_nil, ← r.length]
    exact F.len _ _ _ _ q
  have bb := hb s1 us I1.kIn hl
  rw [List.append_nil] at bb
  obtain ⟨g1, g2, g3, g4, g5⟩ := I1.pin p (List.mem_append_left _ hw.mem)
  have pin : PinOk X.stack H1 s1 p := ⟨g1, g2, fun hm => by
    rcases List.mem_cons.mp (I1.stkSub _ hm) with z | z
    · exact g3 z
    · exact g4 z, g5⟩
  refine wpAny_call (codeAny_mono (F.run X.A X.stack s1 H1 ⟨us, []⟩ us vs Q hr hw.gd hw.warm pin I1.env0 bb r q) fun rs s2 h2 => ?_)
  cases rs with
  | error er => exact False.elim h2
  | ok fl =>
    cases fl with
    | ret u => exact I1.after h2
    | next => exact h2.elim
    | brk => exact h2.elim
    | cont => exact h2.elim
theorem pe_callG (F : FnG X.prog X.w X.K X.mg X.base k f fd ps sp) (hgd : X.A.guards = some []) (hr : Room k X.A) (hg : Gl X x) (hm : X.mg x = some (.ref f))
    (hk : PySem.W.keepIn X.K (.ref f) = true) (hb : Binds X.K fd ps []) (ha : PA X (e :: es) t) (hdb : (x == ("__debug__" : Str)) = false := by decide)
    (he : starEach (e :: es) X.env = (false, eval e X.env) :: starEach es X.env := by rfl) (hpl : (backTo pos (starEach es X.env)).any (·.1) = false := by rfl) :
    PE X (.Call (.Name x np) (e :: es) [] pos) (tCall sp [] noE t) := by
  refine ⟨fun pins s σ H Q I h => ?_⟩
  refine wpAny_Call_Name_kw (ld_glob I hg hm ?_ hdb)
  refine PySem.W.callWith_K (h₀ := X.base) I.ok.mod.kin hk ?_ he hpl
  refine thn (ha.run pos pins s σ H _ I h) fun us s1 ⟨vs, H1, I1, r, q⟩ => ⟨I1.kIn, ?_⟩
  have q : sp vs H1 Q noE := by
    have z : sp (vs ++ []) H1 Q noE := q
    rwa [List.append_nil] at z
  have hl : (us ++ []).length = ps.length := by
    rw [List.append_nil, ← r.length]
    exact F.len _ _ _ _ q
  have bb := hb s1 us I1.kIn hl
  rw [List.append_nil] at bb
  refine wpAny_call (codeAny_mono (F.run X.A X.stack s1 H1 ⟨us, []⟩ us vs Q hr hgd I1.env0 bb r q) fun rs s2 h2 => ?_)
  cases rs with
  | error er => exact False.elim h2
  | ok fl =>
    cases fl with
    | ret u => exact I1.after h2
    | next => exact h2.elim
    | brk => exact h2.elim
    | cont => exact h2.elim
end
end L2

/-! list comprehensions, whether or not an exception is handled -/
namespace L2
open PySem PySem.Spec PyProof.Rows
open L2H (RoomH Hot1 PinOk)
open HotX (HotAt)
/-- at a heap: nothing is handled, or an exception without a context -/
def WarmH (A : Around) (h : Heap) : Prop := A.handled = none ∨ ∃ x1, HotAt A x1 h
/-- an iterator that goes and ends so -/
structure TurnW (P : Program) (w : World) (K : PySem.W.Frag) (tg : Expr) (J : It) (fp : List Addr) (it : Addr) (tn : Nat → Heap → Prop) : Prop where
  obj : ∀ i h, tn i h → ∀ b ∈ fp, ∃ o, h.get? b = some o ∧ ∀ v, o.data ≠ .cell v
  keep : ∀ i h h', tn i h → (∀ b ∈ fp, ∀ o, h.get? b = some o → h'.get? b = some o) → tn i h'
  item : ∀ (X : Cx), X.prog = P → X.w = w → X.K = K → ∀ (i : Nat) (pins : List Pin) (s : Shared) (σ : St) (H : Hp) (E : Value → Shared → Prop),
    WarmH X.A s.heap → Inv X pins σ H s → (∀ b ∈ fp, FpOk X pins H b) → tn i s.heap → J.go i H →
    wpAny (model P w) X.A (pyNext (.ref it)) (fun r s1 => ∃ u, r = some u ∧ wpAny (model P w) X.A (letOwnedTupleGo tg (.ref it) u)
      (fun _ s2 => ∃ x H', Inv X pins σ H' s2 ∧ RelV x u ∧ J.yld i H x H' ∧ tn (i + 1) s2.heap ∧ ∀ b ∈ fp, H' b = none) E s1) E s
  done : ∀ (X : Cx), X.prog = P → X.w = w → X.K = K → ∀ (i : Nat) (pins : List Pin) (s : Shared) (σ : St) (H : Hp) (E : Value → Shared → Prop),
    WarmH X.A s.heap → Inv X pins σ H s → (∀ b ∈ fp, FpOk X pins H b) → tn i s.heap → J.stop i H →
    wpAny (model P w) X.A (pyNext (.ref it)) (fun r s1 => r = none ∧ Inv X pins σ H s1) E s
  self : ∀ (A : Around) (i : Nat) (s : Shared) (Q : Value → Shared → Prop) (E : Value → Shared → Prop), tn i s.heap → Q (.ref it) s → wpAny (model P w) A (pyIter (.ref it)) Q E s
theorem turn_rangeW {P : Program} {w : World} {K : PySem.W.Frag} {tg : Expr} (it : Addr) (lo : Int) (n : Nat) :
    TurnW P w K tg (Itr lo n) [it] it (fun i h => IsRangeIter h it (lo + (i : Nat) * 1) ((n : Int) - (i : Nat)) 1) where
  obj := fun i h st b hb => by
    obtain rfl : b = it := by simpa using hb
    refine ⟨_, st, fun v z => ?_⟩
    have z1 : Data.fields _ = Data.cell v := z
    cases z1
  keep := fun i h h1 st k => k it (by simp) _ st
  item := by
    rintro X rfl rfl rfl i pins s σ H E hw I hf st hg
    obtain ⟨f0, f1, f2, f3, f4, f5⟩ := hf it (by simp)
    have lt : i < n := hg
    refine wpAny_pyNext_range_item st (by omega) fun h1 st1 sb => ?_
    have st2 : IsRangeIter h1 it (lo + ((i + 1 : Nat) : Int) * 1) ((n : Int) - ((i + 1 : Nat) : Int)) 1 := by
      have a1 : lo + ((i + 1 : Nat) : Int) * 1 = lo + ((i : Nat) : Int) * 1 + 1 := by omega
      have a2 : (n : Int) - ((i + 1 : Nat) : Int) = (n : Int) - ((i : Nat) : Int) - 1 := by omega
      rw [a1, a2]
      exact st1
    have I1 : Inv X pins σ H { s with heap := h1, toks := s.toks + 1 } :=
      I.turned (fun b o hb e => (sb.2 b hb).trans e) f0 f1 f3 f4 f5
    refine ⟨_, rfl, go_of (s := { s with heap := h1, toks := s.toks + 1 }) (n := "range_iterator") st2 rfl rfl (by decide) ?_⟩
    refine ⟨.int (lo + i), H, I1, ⟨s.toks, ?_⟩, ⟨rfl, rfl⟩, st2, fun b hb => (hf b hb).1⟩
    rw [Int.mul_one]
  done := by
    rintro X rfl rfl rfl i pins s σ H E hw I hf st hg
    obtain ⟨f0, f1, f2, f3, f4, f5⟩ := hf it (by simp)
    have le : n ≤ i := hg
    have z : (n : Int) - (i : Nat) ≤ 0 := by omega
    rcases hw with hw | ⟨x1, hot⟩
    · exact wpAny_pyNext_range_end hw st z fun h1 eb => ⟨rfl, I.turned (t' := s.toks) (fun b o hb e => eb b o hb e) f0 f1 f3 f4 f5⟩
    · exact HotX.pyNext_range_end_hot hot st z fun h1 eb => ⟨rfl, I.turned (t' := s.toks) (fun b o _ e => eb b o e) f0 f1 f3 f4 f5⟩
  self := fun _ _ _ _ _ st h => wpAny_pyIter_rangeiter st h
def PIEW (X : Cx) (pins : List Pin) (σ : St) (tg : Expr) (R : It → Hp → Prop) (itv : Value) (s2 : Shared) : Prop :=
  ∃ (it : Addr) (fp : List Addr) (tn : Nat → Heap → Prop) (J : It) (H' : Hp), itv = .ref it ∧ Inv X pins σ H' s2 ∧
    TurnW X.prog X.w X.K tg J fp it tn ∧ tn 0 s2.heap ∧ (∀ b ∈ fp, FpOk X pins H' b) ∧ R J H'
structure PIW (X : Cx) (tg iter : Expr) (wi : TI) : Prop where
  run : ∀ (pins : List Pin) (s : Shared) (σ : St) (H : Hp) (R : It → Hp → Prop), Inv X pins σ H s → wi σ H R →
    wpAny (model X.prog X.w) X.A (eval iter X.env) (fun v s1 => wpAny (model X.prog X.w) X.A (pyIter v) (PIEW X pins σ tg R) X.xe s1) X.xe s
section
variable {X : Cx} {tg : Expr}
theorem range_itW {pins : List Pin} {σ : St} {H : Hp} {s : Shared} {R : It → Hp → Prop} {E : Value → Shared → Prop} {lo hi : Int} {t u v : Tok} {tk : Nat}
    (I : Inv X pins σ H s) (h1 : -(2 ^ 62) ≤ lo) (h2 : lo < 2 ^ 62) (h3 : -(2 ^ 62) ≤ hi) (h4 : hi < 2 ^ 62) (q : R (Itr lo (hi - lo).toNat) H) :
    wpAny (model X.prog X.w) X.A (pyIter (.ref s.heap.objs.size)) (PIEW X pins σ tg R) E
      { s with heap := s.heap.push { cls := .type "range", data := .fields #[.int lo t, .int hi u, .int 1 v] }, toks := tk } := by
  generalize hro : ({ cls := .type "range", data := .fields #[.int lo t, .int hi u, .int 1 v] } : Obj) = ro
  have isR : IsRange (s.heap.push ro) s.heap.objs.size lo hi 1 t u v := by
    rw [← hro]
    exact IsRange.new ..
  refine wpAny_pyIter_range isR (small_one h1 h2 h3 h4) ?_
  have I1 : Inv X pins σ H { s with heap := s.heap.push ro, toks := tk } := I.kept fun b o e => Heap.get?_push_of_some _ e
  refine ⟨(s.heap.push ro).objs.size, [(s.heap.push ro).objs.size], _, _, H, rfl, I1.kept (t' := tk) fun b o e => Heap.get?_push_of_some _ e,
    turn_rangeW _ lo (hi - lo).toNat, ?_, fun b hb => ?_, q⟩
  · have a1 : lo + ((0 : Nat) : Int) * 1 = lo := by simp
    have a2 : (((hi - lo).toNat : Nat) : Int) - ((0 : Nat) : Int) = Builtin.Range.rangeSize lo hi 1 := by
      rw [rangeSize_one]
      split <;> omega
    show IsRangeIter _ _ (lo + ((0 : Nat) : Int) * 1) ((((hi - lo).toNat : Nat) : Int) - ((0 : Nat) : Int)) 1
    rw [a1, a2]
    exact Heap.get?_push_size _ rfl
  · obtain rfl : b = (s.heap.push ro).objs.size := by simpa using hb
    exact I1.fpOk (Nat.le_refl _) (I1.hok.fresh (Nat.le_refl _))
theorem pi_range1W {a : Expr} {ta : TA} {p pos : Pos} (hg : Gl X "range") (hm : X.mg "range" = none) (ha : PA X [a] ta)
    (hs : starEach [a] X.env = [(false, eval a X.env)] := by rfl) : PIW X tg (.Call (.Name "range" p) [a] [] pos) (iRng1 ta) := by
  refine ⟨fun pins s σ H R I h => ?_⟩
  refine Call_ (ld_blt I hg hm boot_range (PyProof.Rows.callWith_type1 ?_ hs rfl))
  refine thn (ha.run pos pins s σ H _ I h) fun us s1 ⟨vs, H1, I1, r1, j, e, q1, q2, q⟩ => ?_
  subst e
  obtain ⟨y, rfl, ry⟩ := vals1 r1
  obtain ⟨tk, rfl⟩ : ∃ tk, y = Value.int j tk := ry
  exact call_range_1 (range_itW I1 (by omega) (by omega) q1 q2 (by simpa using q))
end
end L2

namespace L2
open PySem PySem.Spec PyProof.Rows
open L2H (RoomH Hot1 PinOk)
section
variable {X : Cx} {p : Pin}
theorem WarmC.at (c : WarmC X p) {h : Heap} (g : h.get? p.1 = some p.2) : WarmH X.A h := by
  rcases c.warm with z | ⟨z, vs, h1, h2⟩
  · exact .inl z
  · exact .inr ⟨p.1, z, p.2, vs, g, h1, h2⟩
theorem lcW_core {pins : List Pin} {s : Shared} {σ : St} {H : Hp} {Q : VK} {elt tg iter : Expr} {ifs : List Expr} {scope : Scope} {own : List (Str × Nat)}
    {pos pos1 : Pos} {wi : TI} {g : TG} {tt : TT} {te : TE} {use : Option (Value → Sem Unit)} {Qf : Value → Shared → Prop} (wc : WarmC X p)
    (hN : X.N.Nodup) (I : Inv X pins σ H s) (hi : PIW X tg iter wi) (ok : BlkOk X.N X.env.scope scope own)
    (hg : ∀ (s : Shared) (H : Hp) (C : Addr) (cl : List (Str × Addr)) (fp : List Addr), PG (X.blk s H scope (compEnvC scope cl C X.env) fp) tg g)
    (ht : ∀ (s : Shared) (H : Hp) (C : Addr) (cl : List (Str × Addr)) (fp : List Addr), PTs (X.blk s H scope (compEnvC scope cl C X.env) fp) ifs tt)
    (he : ∀ (s : Shared) (H : Hp) (C : Addr) (cl : List (Str × Addr)) (fp : List Addr), PE (X.blk s H scope (compEnvC scope cl C X.env) fp) elt te)
    (hs : ∀ x, foldedSetIterable iter X.env x = pure x) (h : tLc wi g tt te (own.map (·.2)) σ H Q)
    (back : ∀ D C s1 m H1, Inv X pins σ H1 s1 → Q (.ref D) H1 → s1.heap.Ns C m → FpOk X pins H1 C →
      compPost (model X.prog X.w) X.A X.xe use Qf (.ref D) C (.ok .next) s1) :
    wpAny (model X.prog X.w) X.A (comprehension (.ListComp elt [⟨tg, iter, ifs, 0⟩] scope pos) scope X.env pos1 (newList []) false (eval iter X.env) use) Qf X.xe s := by
  have frees : ∀ y ∈ scope.names, y.2 = .free → ∃ c, X.env.cells.lookup y.1 = some c := by
    intro y hy e
    exact (ok.free y hy e).elim (fun k => I.ok.has _ (.inl k)) fun k => I.ok.has _ (.inr k)
  refine wpAny_comprehension_free (use := use) rfl hs (closure_ok frees) ok.kind (fun y hy e => by rw [ok.uniq y hy, e]) ?_
  refine thn (hi.run pins s σ H _ I h) fun xv s1 hx => thn hx fun itv s2 h2 => ?_
  obtain ⟨it, fp, tn, J, H2, e, I2, T, st2, f2, q⟩ := h2
  subst e
  refine wpAny_newObj_type (newEnv_comp ?_) (by show 0 ≤ sizeLine; decide)
  generalize hD : s2.heap.objs.size = D
  have freeD : H2 D = none := I2.hok.fresh (Nat.le_of_eq hD)
  obtain ⟨W, ⟨m0, w0⟩, turn⟩ := q D freeD
  generalize hs3 : ({ s2 with heap := s2.heap.push { cls := .type "list", data := .seq ([] : List Value).toArray } } : Shared) = s3
  have heap3 : s3.heap = s2.heap.push { cls := .type "list", data := .seq ([] : List Value).toArray } := by
    rw [← hs3]
  have I3 : Inv X pins σ (upd H2 D (.lst [])) s3 := by
    rw [← hs3]
    refine I2.laid (t' := s2.toks) (fun b o e => Heap.get?_push_of_some _ e) (Nat.le_of_eq hD) ?_
    refine ⟨Nat.zero_le _, [], 0, .nil, ?_⟩
    rw [← hD]
    exact Heap.get?_push_size _ rfl
  have lts : ∀ b ∈ fp, b < s2.heap.objs.size := by
    intro b hb
    obtain ⟨o, e, _⟩ := T.obj _ _ st2 b hb
    exact Heap.lt_size e
  have f3 : ∀ b ∈ fp, FpOk X pins (upd H2 D (.lst [])) b ∧ b < s3.heap.objs.size := by
    intro b hb
    have lt := lts b hb
    refine ⟨⟨?_, (f2 b hb).2⟩, ?_⟩
    · rw [upd_ne (by rw [← hD]; exact Nat.ne_of_lt lt)]
      exact (f2 b hb).1
    · rw [heap3, Heap.size_push]
      exact Nat.lt_succ_of_lt lt
  have st3 : tn 0 s3.heap := T.keep _ _ _ st2 fun b _ o e => by
    rw [heap3]
    exact Heap.get?_push_of_some _ e
  have I4 := block_start I3 ok hN f3
  generalize hcl : cellsFrom (s3.heap.objs.size + 1) scope.names (cloFrom X.env.cells scope.names []) = cl at I4
  have pg := hg s3 (upd H2 D (.lst [])) s3.heap.objs.size cl fp
  have pt := ht s3 (upd H2 D (.lst [])) s3.heap.objs.size cl fp
  have pe := he s3 (upd H2 D (.lst [])) s3.heap.objs.size cl fp
  show codeAny _ _ (.compStart (.ListComp elt [⟨tg, iter, ifs, 0⟩] scope pos) 0 (.ref it) (.ref D) (compEnvC scope cl s3.heap.objs.size X.env))
    (compPost (model X.prog X.w) X.A X.xe use Qf (.ref D) s3.heap.objs.size)
    { s3 with heap := pushCells (s3.heap.push { cls := .type "dict", data := .dict #[] }) scope.names }
  have nofp : ∀ b ∈ fp, (upd H2 D (.lst [])) b = none := fun b hb => (f3 b hb).1.1
  generalize hce : compEnvC scope cl s3.heap.objs.size X.env = ce at I4 pg pt pe ⊢
  have locC : ce.locals = s3.heap.objs.size := by
    subst hce
    rfl
  generalize hH3 : upd H2 D (.lst []) = H3 at I3 I4 pg pt pe w0 nofp f3
  generalize hs4 : ({ s3 with heap := pushCells (s3.heap.push { cls := .type "dict", data := .dict #[] }) scope.names } : Shared) = s4 at I4 ⊢
  have st4 : tn 0 s4.heap := T.keep _ _ _ st3 fun b _ o e => by
    rw [← hs4]
    exact pushCells_keeps _ _ _ _ (Heap.get?_push_of_some _ e)
  -- the handled exception stays within the block
  obtain ⟨g1, g2, g3, g4, g5⟩ := I3.pin p (List.mem_append_left _ wc.mem)
  have ns : p.1 ∉ frs X.stack := fun hm => by
    rcases List.mem_cons.mp (I3.stkSub _ hm) with z | z
    · exact g3 z
    · exact g4 z
  have nf : p.1 ∉ fp := fun hm => (f3 _ hm).1.2.2.2.2.2 p (List.mem_append_left _ wc.mem) rfl
  have warm : ∀ {pn1 : List Pin} {σ1 : St} {H1 : Hp} {s1 : Shared}, Inv (X.blk s3 H3 scope ce fp) pn1 σ1 H1 s1 → WarmH (X.blk s3 H3 scope ce fp).A s1.heap := by
    intro pn1 σ1 H1 s1 J
    exact wc.at (J.base.keep p.1 p.2 g1 g2 ns nf)
  have stat : ∀ {σ1 : St} {H1 : Hp} {s1 : Shared}, Inv (X.blk s3 H3 scope ce fp) [] σ1 H1 s1 → (∀ b ∈ fp, H1 b = none) →
      ∀ b ∈ fp, FpOk (X.blk s3 H3 scope ce fp) [] H1 b := by
    intro σ1 H1 s1 J hn b hb
    refine ⟨hn b hb, (J.ok.exf b hb).1, J.ok.exfs b hb, .inl hb, fun x c e => (J.ok.exf b hb).2 x c e, fun q hq => ?_⟩
    have z : q ∈ ([] : List Pin) ++ [] := hq
    simp at z
  refine codeAny_compStart_list ?loop (T.self X.A 0 _ _ _ st4 ?loop2)
  case loop2 => exact ?loop
  refine compLoop_any (fun n s1 => ∃ i H1, Inv (X.blk s3 H3 scope ce fp) [] (wipe σ (own.map (·.2))) H1 s1 ∧ tn i s1.heap ∧ (∀ b ∈ fp, H1 b = none) ∧ W i n H1)
    ?_ m0 ⟨0, H3, I4, st4, nofp, w0⟩
  rintro n s5 ⟨i, H5, I5, st5, n5, w5⟩
  rcases turn i n H5 w5 with ⟨stop, qq⟩ | ⟨go, Nx, hNx, step⟩
  · refine thnF (T.done (X.blk s3 H3 scope ce fp) rfl rfl rfl i [] s5 _ H5 (fun _ _ => False) (warm I5) I5 (stat I5 n5) st5 stop) fun r s6 ⟨hr, I6⟩ => ?_
    subst hr
    have I7 : Inv X pins σ H5 s6 := I3.call' (ch := fp) I6.os I6.base I6.hok I6.bare fun b hb =>
      ⟨(f3 b hb).1.2.2.2.1, (f3 b hb).1.2.1, (f3 b hb).1.2.2.2.2.1, (f3 b hb).1.2.2.2.2.2⟩
    have nC : H5 s3.heap.objs.size = none := by
      have z : H5 ce.locals = none := I6.free
      rwa [locC] at z
    obtain ⟨m, hn, _⟩ := I6.loc
    have hn1 : s6.heap.Ns ce.locals m := hn
    rw [locC] at hn1
    exact back D s3.heap.objs.size s6 m H5 I7 qq hn1 (I3.fpOk (Nat.le_refl _) nC)
  · refine thnF (T.item (X.blk s3 H3 scope ce fp) rfl rfl rfl i [] s5 _ H5 (fun _ _ => False) (warm I5) I5 (stat I5 n5) st5 go) fun r s6 ⟨u, hr, h6⟩ => ?_
    subst hr
    refine thnF h6 fun _ s7 ⟨x, H7, I7, r7, y7, st7, n7⟩ => ?_
    have P7 := I7.pinned (stat I7 n7) (T.obj _ _ st7)
    refine thnF (pg.run _ s7 _ H7 x u _ P7 r7 (step x H7 y7)) fun _ s8 ⟨σ8, H8, I8, hw8, q8⟩ => ?_
    refine thnF (pt.run _ s8 σ8 H8 _ I8 q8) fun b s9 ⟨H9, I9, q9⟩ => ?_
    have fin : ∀ {s1 : Shared} {H1 : Hp}, Inv (X.blk s3 H3 scope ce fp) ([] ++ pinsAt fp s7.heap) σ8 H1 s1 → Nx H1 → ∃ m, m < n ∧
        ∃ i H1, Inv (X.blk s3 H3 scope ce fp) [] (wipe σ (own.map (·.2))) H1 s1 ∧ tn i s1.heap ∧ (∀ b ∈ fp, H1 b = none) ∧ W i m H1 := by
      intro s1 H1 J nx
      obtain ⟨m1, hm, w1⟩ := hNx H1 nx
      have kept : ∀ b ∈ fp, ∀ o, s7.heap.get? b = some o → s1.heap.get? b = some o ∧ H1 b = none := by
        intro b hb o e
        have z := J.pin (b, o) (List.mem_append_right _ (List.mem_append_right _ (mem_pinsAt hb e)))
        exact ⟨z.1, z.2.1⟩
      have hl : (wipe σ (own.map (·.2))).length = σ8.length := by
        rw [← hw8, wipe_length]
      refine ⟨m1, hm, i + 1, H1, (J.unpinned (pins := [])).weak hl (fun j v e => ?_), ?_, fun b hb => ?_, w1⟩
      · rw [← hw8] at e
        exact (wipe_some e).1
      · exact T.keep _ _ _ st7 fun b hb o e => (kept b hb o e).1
      · obtain ⟨o, e, _⟩ := T.obj _ _ st7 b hb
        exact (kept b hb o e).2
    cases b with
    | false =>
      simp only [Bool.false_eq_true, if_false] at q9 ⊢
      exact fin I9 q9
    | true =>
      simp only [if_true] at q9 ⊢
      refine thnF (pe.run _ s9 σ8 H9 _ I9 q9) fun z s10 ⟨yv, H10, I10, r10, acc, hD10, hz10, nx⟩ => ?_
      exact app_ok (X := X.blk s3 H3 scope ce fp) I10 hD10 hz10 r10 fun s11 I11 => fin I11 nx
/-- as a value -/
theorem pe_lcW {elt tg iter : Expr} {ifs : List Expr} {scope : Scope} {own : List (Str × Nat)} {pos : Pos} {wi : TI} {g : TG} {tt : TT} {te : TE} (wc : WarmC X p)
    (hN : X.N.Nodup) (hi : PIW X tg iter wi) (ok : BlkOk X.N X.env.scope scope own)
    (hg : ∀ (s : Shared) (H : Hp) (C : Addr) (cl : List (Str × Addr)) (fp : List Addr), PG (X.blk s H scope (compEnvC scope cl C X.env) fp) tg g)
    (ht : ∀ (s : Shared) (H : Hp) (C : Addr) (cl : List (Str × Addr)) (fp : List Addr), PTs (X.blk s H scope (compEnvC scope cl C X.env) fp) ifs tt)
    (he : ∀ (s : Shared) (H : Hp) (C : Addr) (cl : List (Str × Addr)) (fp : List Addr), PE (X.blk s H scope (compEnvC scope cl C X.env) fp) elt te)
    (hs : ∀ x, foldedSetIterable iter X.env x = pure x := by intro _; rfl) :
    PE X (.ListComp elt [⟨tg, iter, ifs, 0⟩] scope pos) (tLc wi g tt te (own.map (·.2))) := by
  refine ⟨fun pins s σ H Q I h => ?_⟩
  rw [eval_ListComp]
  refine lcW_core wc hN I hi ok hg ht he hs h fun D C s1 m H1 J q hn f => ⟨m, hn, fun h2 sb => ?_⟩
  obtain ⟨f0, f1, f2, f3, f4, f5⟩ := f
  exact ⟨.ref D, H1, J.turned (t' := s1.toks) (fun b o hb e => (sb.2 b hb).trans e) f0 f1 f3 f4 f5, rfl, q⟩
end
end L2

/-! repr of what is made of None, bools, ints, texts, lists, tuples, dicts -/
namespace L2
open PySem PySem.Spec PyProof.Rows
mutual
/-- the value v is the data d, all of whose objects are tracked -/
inductive Rdd (H : Hp) : V → PyData → Prop
  | non : Rdd H .non .none
  | bl (b) : Rdd H (.bl b) (.bool b)
  | int (i) : Rdd H (.int i) (.int i)
  | str (x) : Rdd H (.str x) (.str x)
  | lst {a xs ds} : H a = some (.lst xs) → RddAll H xs ds → Rdd H (.ref a) (.list ds)
  | tup {a xs ds} : H a = some (.tup xs) → RddAll H xs ds → Rdd H (.ref a) (.tuple ds)
  | dK {a kvs ds} : H a = some (.dK kvs) → RddAll H (kvs.map fun p => kV p.1) (ds.map (·.1)) → RddAll H (kvs.map (·.2)) (ds.map (·.2)) → Rdd H (.ref a) (.dict ds)
inductive RddAll (H : Hp) : List V → List PyData → Prop
  | nil : RddAll H [] []
  | cons {v d vs ds} : Rdd H v d → RddAll H vs ds → RddAll H (v :: vs) (d :: ds)
end
mutual
theorem Rdd.mono {H H' : Hp} (k : ∀ b o, H b = some o → H' b = some o) : ∀ {v : V} {d : PyData}, Rdd H v d → Rdd H' v d
  | _, _, .non => .non
  | _, _, .bl b => .bl b
  | _, _, .int i => .int i
  | _, _, .str x => .str x
  | _, _, .lst h r => .lst (k _ _ h) (RddAll.mono k r)
  | _, _, .tup h r => .tup (k _ _ h) (RddAll.mono k r)
  | _, _, .dK h r q => .dK (k _ _ h) (RddAll.mono k r) (RddAll.mono k q)
theorem RddAll.mono {H H' : Hp} (k : ∀ b o, H b = some o → H' b = some o) : ∀ {vs : List V} {ds : List PyData}, RddAll H vs ds → RddAll H' vs ds
  | _, _, .nil => .nil
  | _, _, .cons r t => .cons (Rdd.mono k r) (RddAll.mono k t)
end
section
variable {P : Program} {w : World} {H : Hp} {h : Heap}
theorem kv_rel {k : Key} {u : Value} (e : keyIs k u = true) : RelV (kV k) u := by
  rcases keyIs_shape e with ⟨i, t, rfl, rfl⟩ | ⟨x, t, rfl, rfl⟩
  · exact ⟨t, rfl⟩
  · exact ⟨t, rfl⟩
theorem pairs_keys {es : List DictEntry} {vs : List (Key × Value)} (h : Pairs (mixKind P w) es vs) :
    Vals (vs.map fun p => kV p.1) (es.map (·.key)) ∧ es.map (·.val) = vs.map (·.2) := by
  induction h with
  | nil => exact ⟨.nil, rfl⟩
  | cons h1 h2 _ ih =>
    refine ⟨.cons (kv_rel h1) ih.1, ?_⟩
    rw [List.map_cons, List.map_cons, h2, ih.2]
theorem kv_keys : ∀ {kvs : List (Key × V)} {vs : List (Key × Value)}, KV kvs vs → (kvs.map fun p => kV p.1) = (vs.map fun p => kV p.1) ∧ Vals (kvs.map (·.2)) (vs.map (·.2))
  | _, _, .nil => ⟨rfl, .nil⟩
  | _, _, .cons r t => by
    obtain ⟨h1, h2⟩ := kv_keys t
    refine ⟨?_, .cons r.2 h2⟩
    rw [List.map_cons, List.map_cons, h1, r.1]
mutual
theorem Rdd.reads (ok : HOk P w H h) : ∀ {v : V} {d : PyData} {u : Value}, Rdd H v d → RelV v u → ∃ as, Reads h u d as ∧ ∀ a ∈ as, ∃ o, H a = some o
  | _, _, u, .non, r => by
    obtain rfl : u = Value.none := r
    exact ⟨[], .none, fun a z => nomatch z⟩
  | _, _, u, .bl b, r => by
    obtain rfl : u = Value.bool b := r
    exact ⟨[], .bool b, fun a z => nomatch z⟩
  | _, _, u, .int i, r => by
    obtain ⟨t, rfl⟩ : ∃ t, u = Value.int i t := r
    exact ⟨[], .int i t, fun a z => nomatch z⟩
  | _, _, u, .str x, r => by
    obtain ⟨t, rfl⟩ : ∃ t, u = Value.str x t := r
    exact ⟨[], .str x t, fun a z => nomatch z⟩
  | _, _, u, .lst (a := a) (xs := xs) e q, r => by
    obtain rfl : u = Value.ref a := r
    obtain ⟨_, its, n, rv, g⟩ := (show ObjOk P w H h a (.lst xs) from ok a _ e)
    obtain ⟨as, z, k⟩ := RddAll.reads ok q rv
    refine ⟨a :: as, .list g rfl rfl z, fun b hb => ?_⟩
    rcases List.mem_cons.mp hb with rfl | hb
    · exact ⟨_, e⟩
    · exact k b hb
  | _, _, u, .tup (a := a) (xs := xs) e q, r => by
    obtain rfl : u = Value.ref a := r
    obtain ⟨_, its, rv, o, g, c, n, hd⟩ := (show ObjOk P w H h a (.tup xs) from ok a _ e)
    obtain ⟨as, z, k⟩ := RddAll.reads ok q rv
    exact ⟨as, .tuple g c hd z, k⟩
  | _, _, u, .dK (a := a) (kvs := kvs) e q1 q2, r => by
    obtain rfl : u = Value.ref a := r
    obtain ⟨_, _, vs, rk, o, es, ep, g, ex, hd, _, pr, _⟩ := (show ObjOk P w H h a (.dK kvs) from ok a _ e)
    obtain ⟨k1, k2⟩ := pairs_keys pr
    obtain ⟨k3, k4⟩ := kv_keys rk
    rw [← k3] at k1
    obtain ⟨as, z1, t1⟩ := RddAll.reads ok q1 k1
    rw [← k2] at k4
    obtain ⟨bs, z2, t2⟩ := RddAll.reads ok q2 k4
    refine ⟨a :: as ++ bs, .dict g ex.1 hd z1 z2, fun b hb => ?_⟩
    rcases List.mem_append.mp hb with hb | hb
    · rcases List.mem_cons.mp hb with rfl | hb
      · exact ⟨_, e⟩
      · exact t1 b hb
    · exact t2 b hb
theorem RddAll.reads (ok : HOk P w H h) : ∀ {vs : List V} {ds : List PyData} {us : List Value}, RddAll H vs ds → Vals vs us →
    ∃ as, ReadsAll h us ds as ∧ ∀ a ∈ as, ∃ o, H a = some o
  | _, _, _, .nil, r => by
    cases r
    exact ⟨[], .nil, fun a z => nomatch z⟩
  | _, _, _, .cons q t, r => by
    cases r with
    | cons r1 r2 =>
      obtain ⟨as, z, k⟩ := Rdd.reads ok q r1
      obtain ⟨bs, z2, k2⟩ := RddAll.reads ok t r2
      refine ⟨as ++ bs, .cons z z2, fun b hb => ?_⟩
      rcases List.mem_append.mp hb with hb | hb
      · exact k b hb
      · exact k2 b hb
end
end
def rRepr : List V → Hp → VK → Prop := fun xs H Q => ∃ (v : V) (d : PyData), xs = [v] ∧ Rdd H v d ∧ d.showable = true ∧ d.depth ≤ 32 ∧
  d.shown.length ≤ sizeLine ∧ Q (.str d.shown) H
theorem call_repr {X : Cx} (hgd : X.A.guards = some []) (hu : X.A.units + 64 < cLine) (hsy : ∃ o, X.K.lookup sysModules = some o) :
    CallR X (.builtin "repr") rRepr := by
  intro pins s σ H xs us Q I r h
  obtain ⟨v, d, rfl, q, hs, hd, hz, hq⟩ := h
  obtain ⟨u, rfl, ru⟩ := vals1 r
  obtain ⟨o, ho⟩ := hsy
  have free : H sysModules = none := (I.bs _ _ (I.ok.mod.kin _ _ ho)).2
  have ref : ∀ a as, Reads s.heap (.ref a) d as → (∀ b ∈ as, ∃ o, H b = some o) → wpAny (model X.prog X.w) X.A (call (.builtin "repr") [.ref a]) (EP X pins σ Q) X.xe s := by
    intro a as z k
    refine repr_of_reads' z hs (fun _ hm => ?_) hgd (by omega) (fun _ _ e => e) (fun h1 u1 tk hk => ?_) hz
    · obtain ⟨o1, e1⟩ := k _ hm
      rw [free] at e1
      cases e1
    · exact ⟨.str d.shown, H, I.kept (t' := tk) hk, ⟨_, rfl⟩, hq⟩
  have val : ∀ tk, EP X pins σ Q (.str d.shown s.toks) { s with toks := tk } := fun tk => ⟨.str d.shown, H, I.tok _, ⟨_, rfl⟩, hq⟩
  obtain ⟨as, z, k⟩ := q.reads I.hok ru
  cases q with
  | non =>
    obtain rfl : u = Value.none := ru
    exact PySem.P.repr_of_none (val _)
  | bl b =>
    obtain rfl : u = Value.bool b := ru
    exact PySem.P.repr_of_bool (val _)
  | int i =>
    obtain ⟨t, rfl⟩ : ∃ t, u = Value.int i t := ru
    exact PySem.P.repr_of_int (of_decide_eq_true hs) (val _)
  | str x =>
    obtain ⟨t, rfl⟩ : ∃ t, u = Value.str x t := ru
    exact PySem.P.repr_of_str (val _) hz
  | lst e _ =>
    obtain rfl : u = _ := ru
    exact ref _ _ z k
  | tup e _ =>
    obtain rfl : u = _ := ru
    exact ref _ _ z k
  | dK e _ _ =>
    obtain rfl : u = _ := ru
    exact ref _ _ z k
end L2

/-! != of two lists whose items are equal, whatever these are -/
namespace PySem.SeqAt
open AutoSeq1 (wpAny_loadPart')
open MeetsSeq MeetsSeq2 MeetsSeq3
section
variable {prog : Program} {w : World}
theorem ne_loopE (l r : Addr) (xs ys : Array Value) (n m : Nat) (d1 d2 : Option Addr) (s1 s2 : Array (Option Value)) (hsz : xs.size = ys.size) (k : Nat) :
    ∀ i : Nat, xs.size - i = k → MeetsIn prog w (Builtin.«list.__eq__.loop» ⟨[.ref l, .ref r, rawInt i, rawInt 3], []⟩)
      (fun A R s => s.heap.get? l = some { cls := .type "list", dict := d1, data := .seq xs n, slots := s1 } ∧
        s.heap.get? r = some { cls := .type "list", dict := d2, data := .seq ys m, slots := s2 } ∧
        (∀ j (h1 : j < xs.size) (h2 : j < ys.size), EqP prog w A.in1 s xs[j] ys[j] true) ∧ R (.ok (.ret (.bool false))) s) := by
  induction k with
  | zero =>
    intro i hk A R s h
    obtain ⟨hp, gs, dr, tk, os⟩ := s
    obtain ⟨hl, hr, he, h⟩ := h
    wp_walk using wpAny_loadPart' hl, wpAny_loadPart' hr
    have z1 : xs[((i : Nat) : Int).toNat]? = none := by simp; omega
    have z2 : ys[((i : Nat) : Int).toNat]? = none := by simp; omega
    rw [z1, z2]
    wp_walk using wpAny_loadPart' hl, wpAny_loadPart' hr
    show R (.ok (.ret (.bool (xs.size != ys.size)))) _
    rw [hsz]
    simpa using h
  | succ k ih =>
    intro i hk A R s h
    obtain ⟨hp, gs, dr, tk, os⟩ := s
    obtain ⟨hl, hr, he, h⟩ := h
    wp_walk using wpAny_loadPart' hl, wpAny_loadPart' hr
    have l1 : i < xs.size := by omega
    have l2 : i < ys.size := by omega
    have z1 : xs[((i : Nat) : Int).toNat]? = some xs[i] := by simp [l1]
    have z2 : ys[((i : Nat) : Int).toNat]? = some ys[i] := by simp [l2]
    have up : ((i : Int) + 1) = ((i + 1 : Nat) : Int) := by omega
    rw [z1, z2]
    refine wpAny_bind (he i l1 l2 _ _ ?_)
    wp_walk
    rw [up]
    refine ⟨plainId_quiet plain_eq_loop _, codeAny_builtin entry_eq_loop ?_⟩
    rw [Around.under_plainId plain_eq_loop _]
    exact ih (i + 1) (by omega) A R _ ⟨hl, hr, he, h⟩
theorem list_neE (l r : Addr) (xs ys : Array Value) (n m : Nat) (d1 d2 : Option Addr) (s1 s2 : Array (Option Value)) (hsz : xs.size = ys.size) :
    MeetsIn prog w (Builtin.«list.__ne__» ⟨[.ref l, .ref r], []⟩)
      (fun A R s => s.heap.get? l = some { cls := .type "list", dict := d1, data := .seq xs n, slots := s1 } ∧
        s.heap.get? r = some { cls := .type "list", dict := d2, data := .seq ys m, slots := s2 } ∧
        (∀ j (h1 : j < xs.size) (h2 : j < ys.size), EqP prog w A.in1 s xs[j] ys[j] true) ∧ R (.ok (.ret (.bool false))) s) := by
  intro A R s h
  obtain ⟨hp, gs, dr, tk, os⟩ := s
  obtain ⟨hl, hr, he, h⟩ := h
  have f3 := AutoSeq1.sub_list_list
  have same : ¬ (xs.size != ys.size) = true := by simp [hsz]
  wp_walk using wpAny_loadPart' hl, wpAny_loadPart' hr
  refine ⟨plainId_quiet plain_eq_loop _, codeAny_builtin entry_eq_loop ?_⟩
  rw [Around.under_plainId plain_eq_loop _]
  exact ne_loopE l r xs ys n m d1 d2 s1 s2 hsz _ 0 rfl A R _ ⟨hl, hr, he, h⟩
theorem rcNe_lists {A : Around} {s : Shared} {l r : Addr} {xs ys : Array Value} (hl : s.heap.IsList l xs) (hr : s.heap.IsList r ys) (hsz : xs.size = ys.size) (hu : A.units < cLine)
    (he : ∀ j (h1 : j < xs.size) (h2 : j < ys.size), EqP prog w A.in1 s xs[j] ys[j] true) (E Q : Value → Shared → Prop) (h : Q (.bool false) s) :
    wpAny (model prog w) A (richCompare .NotEq (.ref l) (.ref r)) Q E s := by
  obtain ⟨⟨c1, e1, f1, g1⟩, o1, hc1, n, hd1⟩ := id hl
  obtain ⟨⟨c2, e2, f2, g2⟩, o2, hc2, m, hd2⟩ := id hr
  simp only at hc1 hd1 hc2 hd2
  subst hc1 hd1 hc2 hd2
  have t1 : s.TypeIs (.ref l) "list" := ⟨_, o1, rfl⟩
  have t2 : s.TypeIs (.ref r) "list" := ⟨_, o2, rfl⟩
  refine wpAny_richCompare_same_room (op := .NotEq) t1 t2 F.slot_list_ne ?_ hu
  refine call_meetsIn F.slot_list_ne t1 F.entry_list_ne (F.args_list_ne_2 _ _) (list_neE l r xs ys n m e1 e2 g1 g2 hsz) ?_
  exact ⟨o1, o2, he, show Value.bool false ≠ Value.notImplemented ∧ Q (.bool false) s from ⟨(fun x => nomatch x), h⟩⟩
end
end PySem.SeqAt
namespace L2
open PySem PySem.Spec PyProof.Rows
/-- a != b, two lists of equal items -/
def rNeV (K : PySem.W.Frag) : R2 := fun x y H Q => ∃ (n : Nat) (a b : Addr) (xs ys : List V), n ≤ 60 ∧ x = .ref a ∧ y = .ref b ∧ SqL K H a xs ∧ SqL K H b ys ∧ Paired (EqV K H n) xs ys ∧ Q (.bl false) H
theorem op_neV {X : Cx} (hu : X.A.units + 64 < cLine) : OpR X (compareOp .NotEq) (rNeV X.K) := by
  intro pins s σ H x y v u Q I rx ry h
  obtain ⟨n, a, b, xs, ys, hn, rfl, rfl, ha, hb, hp, q⟩ := h
  obtain rfl : v = Value.ref a := rx
  obtain rfl : u = Value.ref b := ry
  obtain ⟨us, r1, p1, _⟩ := I.list ha
  obtain ⟨ws, r2, p2, _⟩ := I.list hb
  have hsz : us.toArray.size = ws.toArray.size := by
    rw [List.size_toArray, List.size_toArray, ← r1.length, ← r2.length]
    exact Paired.length hp
  refine SeqAt.rcNe_lists p1.isList p2.isList hsz (by omega) (fun j h1 h2 => ?_) _ _ ⟨.bl false, H, I, rfl, q⟩
  have k := items_run (fun x y v u => eqV_run I n X.A.in1 (by show X.A.units + 1 + n < cLine; omega) x y v u) hp r1 r2 j (by simpa using h1) (by simpa using h2)
  simpa using k
end L2

namespace L2
open PySem PySem.Spec PyProof.Rows
theorem PE.mono {X : Cx} {e : Expr} {t t1 : TE} (h : PE X e t) (k : ∀ σ H Q, t1 σ H Q → t σ H Q) : PE X e t1 :=
  ⟨fun pins s σ H Q I q => h.run pins s σ H Q I (k σ H Q q)⟩
theorem PA.mono {X : Cx} {es : List Expr} {t t1 : TA} (h : PA X es t) (k : ∀ σ H Q, t1 σ H Q → t σ H Q) : PA X es t1 :=
  ⟨fun pos pins s σ H Q I q => h.run pos pins s σ H Q I (k σ H Q q)⟩
/-- exceptions, one a class, with the fields f alike v -/
inductive Evs (H : Hp) (v : V) : List V → List (Addr × Str) → Prop
  | nil : Evs H v [] []
  | cons {a C d : Addr} {f : Str} {xs : List V} {cs : List (Addr × Str)} : EvP [] H a C d [(f, v)] → Evs H v xs cs → Evs H v (.ref a :: xs) ((C, f) :: cs)
theorem Evs.mono {H H' : Hp} (k : Same H H') {v : V} {xs : List V} {cs : List (Addr × Str)} (e : Evs H v xs cs) : Evs H' v xs cs := by
  induction e with
  | nil => exact .nil
  | cons h _ ih => exact .cons (h.mono (fun _ z => z) k) ih
theorem Evs.append {H : Hp} {v : V} {xs ys : List V} {cs ds : List (Addr × Str)} (e : Evs H v xs cs) (g : Evs H v ys ds) : Evs H v (xs ++ ys) (cs ++ ds) := by
  induction e with
  | nil => exact g
  | cons h _ ih => exact .cons h ih
theorem Evs.length {H : Hp} {v : V} {xs : List V} {cs : List (Addr × Str)} (e : Evs H v xs cs) : xs.length = cs.length := by
  induction e with
  | nil => rfl
  | cons _ _ ih => rw [List.length_cons, List.length_cons, ih]
theorem Evs.get {H : Hp} {v : V} {xs : List V} {cs : List (Addr × Str)} (e : Evs H v xs cs) : ∀ {i : Nat} {C : Addr} {f : Str}, cs[i]? = some (C, f) →
    ∃ a d, xs[i]? = some (.ref a) ∧ EvP [] H a C d [(f, v)] := by
  induction e with
  | nil => intro i C f h; simp at h
  | cons h _ ih =>
    intro i C f hi
    cases i with
    | zero =>
      simp at hi
      obtain ⟨rfl, rfl⟩ := hi
      exact ⟨_, _, rfl, h⟩
    | succ i => exact ih (by simpa using hi)
/-- with two fields -/
inductive Evs2 (H : Hp) (v w : V) : List V → List (Addr × Str × Str) → Prop
  | nil : Evs2 H v w [] []
  | cons {a C d : Addr} {f g : Str} {xs : List V} {cs : List (Addr × Str × Str)} : EvP [] H a C d [(g, w), (f, v)] → Evs2 H v w xs cs → Evs2 H v w (.ref a :: xs) ((C, f, g) :: cs)
theorem Evs2.mono {H H' : Hp} (k : Same H H') {v w : V} {xs : List V} {cs : List (Addr × Str × Str)} (e : Evs2 H v w xs cs) : Evs2 H' v w xs cs := by
  induction e with
  | nil => exact .nil
  | cons h _ ih => exact .cons (h.mono (fun _ z => z) k) ih
theorem Evs2.append {H : Hp} {v w : V} {xs ys : List V} {cs ds : List (Addr × Str × Str)} (e : Evs2 H v w xs cs) (g : Evs2 H v w ys ds) : Evs2 H v w (xs ++ ys) (cs ++ ds) := by
  induction e with
  | nil => exact g
  | cons h _ ih => exact .cons h ih
theorem Evs2.length {H : Hp} {v w : V} {xs : List V} {cs : List (Addr × Str × Str)} (e : Evs2 H v w xs cs) : xs.length = cs.length := by
  induction e with
  | nil => rfl
  | cons _ _ ih => rw [List.length_cons, List.length_cons, ih]
theorem Evs2.get {H : Hp} {v w : V} {xs : List V} {cs : List (Addr × Str × Str)} (e : Evs2 H v w xs cs) : ∀ {i : Nat} {C : Addr} {f g : Str}, cs[i]? = some (C, f, g) →
    ∃ a d, xs[i]? = some (.ref a) ∧ EvP [] H a C d [(g, w), (f, v)] := by
  induction e with
  | nil => intro i C f g h; simp at h
  | cons h _ ih =>
    intro i C f g hi
    cases i with
    | zero =>
      simp at hi
      obtain ⟨rfl, rfl, rfl⟩ := hi
      exact ⟨_, _, rfl, h⟩
    | succ i => exact ih (by simpa using hi)
theorem withEv_same {H : Hp} {a C d : Addr} {fs : List (Str × V)} (ha : H a = none) (hd : H d = none) : Same H (withEv H a C d fs) := fun b o e => by
  unfold withEv
  rw [upd_ne (ne_of_none e ha), upd_ne (ne_of_none e hd)]
  exact e
theorem withEv_ev {H : Hp} {a C d : Addr} {fs : List (Str × V)} (h : d ≠ a) : EvP [] (withEv H a C d fs) a C d fs where
  at_ := .inl upd_same
  tab := .inl (by unfold withEv; rw [upd_ne h, upd_same])
theorem upd_withEv {H : Hp} {a C d : Addr} {o : HO} {fs : List (Str × V)} : withEv (upd H a o) a C d fs = withEv H a C d fs := by
  funext b
  unfold withEv
  by_cases h : b = a
  · rw [h, upd_same, upd_same]
  · rw [upd_ne h, upd_ne h]
    by_cases h2 : b = d
    · rw [h2, upd_same, upd_same]
    · rw [upd_ne h2, upd_ne h2, upd_ne h]
/-! ### the classes -/
structure One (P : Program) (w : World) (K : PySem.W.Frag) (mg : Str → Option Value) (base : Heap) (x f : Str) : Prop where
  mgx : mg x = some (.ref (He.ga K x))
  T : OexC K (He.ga K x)
  iC : PySem.W.findIn K (.ref (He.ga K x)) "__init__" = some (some (.ref (He.ma K (He.ga K x) "__init__")))
  tI : PySem.W.typeIn K (.ref (He.ma K (He.ga K x) "__init__")) = some (.type "function")
  ini : ∃ fd, FnOk P w K mg base CX0 1 (He.ma K (He.ga K x) "__init__") fd ["self", f] (spI1 (He.ga K x) f) ∧
    KBn K fd ["self", f] 2 [] (fun us _ => us) (fun vs _ => vs) ∧ KBn K fd ["self", f] 1 [f] (fun us ws => us ++ ws) (fun vs zs => vs ++ zs)
structure Two (P : Program) (w : World) (K : PySem.W.Frag) (mg : Str → Option Value) (base : Heap) (x f g : Str) : Prop where
  mgx : mg x = some (.ref (He.ga K x))
  T : OexC K (He.ga K x)
  iC : PySem.W.findIn K (.ref (He.ga K x)) "__init__" = some (some (.ref (He.ma K (He.ga K x) "__init__")))
  tI : PySem.W.typeIn K (.ref (He.ma K (He.ga K x) "__init__")) = some (.type "function")
  ini : ∃ fd, FnOk P w K mg base CX0 1 (He.ma K (He.ga K x) "__init__") fd ["self", f, g] (spI2 (He.ga K x) f g) ∧
    KBn K fd ["self", f, g] 3 [] (fun us _ => us) (fun vs _ => vs) ∧ KBn K fd ["self", f, g] 1 [f, g] (fun us ws => us ++ ws) (fun vs zs => vs ++ zs) ∧
    KBn K fd ["self", f, g] 1 [g, f] (fun us ws => us ++ ws.reverse) (fun vs zs => vs ++ zs.reverse) ∧
    KBn K fd ["self", f, g] 2 [g] (fun us ws => us ++ ws) (fun vs zs => vs ++ zs)
/-- X(v), v in slot i: the new exception -/
def tMk1 (i : Nat) (C : Addr) (f : Str) : TE := fun σ H Q => ∃ v, σ[i]? = some (some v) ∧ ∀ a d H', Same H H' → EvP [] H' a C d [(f, v)] → Q (.ref a) H'
def tMk2 (i j : Nat) (C : Addr) (f g : Str) : TE := fun σ H Q => ∃ v w, σ[i]? = some (some v) ∧ σ[j]? = some (some w) ∧ ∀ a d H', Same H H' → EvP [] H' a C d [(g, w), (f, v)] → Q (.ref a) H'
section
variable {X : Cx} {x f g : Str} {i j : Nat} {v u : Expr} {p pos kp kp2 : Pos}
theorem pe_e1 (O : One X.prog X.w X.K X.mg X.base x f) (hr : Room 2 X.A) (hv : PE X v (tVar i)) (hg : Gl X x) (hdb : (x == ("__debug__" : Str)) = false := by decide)
    (he : starEach [v] X.env = (false, eval v X.env) :: starEach [] X.env := by rfl) (hpl : (backTo pos (starEach [] X.env)).any (·.1) = false := by rfl) :
    PE X (.Call (.Name x p) [v] [] pos) (tMk1 i (He.ga X.K x) f) := by
  obtain ⟨fd, F, b1, b2⟩ := O.ini
  refine (pe_mkEv O.T O.iC O.tI F hr b1 pass0 (by decide) hg O.mgx (pa_cons hv pa_nil he) hdb he hpl).mono fun σ H Q h => ?_
  obtain ⟨y, hy, q⟩ := h
  refine ⟨y, hy, rfl, rfl, fun a ha => ⟨a, y, rfl, upd_same, fun dx n ne => ⟨rfl, ?_⟩⟩⟩
  rw [upd_withEv]
  exact q a dx _ (withEv_same ha (by rwa [upd_ne ne] at n)) (withEv_ev ne)
theorem pe_e1K (O : One X.prog X.w X.K X.mg X.base x f) (hr : Room 2 X.A) (hv : PE X v (tVar i)) (hg : Gl X x) (hdb : (x == ("__debug__" : Str)) = false := by decide)
    (hall : (backToKw pos (keywordEach [⟨some f, v, kp⟩] X.env)).all (·.1.isSome) = true := by rfl)
    (hks : (backToKw pos (keywordEach [⟨some f, v, kp⟩] X.env)).filterMap (·.1) = [f] := by rfl)
    (hpl : ((backTo pos (starEach [] X.env)).any (·.1) || (backToKw pos (keywordEach [⟨some f, v, kp⟩] X.env)).any (·.1.isNone)) = false := by rfl) :
    PE X (.Call (.Name x p) [] [⟨some f, v, kp⟩] pos) (tMk1 i (He.ga X.K x) f) := by
  obtain ⟨fd, F, b1, b2⟩ := O.ini
  refine (pe_mkEvK O.T O.iC O.tI F hr b2 pass0 hg O.mgx (pk_cons hv pk_nil) hall hks hdb hpl).mono fun σ H Q h => ?_
  obtain ⟨y, hy, q⟩ := h
  refine ⟨y, hy, rfl, rfl, fun a ha => ⟨a, y, rfl, upd_same, fun dx n ne => ⟨rfl, ?_⟩⟩⟩
  rw [upd_withEv]
  exact q a dx _ (withEv_same ha (by rwa [upd_ne ne] at n)) (withEv_ev ne)
theorem pe_e2 (O : Two X.prog X.w X.K X.mg X.base x f g) (hr : Room 2 X.A) (hv : PE X v (tVar i)) (hu : PE X u (tVar j)) (hg : Gl X x) (hdb : (x == ("__debug__" : Str)) = false := by decide)
    (he : starEach [v, u] X.env = (false, eval v X.env) :: starEach [u] X.env := by rfl) (he2 : starEach [u] X.env = (false, eval u X.env) :: starEach [] X.env := by rfl)
    (hpl : (backTo pos (starEach [u] X.env)).any (·.1) = false := by rfl) : PE X (.Call (.Name x p) [v, u] [] pos) (tMk2 i j (He.ga X.K x) f g) := by
  obtain ⟨fd, F, b1, b2, b3, b4⟩ := O.ini
  refine (pe_mkEv O.T O.iC O.tI F hr b1 pass0 (by decide) hg O.mgx (pa_cons hv (pa_cons hu pa_nil he2) he) hdb he hpl).mono fun σ H Q h => ?_
  obtain ⟨y, z, hy, hz, q⟩ := h
  refine ⟨y, hy, z, hz, rfl, rfl, fun a ha => ⟨a, y, z, rfl, upd_same, fun dx n ne => ⟨rfl, ?_⟩⟩⟩
  rw [upd_withEv]
  exact q a dx _ (withEv_same ha (by rwa [upd_ne ne] at n)) (withEv_ev ne)
theorem pe_e2K (O : Two X.prog X.w X.K X.mg X.base x f g) (hr : Room 2 X.A) (hv : PE X v (tVar i)) (hu : PE X u (tVar j)) (hg : Gl X x) (hdb : (x == ("__debug__" : Str)) = false := by decide)
    (hall : (backToKw pos (keywordEach [⟨some f, v, kp⟩, ⟨some g, u, kp2⟩] X.env)).all (·.1.isSome) = true := by rfl)
    (hks : (backToKw pos (keywordEach [⟨some f, v, kp⟩, ⟨some g, u, kp2⟩] X.env)).filterMap (·.1) = [f, g] := by rfl)
    (hpl : ((backTo pos (starEach [] X.env)).any (·.1) || (backToKw pos (keywordEach [⟨some f, v, kp⟩, ⟨some g, u, kp2⟩] X.env)).any (·.1.isNone)) = false := by rfl) :
    PE X (.Call (.Name x p) [] [⟨some f, v, kp⟩, ⟨some g, u, kp2⟩] pos) (tMk2 i j (He.ga X.K x) f g) := by
  obtain ⟨fd, F, b1, b2, b3, b4⟩ := O.ini
  refine (pe_mkEvK O.T O.iC O.tI F hr b2 pass0 hg O.mgx (pk_cons hv (pk_cons hu pk_nil)) hall hks hdb hpl).mono fun σ H Q h => ?_
  obtain ⟨y, z, hy, hz, q⟩ := h
  refine ⟨y, hy, z, hz, rfl, rfl, fun a ha => ⟨a, y, z, rfl, upd_same, fun dx n ne => ⟨rfl, ?_⟩⟩⟩
  rw [upd_withEv]
  exact q a dx _ (withEv_same ha (by rwa [upd_ne ne] at n)) (withEv_ev ne)
theorem pe_e2R (O : Two X.prog X.w X.K X.mg X.base x f g) (hr : Room 2 X.A) (hv : PE X v (tVar i)) (hu : PE X u (tVar j)) (hg : Gl X x) (hdb : (x == ("__debug__" : Str)) = false := by decide)
    (hall : (backToKw pos (keywordEach [⟨some g, u, kp⟩, ⟨some f, v, kp2⟩] X.env)).all (·.1.isSome) = true := by rfl)
    (hks : (backToKw pos (keywordEach [⟨some g, u, kp⟩, ⟨some f, v, kp2⟩] X.env)).filterMap (·.1) = [g, f] := by rfl)
    (hpl : ((backTo pos (starEach [] X.env)).any (·.1) || (backToKw pos (keywordEach [⟨some g, u, kp⟩, ⟨some f, v, kp2⟩] X.env)).any (·.1.isNone)) = false := by rfl) :
    PE X (.Call (.Name x p) [] [⟨some g, u, kp⟩, ⟨some f, v, kp2⟩] pos) (tMk2 i j (He.ga X.K x) f g) := by
  obtain ⟨fd, F, b1, b2, b3, b4⟩ := O.ini
  refine (pe_mkEvK O.T O.iC O.tI F hr b3 pass0 hg O.mgx (pk_cons hu (pk_cons hv pk_nil)) hall hks hdb hpl).mono fun σ H Q h => ?_
  obtain ⟨y, z, hy, hz, q⟩ := h
  refine ⟨z, hz, y, hy, rfl, rfl, fun a ha => ⟨a, y, z, rfl, upd_same, fun dx n ne => ⟨rfl, ?_⟩⟩⟩
  rw [upd_withEv]
  exact q a dx _ (withEv_same ha (by rwa [upd_ne ne] at n)) (withEv_ev ne)
theorem pe_e2M (O : Two X.prog X.w X.K X.mg X.base x f g) (hr : Room 2 X.A) (hv : PE X v (tVar i)) (hu : PE X u (tVar j)) (hg : Gl X x) (hdb : (x == ("__debug__" : Str)) = false := by decide)
    (he : starEach [v] X.env = (false, eval v X.env) :: starEach [] X.env := by rfl) (hall : (backToKw pos (keywordEach [⟨some g, u, kp⟩] X.env)).all (·.1.isSome) = true := by rfl)
    (hks : (backToKw pos (keywordEach [⟨some g, u, kp⟩] X.env)).filterMap (·.1) = [g] := by rfl)
    (hpl : ((backTo pos (starEach [v] X.env)).any (·.1) || (backToKw pos (keywordEach [⟨some g, u, kp⟩] X.env)).any (·.1.isNone)) = false := by rfl) :
    PE X (.Call (.Name x p) [v] [⟨some g, u, kp⟩] pos) (tMk2 i j (He.ga X.K x) f g) := by
  obtain ⟨fd, F, b1, b2, b3, b4⟩ := O.ini
  refine (pe_mkEvM O.T O.iC O.tI F hr b4 pass0 (by decide) hg O.mgx (pa_cons hv pa_nil he) (pk_cons hu pk_nil) hall hks hdb he hpl).mono fun σ H Q h => ?_
  obtain ⟨y, z, hy, hz, q⟩ := h
  refine ⟨y, hy, z, hz, rfl, rfl, fun a ha => ⟨a, y, z, rfl, upd_same, fun dx n ne => ⟨rfl, ?_⟩⟩⟩
  rw [upd_withEv]
  exact q a dx _ (withEv_same ha (by rwa [upd_ne ne] at n)) (withEv_ev ne)
end
/-- rows of such calls -/
def tMks (i : Nat) (cs : List (Addr × Str)) : TA := fun σ H Q => ∃ v, σ[i]? = some (some v) ∧ ∀ xs H', Same H H' → Evs H' v xs cs → Q xs H'
def tMks2 (i j : Nat) (cs : List (Addr × Str × Str)) : TA := fun σ H Q => ∃ v w, σ[i]? = some (some v) ∧ σ[j]? = some (some w) ∧ ∀ xs H', Same H H' → Evs2 H' v w xs cs → Q xs H'
section
variable {X : Cx} {i j : Nat} {e : Expr} {es : List Expr} {C : Addr} {f g : Str} {cs : List (Addr × Str)} {ds : List (Addr × Str × Str)}
theorem pa_m0 : PA X [] (tMks i []) := pa_nil.mono fun σ H Q ⟨v, hv, q⟩ => q [] H (Same.refl H) .nil
theorem pa_m1 (he : PE X e (tMk1 i C f)) (h : PA X es (tMks i cs)) (hs : starEach (e :: es) X.env = (false, eval e X.env) :: starEach es X.env := by rfl) : PA X (e :: es) (tMks i ((C, f) :: cs)) := by
  refine (pa_cons he h hs).mono fun σ H Q ⟨v, hv, q⟩ => ?_
  exact ⟨v, hv, fun a d H1 k1 e1 => ⟨v, hv, fun xs H2 k2 e2 => q _ H2 (k1.trans k2) (.cons (e1.mono (fun _ z => z) k2) e2)⟩⟩
theorem pa_n0 : PA X [] (tMks2 i j []) := pa_nil.mono fun σ H Q ⟨v, w, hv, hw, q⟩ => q [] H (Same.refl H) .nil
theorem pa_n1 (he : PE X e (tMk2 i j C f g)) (h : PA X es (tMks2 i j ds)) (hs : starEach (e :: es) X.env = (false, eval e X.env) :: starEach es X.env := by rfl) : PA X (e :: es) (tMks2 i j ((C, f, g) :: ds)) := by
  refine (pa_cons he h hs).mono fun σ H Q ⟨v, w, hv, hw, q⟩ => ?_
  exact ⟨v, w, hv, hw, fun a d H1 k1 e1 => ⟨v, w, hv, hw, fun xs H2 k2 e2 => q _ H2 (k1.trans k2) (.cons (e1.mono (fun _ z => z) k2) e2)⟩⟩
end
end L2

/-! raise C(..), a class with an __init__ of its own, values by name too -/
namespace L2
open PySem PySem.Spec PyProof.Rows
/-- what is asked of C(..) that is raised -/
def tMkN (C : Addr) (n m : Nat) (sp : Sp) (gV : List V → List V → List V) (t tk : TA) : St → Hp → XK → Prop := fun σ H Q =>
  t σ H fun vs H1 => tk σ H1 fun zs H2 => vs.length = n ∧ zs.length = m ∧ ∀ a, H2 a = none → sp (gV (.ref a :: vs) zs) (upd H2 a (exo a C none))
    (fun v H3 => v = .non ∧ ∃ (d : Addr) (fs : List (Str × V)), H3 a = some (exo a C (some d)) ∧ H3 d = some (exd d fs) ∧ H2 d = none ∧ Q (.ref C) (some d) (upd (del H3 a) d (.xd fs))) fun _ _ _ => False
section
variable {X : Cx} {CX : CXT} {k n : Nat} {C fI : Addr} {fd : FuncData} {ps ks : List Str} {sp : Sp} {x : Str} {p pos : Pos}
variable {e : Expr} {es : List Expr} {kws : List Keyword} {t tk : TA} {g : List Value → List Value → List Value} {gV : List V → List V → List V}
theorem run_mkN {pins : List Pin} {σ : St} {H : Hp} {s : Shared} {Q : XK} {us ws : List Value} {vs zs : List V} (T : OexC X.K C)
    (iC : PySem.W.findIn X.K (.ref C) "__init__" = some (some (.ref fI))) (tI : PySem.W.typeIn X.K (.ref fI) = some (.type "function"))
    (F : FnOk X.prog X.w X.K X.mg X.base CX k fI fd ps sp) (hr : Room (k + 1) X.A) (hb : KBn X.K fd ps (n + 1) ks g gV)
    (hx : Passes CX X fun _ _ _ => False) (I : Inv X pins σ H s) (r : Vals vs us) (rz : Vals zs ws) (l1 : vs.length = n)
    (l2 : zs.length = ks.length) (hn : n ≤ 1000)
    (h : ∀ a, H a = none → sp (gV (.ref a :: vs) zs) (upd H a (exo a C none)) (fun v H3 => v = .non ∧ ∃ (d : Addr) (fs : List (Str × V)), H3 a = some (exo a C (some d)) ∧ H3 d = some (exd d fs) ∧ H d = none ∧ Q (.ref C) (some d) (upd (del H3 a) d (.xd fs))) fun _ _ _ => False) :
    wpAny (model X.prog X.w) X.A (call (.ref C) us (ks.zip ws)) (L2N.MkP X pins σ Q) X.xe s := by
  obtain ⟨nm, q, N, bs, bm, sn, sub, ab, col, dd, k0, k1, k2, k3, k5, hC, hbm⟩ := T.cls
  obtain ⟨hp, gs, dr, tk0, os⟩ := s
  have le1 : hp.objs.size ≤ hp.objs.size + 1 := Nat.le_succ _
  have hq := h (hp.objs.size + 1) (I.hok.fresh le1)
  have up : ∀ b o, hp.get? b = some o → (PySem.MlE.withNew hp C us).get? b = some o :=
    fun b o e => Heap.get?_push_of_some _ (Heap.get?_push_of_some _ e)
  have atE : (PySem.MlE.withNew hp C us).get? (hp.objs.size + 1) = some (PySem.HandSPX.excO C hp.objs.size) := by heap_get
  have I2 : Inv X pins σ (upd H (hp.objs.size + 1) (exo (hp.objs.size + 1) C none)) ⟨PySem.MlE.withNew hp C us, gs, dr, tk0, os⟩ :=
    I.laid (t' := tk0) (a := hp.objs.size + 1) (o := exo (hp.objs.size + 1) C none) (h' := PySem.MlE.withNew hp C us) up le1 (exo_ok atE)
  have r1 : Vals (V.ref (hp.objs.size + 1) :: vs) (Value.ref (hp.objs.size + 1) :: us) := .cons rfl r
  have r2 := hb.rel r1 rz
  have e1 : (Value.ref (hp.objs.size + 1) :: us).length = n + 1 := r1.length.symm.trans (congrArg Nat.succ l1)
  have e2 : ws.length = ks.length := rz.length.symm.trans l2
  have hus : us.length ≤ sizeLine := by
    have z := r.length
    rw [sizeLine_eq]
    omega
  refine wpAny_call (PySem.MlE.callK PySem.F.excBase_ValueError (fun Y => PySem.HandSPX.refsVE_contains Y bm hbm)
    (I.kIn _ _ hC) (PySem.W.looks_findIn I.kIn iC) (fun self => PySem.W.bind_fn I.kIn self tI) hus ?_)
  refine codeAny_mono (F.run _ X.stack _ _ ⟨Value.ref (hp.objs.size + 1) :: us, ks.zip ws⟩ (g (Value.ref (hp.objs.size + 1) :: us) ws)
    _ _ (fun _ _ _ => False) (hr.make C us (ks.zip ws)) (I2.env0.make C us (ks.zip ws))
    (hb.to _ (Value.ref (hp.objs.size + 1) :: us) ws I2.kIn e1 e2) r2 hq) fun r s1 h1 => ?_
  cases r with
  | error er => exact hx pins σ _ _ er s1 I2 h1
  | ok fl =>
    cases fl with
    | ret u =>
      obtain ⟨v, H3, os2, bare2, un2, hok2, rv, ev, d, fs, ea, ed, hd1, q2⟩ := h1
      subst ev
      obtain ⟨h2, g2, d2, t2, os'⟩ := s1
      obtain ⟨t0, G, J, kG, ge, hoe, na⟩ := mk_end0 (d2 := d2) (t2 := t2) I le1 up un2 hok2 os2 bare2 ea ed hd1
      refine ⟨rv, ⟨hp.objs.size + 1, _, _, ⟨G, g2, d2, t2, os'⟩, _, .ref C, some d, rfl, J, kG, ge, hoe, ⟨rfl, rfl, fun vs hv => ?_⟩, rfl, rfl, na, rfl, bare2, raises_own T.exC T.tyC, q2⟩⟩
      cases hv
      rfl
    | next => exact False.elim h1
    | brk => exact False.elim h1
    | cont => exact False.elim h1
theorem pmk_mkN (T : OexC X.K C) (iC : PySem.W.findIn X.K (.ref C) "__init__" = some (some (.ref fI)))
    (tI : PySem.W.typeIn X.K (.ref fI) = some (.type "function")) (FI : FnOk X.prog X.w X.K X.mg X.base CX k fI fd ps sp) (hr : Room (k + 1) X.A)
    (hb : KBn X.K fd ps (n + 1) [] g gV) (hx : Passes CX X fun _ _ _ => False) (hn : n ≤ 1000) (hg : Gl X x) (hm : X.mg x = some (.ref C)) (ha : PA X (e :: es) t)
    (hdb : (x == ("__debug__" : Str)) = false := by decide) (he : starEach (e :: es) X.env = (false, eval e X.env) :: starEach es X.env := by rfl)
    (hpl : (backTo pos (starEach es X.env)).any (·.1) = false := by rfl) : L2N.PMk X (.Call (.Name x p) (e :: es) [] pos) (tMkN C n 0 sp gV t tNil) := by
  intro pins s σ H Q I h
  refine wpAny_Call_Name_kw (ld_glob I hg hm ?_ hdb)
  refine PySem.W.callWith_K (h₀ := X.base) I.ok.mod.kin T.kC ?_ he hpl
  refine thn (ha.run pos pins s σ H _ I h) fun us s1 ⟨vs, H1, I1, r, l1, l2, q⟩ => ⟨I1.kIn, ?_⟩
  exact run_mkN (ks := []) (ws := []) (zs := []) T iC tI FI hr hb hx I1 r .nil l1 rfl hn q
theorem pmk_mkNK (T : OexC X.K C) (iC : PySem.W.findIn X.K (.ref C) "__init__" = some (some (.ref fI)))
    (tI : PySem.W.typeIn X.K (.ref fI) = some (.type "function")) (FI : FnOk X.prog X.w X.K X.mg X.base CX k fI fd ps sp) (hr : Room (k + 1) X.A)
    (hb : KBn X.K fd ps 1 ks g gV) (hx : Passes CX X fun _ _ _ => False) (hg : Gl X x) (hm : X.mg x = some (.ref C)) (hkw : PK X kws tk)
    (hall : (backToKw pos (keywordEach kws X.env)).all (·.1.isSome) = true := by rfl)
    (hks : (backToKw pos (keywordEach kws X.env)).filterMap (·.1) = ks := by rfl) (hdb : (x == ("__debug__" : Str)) = false := by decide)
    (hpl : ((backTo pos (starEach [] X.env)).any (·.1) || (backToKw pos (keywordEach kws X.env)).any (·.1.isNone)) = false := by rfl) :
    L2N.PMk X (.Call (.Name x p) [] kws pos) (tMkN C 0 ks.length sp gV tNil tk) := by
  intro pins s σ H Q I h
  refine wpAny_Call_Name_kw (ld_glob I hg hm ?_ hdb)
  refine PySem.W.callWith_KW0 (h₀ := X.base) I.ok.mod.kin T.kC hall ?_ hpl
  refine thn (hkw.run pos pins s σ H _ I h) fun ws s2 ⟨zs, H2, I2, rz, l1, l2, q2⟩ => ⟨I2.kIn, ?_⟩
  rw [hks]
  exact run_mkN (us := []) (vs := []) T iC tI FI hr hb hx I2 .nil rz rfl l2 (Nat.zero_le _) q2
end
theorem pmk_mono {X : Cx} {e : Expr} {t u : St → Hp → XK → Prop} (h : L2N.PMk X e t) (k : ∀ σ H Q, u σ H Q → t σ H Q) : L2N.PMk X e u := fun pins s σ H Q I q => h pins s σ H Q I (k _ _ _ q)
/-- X(v), v in slot i, that is raised -/
def tRs1 (i : Nat) (C : Addr) (f : Str) : St → Hp → XK → Prop := fun σ H Q => ∃ v, σ[i]? = some (some v) ∧ ∀ d H', Same H H' → H' d = some (.xd [(f, v)]) → Q (.ref C) (some d) H'
def tRs2 (i j : Nat) (C : Addr) (f g : Str) : St → Hp → XK → Prop := fun σ H Q => ∃ v w, σ[i]? = some (some v) ∧ σ[j]? = some (some w) ∧ ∀ d H', Same H H' → H' d = some (.xd [(g, w), (f, v)]) → Q (.ref C) (some d) H'
theorem raised_at {H : Hp} {a C d : Addr} {fs : List (Str × V)} {Q : XK} (ha : H a = none) (n : upd H a (exo a C none) d = none) (ne : d ≠ a) (q : ∀ d H', Same H H' → H' d = some (.xd fs) → Q (.ref C) (some d) H') :
    ∃ (d' : Addr) (fs' : List (Str × V)), withEv (upd H a (exo a C none)) a C d fs a = some (exo a C (some d')) ∧ withEv (upd H a (exo a C none)) a C d fs d' = some (exd d' fs') ∧ H d' = none ∧
      Q (.ref C) (some d') (upd (del (withEv (upd H a (exo a C none)) a C d fs) a) d' (.xd fs')) := by
  rw [upd_withEv]
  have n2 : H d = none := by rwa [upd_ne ne] at n
  refine ⟨d, fs, by unfold withEv; rw [upd_same], by unfold withEv; rw [upd_ne ne, upd_same], n2, q _ _ (fun b o z => ?_) upd_same⟩
  have hb : b ≠ a := ne_of_none z ha
  have hd : b ≠ d := ne_of_none z n2
  unfold withEv
  rw [upd_ne hd, del_ne hb, upd_ne hb, upd_ne hd]
  exact z
section
variable {X : Cx} {x f g : Str} {i j : Nat} {v u : Expr} {p pos kp kp2 : Pos}
theorem pmk_e1 (O : One X.prog X.w X.K X.mg X.base x f) (hr : Room 2 X.A) (hv : PE X v (tVar i)) (hg : Gl X x) (hdb : (x == ("__debug__" : Str)) = false := by decide)
    (he : starEach [v] X.env = (false, eval v X.env) :: starEach [] X.env := by rfl) (hpl : (backTo pos (starEach [] X.env)).any (·.1) = false := by rfl) :
    L2N.PMk X (.Call (.Name x p) [v] [] pos) (tRs1 i (He.ga X.K x) f) := by
  obtain ⟨fd, F, b1, b2⟩ := O.ini
  refine pmk_mono (pmk_mkN O.T O.iC O.tI F hr b1 pass0 (by decide) hg O.mgx (pa_cons hv pa_nil he) hdb he hpl) fun σ H Q h => ?_
  obtain ⟨y, hy, q⟩ := h
  exact ⟨y, hy, rfl, rfl, fun a ha => ⟨a, y, rfl, upd_same, fun dx n ne => ⟨rfl, raised_at ha n ne q⟩⟩⟩
theorem pmk_e1K (O : One X.prog X.w X.K X.mg X.base x f) (hr : Room 2 X.A) (hv : PE X v (tVar i)) (hg : Gl X x) (hdb : (x == ("__debug__" : Str)) = false := by decide)
    (hall : (backToKw pos (keywordEach [⟨some f, v, kp⟩] X.env)).all (·.1.isSome) = true := by rfl)
    (hks : (backToKw pos (keywordEach [⟨some f, v, kp⟩] X.env)).filterMap (·.1) = [f] := by rfl)
    (hpl : ((backTo pos (starEach [] X.env)).any (·.1) || (backToKw pos (keywordEach [⟨some f, v, kp⟩] X.env)).any (·.1.isNone)) = false := by rfl) :
    L2N.PMk X (.Call (.Name x p) [] [⟨some f, v, kp⟩] pos) (tRs1 i (He.ga X.K x) f) := by
  obtain ⟨fd, F, b1, b2⟩ := O.ini
  refine pmk_mono (pmk_mkNK O.T O.iC O.tI F hr b2 pass0 hg O.mgx (pk_cons hv pk_nil) hall hks hdb hpl) fun σ H Q h => ?_
  obtain ⟨y, hy, q⟩ := h
  exact ⟨y, hy, rfl, rfl, fun a ha => ⟨a, y, rfl, upd_same, fun dx n ne => ⟨rfl, raised_at ha n ne q⟩⟩⟩
theorem pmk_e2 (O : Two X.prog X.w X.K X.mg X.base x f g) (hr : Room 2 X.A) (hv : PE X v (tVar i)) (hu : PE X u (tVar j)) (hg : Gl X x) (hdb : (x == ("__debug__" : Str)) = false := by decide)
    (he : starEach [v, u] X.env = (false, eval v X.env) :: starEach [u] X.env := by rfl) (he2 : starEach [u] X.env = (false, eval u X.env) :: starEach [] X.env := by rfl)
    (hpl : (backTo pos (starEach [u] X.env)).any (·.1) = false := by rfl) : L2N.PMk X (.Call (.Name x p) [v, u] [] pos) (tRs2 i j (He.ga X.K x) f g) := by
  obtain ⟨fd, F, b1, b2, b3, b4⟩ := O.ini
  refine pmk_mono (pmk_mkN O.T O.iC O.tI F hr b1 pass0 (by decide) hg O.mgx (pa_cons hv (pa_cons hu pa_nil he2) he) hdb he hpl) fun σ H Q h => ?_
  obtain ⟨y, z, hy, hz, q⟩ := h
  exact ⟨y, hy, z, hz, rfl, rfl, fun a ha => ⟨a, y, z, rfl, upd_same, fun dx n ne => ⟨rfl, raised_at ha n ne q⟩⟩⟩
theorem pmk_e2R (O : Two X.prog X.w X.K X.mg X.base x f g) (hr : Room 2 X.A) (hv : PE X v (tVar i)) (hu : PE X u (tVar j)) (hg : Gl X x) (hdb : (x == ("__debug__" : Str)) = false := by decide)
    (hall : (backToKw pos (keywordEach [⟨some g, u, kp⟩, ⟨some f, v, kp2⟩] X.env)).all (·.1.isSome) = true := by rfl)
    (hks : (backToKw pos (keywordEach [⟨some g, u, kp⟩, ⟨some f, v, kp2⟩] X.env)).filterMap (·.1) = [g, f] := by rfl)
    (hpl : ((backTo pos (starEach [] X.env)).any (·.1) || (backToKw pos (keywordEach [⟨some g, u, kp⟩, ⟨some f, v, kp2⟩] X.env)).any (·.1.isNone)) = false := by rfl) :
    L2N.PMk X (.Call (.Name x p) [] [⟨some g, u, kp⟩, ⟨some f, v, kp2⟩] pos) (tRs2 i j (He.ga X.K x) f g) := by
  obtain ⟨fd, F, b1, b2, b3, b4⟩ := O.ini
  refine pmk_mono (pmk_mkNK O.T O.iC O.tI F hr b3 pass0 hg O.mgx (pk_cons hu (pk_cons hv pk_nil)) hall hks hdb hpl) fun σ H Q h => ?_
  obtain ⟨y, z, hy, hz, q⟩ := h
  exact ⟨z, hz, y, hy, rfl, rfl, fun a ha => ⟨a, y, z, rfl, upd_same, fun dx n ne => ⟨rfl, raised_at ha n ne q⟩⟩⟩
end
end L2

/-! a string's signs, whether or not an exception is handled -/
namespace L2
open PySem PySem.Spec PyProof.Rows
open HotX (HotAt)
section
variable {prog : Program} {w : World} {A : Around} {E : Value → Shared → Prop} {s : Shared} {it x1 : Addr} {x : Str} {t : Tok} {i : Nat} {Q : Option Value → Shared → Prop}
/-- the handled exception is no string's iterator -/
theorem hot_ne {ty : String} (hot : HotAt A x1 s.heap) (hit : s.heap.IsStrIter it ty x t i) : x1 ≠ it := by
  obtain ⟨_, o1, vs1, h1, d1, c1⟩ := hot
  obtain ⟨o, ho, hc, hd⟩ := hit
  intro z
  rw [z, ho] at h1
  cases h1
  rw [hd] at d1
  cases d1
  cases c1
theorem end_ascii_hot (hot : HotAt A x1 s.heap) (hit : s.heap.IsStrIter it "str_ascii_iterator" x t i) (hx : x.cps[i]? = none)
    (hQ : ∀ h1, (∀ b o, b ≠ it → s.heap.get? b = some o → h1.get? b = some o) → Q none { s with heap := h1 }) :
    wpAny (model prog w) A (pyNext (.ref it)) Q E s := by
  have ne := hot_ne hot hit
  obtain ⟨hh, o1, vs1, g1, d1, c1⟩ := hot
  have hT := hit.typeIs
  obtain ⟨o, ho, hc, hd⟩ := hit
  unfold pyNext
  refine wpAny_bind (wpAny_attempt (wpAny_callSpecial?_slot (name := Str.ofString "__next__") hT F.slot_str_ascii_iterator_next (wpAny_call_entry F.slot_str_ascii_iterator_next hT F.entry_str_ascii_iterator_next ?_
    (F.args_str_ascii_iterator_next_1 _))))
  show wpAny _ _ (field (.ref it) 0 >>= _) _ _ s
  refine wpAny_bind (wpAny_field ho hd (x := .str x t) rfl ?_)
  show wpAny _ _ (field (.ref it) 1 >>= _) _ _ s
  refine wpAny_bind (wpAny_field ho hd (x := .int i 0) rfl ?_)
  simp only [Int.toNat_natCast, hx]
  refine wpAny_bind (wpAny_rule (wpAny_bind (wpAny_setField ho hd (by simp) (wpAny_bind (wpAny_letGo ?_)))))
  show wpAny _ _ (newExc (.type "StopIteration") [] >>= _) _ _ _
  generalize hU : s.heap.update it _ = U
  have up : ∀ b u, b ≠ it → s.heap.get? b = some u → U.get? b = some u := fun b u n e => by
    rw [← hU, Heap.get?_update_other _ _ n.symm]
    exact e
  refine wpAny_bind ?_
  simp only [newExc, newTuple]
  refine wpAny_bind (wpAny_newObj_type ?_ (by size_fits))
  refine wpAny_bind (m := firstArgMember _ _) (wpAny_of_eq (a := Value.none) (by first | rfl | (simp only [firstArgMember]; rfl)) ?_)
  refine wpAny_newObj_type ?_ (by size_fits)
  have p1 := up _ _ ne g1
  refine HotX.raiseNew_hot ⟨hh, o1, vs1, Heap.get?_push_of_some _ (Heap.get?_push_of_some _ p1), d1, c1⟩ (Nat.ne_of_lt (Heap.lt_size (Heap.get?_push_of_some _ p1))) (Heap.get?_push_size _ rfl) rfl (by first | (simp; done) | (simp; omega)) ?_
  refine wpAny_bind (wpAny_isInstance (T := "StopIteration") (b := true) ⟨_, Heap.get?_update_self _ (Heap.get?_push_size _ rfl) rfl, rfl⟩ isSubtype_stop ?_)
  refine wpAny_pure (hQ _ fun b u n e => ?_)
  have e2 := up _ _ n e
  rw [Heap.get?_update_other _ _ (Nat.ne_of_gt (Heap.lt_size (Heap.get?_push_of_some _ e2)))]
  exact Heap.get?_push_of_some _ (Heap.get?_push_of_some _ e2)
theorem end_wide_hot (hot : HotAt A x1 s.heap) (hit : s.heap.IsStrIter it "str_iterator" x t i) (hx : x.cps[i]? = none)
    (hQ : ∀ h1, (∀ b o, b ≠ it → s.heap.get? b = some o → h1.get? b = some o) → Q none { s with heap := h1 }) :
    wpAny (model prog w) A (pyNext (.ref it)) Q E s := by
  have ne := hot_ne hot hit
  obtain ⟨hh, o1, vs1, g1, d1, c1⟩ := hot
  have hT := hit.typeIs
  obtain ⟨o, ho, hc, hd⟩ := hit
  unfold pyNext
  refine wpAny_bind (wpAny_attempt (wpAny_callSpecial?_slot (name := Str.ofString "__next__") hT F.slot_str_iterator_next (wpAny_call_entry F.slot_str_iterator_next hT F.entry_str_iterator_next ?_
    (F.args_str_iterator_next_1 _))))
  show wpAny _ _ (field (.ref it) 0 >>= _) _ _ s
  refine wpAny_bind (wpAny_field ho hd (x := .str x t) rfl ?_)
  show wpAny _ _ (field (.ref it) 1 >>= _) _ _ s
  refine wpAny_bind (wpAny_field ho hd (x := .int i 0) rfl ?_)
  simp only [Int.toNat_natCast, hx]
  refine wpAny_bind (wpAny_rule (wpAny_bind (wpAny_setField ho hd (by simp) (wpAny_bind (wpAny_letGo ?_)))))
  show wpAny _ _ (newExc (.type "StopIteration") [] >>= _) _ _ _
  generalize hU : s.heap.update it _ = U
  have up : ∀ b u, b ≠ it → s.heap.get? b = some u → U.get? b = some u := fun b u n e => by
    rw [← hU, Heap.get?_update_other _ _ n.symm]
    exact e
  refine wpAny_bind ?_
  simp only [newExc, newTuple]
  refine wpAny_bind (wpAny_newObj_type ?_ (by size_fits))
  refine wpAny_bind (m := firstArgMember _ _) (wpAny_of_eq (a := Value.none) (by first | rfl | (simp only [firstArgMember]; rfl)) ?_)
  refine wpAny_newObj_type ?_ (by size_fits)
  have p1 := up _ _ ne g1
  refine HotX.raiseNew_hot ⟨hh, o1, vs1, Heap.get?_push_of_some _ (Heap.get?_push_of_some _ p1), d1, c1⟩ (Nat.ne_of_lt (Heap.lt_size (Heap.get?_push_of_some _ p1))) (Heap.get?_push_size _ rfl) rfl (by first | (simp; done) | (simp; omega)) ?_
  refine wpAny_bind (wpAny_isInstance (T := "StopIteration") (b := true) ⟨_, Heap.get?_update_self _ (Heap.get?_push_size _ rfl) rfl, rfl⟩ isSubtype_stop ?_)
  refine wpAny_pure (hQ _ fun b u n e => ?_)
  have e2 := up _ _ n e
  rw [Heap.get?_update_other _ _ (Nat.ne_of_gt (Heap.lt_size (Heap.get?_push_of_some _ e2)))]
  exact Heap.get?_push_of_some _ (Heap.get?_push_of_some _ e2)
end
theorem turn_strW {P : Program} {w : World} {K : PySem.W.Frag} {tg : Expr} (it : Addr) (x : Str) (t : Tok) (ty : String) (hty : ty = "str_ascii_iterator" ∨ ty = "str_iterator") :
    TurnW P w K tg (Its x) [it] it (fun i h => h.IsStrIter it ty x t i) where
  obj := fun i h st b hb => by
    obtain rfl : b = it := by simpa using hb
    obtain ⟨o, e, c, d⟩ := st
    refine ⟨o, e, fun v z => ?_⟩
    rw [d] at z
    cases z
  keep := fun i h h1 st k => by
    obtain ⟨o, ho, r⟩ := st
    exact ⟨o, k it (by simp) o ho, r⟩
  item := by
    rintro X rfl rfl rfl i pins s σ H E hw I hf st hg
    obtain ⟨f0, f1, f2, f3, f4, f5⟩ := hf it (by simp)
    have lt : i < x.cps.size := hg
    have hx : x.cps[i]? = some x.cps[i] := Array.getElem?_eq_getElem lt
    have key : ∀ h1 : Heap, h1.IsStrIter it ty x t (i + 1) → Heap.SameBut it s.heap h1 → wpAny (model X.prog X.w) X.A (letOwnedTupleGo tg (.ref it) (.str ⟨#[x.cps[i]]⟩ s.toks))
        (fun _ s2 => ∃ y H1, Inv X pins σ H1 s2 ∧ RelV y (.str ⟨#[x.cps[i]]⟩ s.toks) ∧ (Its x).yld i H y H1 ∧ s2.heap.IsStrIter it ty x t (i + 1) ∧ ∀ b ∈ [it], H1 b = none) E { s with heap := h1, toks := s.toks + 1 } := by
      intro h1 st1 sb
      have I1 : Inv X pins σ H { s with heap := h1, toks := s.toks + 1 } := I.turned (fun b o hb e => (sb.2 b hb).trans e) f0 f1 f3 f4 f5
      obtain ⟨oi, e, cc, dd⟩ := id st1
      have hno : ["enumerate", "zip", "dict_itemiterator", "dict_reverseitemiterator", "odict_iterator", "itertools.zip_longest", "itertools.pairwise"].contains ty = false := by
        rcases hty with z | z
        · rw [z]; decide
        · rw [z]; decide
      exact go_of (s := { s with heap := h1, toks := s.toks + 1 }) e cc dd hno ⟨.str ⟨#[x.cps[i]]⟩, H, I1, ⟨s.toks, rfl⟩, ⟨rfl, _, hx, rfl⟩, st1, fun b hb => (hf b hb).1⟩
    rcases hty with z | z
    · subst z
      exact wpAny_pyNext_ascii_item st hx fun h1 st1 sb => ⟨_, rfl, key h1 st1 sb⟩
    · subst z
      exact wpAny_pyNext_wide_item st hx fun h1 st1 sb => ⟨_, rfl, key h1 st1 sb⟩
  done := by
    rintro X rfl rfl rfl i pins s σ H E hw I hf st hg
    obtain ⟨f0, f1, f2, f3, f4, f5⟩ := hf it (by simp)
    have hx : x.cps[i]? = none := Array.getElem?_eq_none hg
    rcases hty with z | z
    · subst z
      rcases hw with hw | ⟨x1, hot⟩
      · exact wpAny_pyNext_ascii_end hw st hx fun h1 eb => ⟨rfl, I.turned (t' := s.toks) (fun b o hb e => eb b o hb e) f0 f1 f3 f4 f5⟩
      · exact end_ascii_hot hot st hx fun h1 eb => ⟨rfl, I.turned (t' := s.toks) (fun b o hb e => eb b o hb e) f0 f1 f3 f4 f5⟩
    · subst z
      rcases hw with hw | ⟨x1, hot⟩
      · exact wpAny_pyNext_wide_end hw st hx fun h1 eb => ⟨rfl, I.turned (t' := s.toks) (fun b o hb e => eb b o hb e) f0 f1 f3 f4 f5⟩
      · exact end_wide_hot hot st hx fun h1 eb => ⟨rfl, I.turned (t' := s.toks) (fun b o hb e => eb b o hb e) f0 f1 f3 f4 f5⟩
  self := fun A i s Q E st h => by
    rcases hty with z | z
    · subst z
      exact wpAny_pyIter_striter_ascii st h
    · subst z
      exact wpAny_pyIter_striter_wide st h
theorem one_itW {X : Cx} {tg : Expr} {pins : List Pin} {σ : St} {H : Hp} {s : Shared} {R : It → Hp → Prop} {x : Str} {t : Tok} {ty : String} {o : Obj} {tk : Nat} (I : Inv X pins σ H s) (hty : ty = "str_ascii_iterator" ∨ ty = "str_iterator")
    (st : (s.heap.push o).IsStrIter s.heap.objs.size ty x t 0) (q : R (Its x) H) : PIEW X pins σ tg R (.ref s.heap.objs.size) { s with heap := s.heap.push o, toks := tk } := by
  refine ⟨s.heap.objs.size, [s.heap.objs.size], _, _, H, rfl, I.kept (t' := tk) fun b o e => Heap.get?_push_of_some _ e, turn_strW _ x t ty hty, st, fun b hb => ?_, q⟩
  obtain rfl : b = s.heap.objs.size := by simpa using hb
  exact I.fpOk (Nat.le_refl _) (I.hok.fresh (Nat.le_refl _))
theorem pi_strW {X : Cx} {tg e : Expr} {te : TE} (he : PE X e te) : PIW X tg e (iStr te) := by
  refine ⟨fun pins s σ H R I h => ?_⟩
  refine thn (he.run pins s σ H _ I h) fun v s1 ⟨y, H1, I1, r1, x, ex, q⟩ => ?_
  subst ex
  obtain ⟨t, rfl⟩ := r1
  cases ha : x.cps.all (· < 128)
  · exact wpAny_pyIter_wide ha (one_itW I1 (.inr rfl) ⟨_, Heap.get?_push_size _ rfl, rfl, rfl⟩ q)
  · exact wpAny_pyIter_ascii ha (one_itW I1 (.inl rfl) ⟨_, Heap.get?_push_size _ rfl, rfl, rfl⟩ q)
end L2

namespace L2
open PySem PySem.Spec PyProof.Rows
section
variable {X : Cx} {ps : List Pin}
/-- type(e), e an exception -/
theorem call_typeEv (hps : ∀ p ∈ ps, p ∈ X.pn) : CallR X (.type "type") (fun xs H Q => ∃ (a C d : Addr) (fs : List (Str × V)), xs = [.ref a] ∧ EvP ps H a C d fs ∧ Q (.ref C) H) := by
  intro pins s σ H xs us Q I r h
  obtain ⟨a, C, d, fs, rfl, ev, q⟩ := h
  obtain ⟨u, rfl, ru⟩ := vals1 r
  obtain rfl : u = Value.ref a := ru
  obtain ⟨oe, od, mA, J, _⟩ := ev.look I hps
  obtain ⟨hh, g, d2, t, os⟩ := s
  refine call_type_obj J.at_ (by rw [J.cls]; rfl) ?_
  rw [J.cls]
  exact ⟨.ref C, H, I, rfl, q⟩
theorem op_isRT : OpR X (compareOp .Is) (fun x y H Q => ∃ a b, x = .ref a ∧ y = .ty b ∧ Q (.bl false) H) := by
  intro pins s σ H x y v u Q I rx ry h
  obtain ⟨a, b, rfl, rfl, q⟩ := h
  obtain rfl : v = Value.ref a := rx
  obtain rfl : u = Value.type b := ry
  exact wpAny_is_other rfl (fun z => nomatch z) ⟨.bl false, H, I, rfl, q⟩
theorem op_notRT : OpR X (compareOp .IsNot) (fun x y H Q => ∃ a b, x = .ref a ∧ y = .ty b ∧ Q (.bl true) H) := by
  intro pins s σ H x y v u Q I rx ry h
  obtain ⟨a, b, rfl, rfl, q⟩ := h
  obtain rfl : v = Value.ref a := rx
  obtain rfl : u = Value.type b := ry
  exact wpAny_isNot_plain rfl (fin_bl I q rfl)
end
/-- data as in Rdd: its type's name -/
theorem Rdd.tyb {K : PySem.W.Frag} {H : Hp} {v : V} {d : PyData} (r : Rdd H v d) : ∃ T : String, TyB K H v T ∧ TyX K H v (.type T) ∧ (T = "str" → ∃ z, v = .str z ∧ d = .str z) ∧ (T = "tuple" → ∃ p xs ds, v = .ref p ∧ d = .tuple ds ∧ H p = some (.tup xs) ∧ RddAll H xs ds) := by
  cases r with
  | non => exact ⟨_, .non, .base .non, (fun z => absurd z (by decide)), fun z => absurd z (by decide)⟩
  | bl b => exact ⟨_, .bl b, .base (.bl b), (fun z => absurd z (by decide)), fun z => absurd z (by decide)⟩
  | int i => exact ⟨_, .int i, .base (.int i), (fun z => absurd z (by decide)), fun z => absurd z (by decide)⟩
  | str x => exact ⟨_, .str x, .base (.str x), (fun _ => ⟨_, rfl, rfl⟩), fun z => absurd z (by decide)⟩
  | lst h r => exact ⟨_, .lst (SqL.of h), .base (.lst h), (fun z => absurd z (by decide)), fun z => absurd z (by decide)⟩
  | tup h r => exact ⟨_, .tup (SqT.of h), .base (.tup h), (fun z => absurd z (by decide)), fun _ => ⟨_, _, _, rfl, rfl, h, r⟩⟩
  | dK h r1 r2 => exact ⟨_, .dK h, .base (.dK h), (fun z => absurd z (by decide)), fun z => absurd z (by decide)⟩
end L2

/-! how long the text of data can be -/
namespace L2
open PySem PySem.Spec PyProof.Rows
open PySem.PyData
mutual
/-- its text is at most so long -/
def wt : PyData → Nat
  | .none => 4
  | .bool _ => 5
  | .int i => (PyData.shown (.int i)).length
  | .str x => 10 * x.length + 2
  | .list xs => wtAll xs + 2
  | .tuple xs => wtAll xs + 3
  | .dict kvs => wtKv kvs + 2
def wtAll : List PyData → Nat
  | [] => 0
  | x :: xs => wt x + 2 + wtAll xs
def wtKv : List (PyData × PyData) → Nat
  | [] => 0
  | q :: r => wt q.1 + wt q.2 + 4 + wtKv r
end
mutual
/-- all signs of it are plain ones -/
def asc : PyData → Bool
  | .str x => x.cps.toList.all fun c => decide (c < 128)
  | .list xs => ascAll xs
  | .tuple xs => ascAll xs
  | .dict kvs => ascKv kvs
  | _ => true
def ascAll : List PyData → Bool
  | [] => true
  | x :: xs => asc x && ascAll xs
def ascKv : List (PyData × PyData) → Bool
  | [] => true
  | q :: r => asc q.1 && (asc q.2 && ascKv r)
end
theorem from_le : ∀ (ts : List Str) (k : Nat) (acc : Str), (textFrom k acc ts).length ≤ acc.length + piled ts
  | [], k, acc => by
    show acc.length ≤ _
    omega
  | t :: r, k, acc => by
    have h := from_le r (k + 1) (acc ++ (if k > 0 then ", " else "" : String) ++ t)
    have e : (acc ++ (if k > 0 then ", " else "" : String) ++ t).length ≤ acc.length + 2 + t.length := by
      rw [strLen_append, strLen_append]
      have e2 : ((", " : String) : Str).length = 2 := rfl
      have e0 : (("" : String) : Str).length = 0 := rfl
      split
      · rw [e2] <;> omega
      · rw [e0] <;> omega
    have p : piled (t :: r) = t.length + 2 + piled r := by simp [piled]
    show (textFrom (k + 1) _ r).length ≤ _
    omega
theorem list_le (ts : List Str) : (listText ts).length ≤ piled ts + 2 := by
  unfold listText
  rw [strLen_append]
  have h := from_le ts 0 "["
  have e1 : (("[" : String) : Str).length = 1 := rfl
  have e2 : (("]" : String) : Str).length = 1 := rfl
  omega
theorem join_le (ts : List Str) : (Str.join ", " ts).length ≤ piled ts := by
  by_cases h : ts = []
  · subst h
    exact Nat.zero_le _
  · have z := join_length_add ts h
    omega
theorem tuple_le (ts : List Str) : (tupleText ts).length ≤ piled ts + 3 := by
  unfold tupleText
  rw [strLen_append, strLen_append]
  have h := join_le ts
  have e1 : (("(" : String) : Str).length = 1 := rfl
  have e2 : ((",)" : String) : Str).length = 2 := rfl
  have e3 : ((")" : String) : Str).length = 1 := rfl
  split
  · rw [e2] <;> omega
  · rw [e3] <;> omega
theorem dict_le (ts : List Str) : (dictText ts).length ≤ piled ts + 2 := by
  unfold dictText
  rw [strLen_append, strLen_append]
  have h := join_le ts
  have e1 : (("{" : String) : Str).length = 1 := rfl
  have e2 : (("}" : String) : Str).length = 1 := rfl
  omega
mutual
theorem shown_le : ∀ d : PyData, asc d = true → (PyData.shown d).length ≤ wt d
  | .none, _ => by simp only [PyData.shown, wt]; decide
  | .bool b, _ => by cases b <;> (simp only [PyData.shown, wt]; decide)
  | .int i, _ => by simp only [wt]; exact Nat.le_refl _
  | .str x, h => by
    simp only [PyData.shown, wt]
    refine PySem.StrLaws.reprText_len x fun c hc => ?_
    simp only [asc] at h
    have z := of_decide_eq_true (List.all_eq_true.mp h c hc)
    exact Nat.lt_of_lt_of_le z (by decide)
  | .list xs, h => by
    simp only [PyData.shown, wt]
    simp only [asc] at h
    have z := shownAll_le xs h
    have y := list_le (PyData.shownAll xs)
    omega
  | .tuple xs, h => by
    simp only [PyData.shown, wt]
    simp only [asc] at h
    have z := shownAll_le xs h
    have y := tuple_le (PyData.shownAll xs)
    omega
  | .dict kvs, h => by
    simp only [PyData.shown, wt]
    simp only [asc] at h
    have z := shownKv_le kvs h
    have y := dict_le (PyData.shownKv kvs)
    omega
theorem shownAll_le : ∀ xs : List PyData, ascAll xs = true → piled (PyData.shownAll xs) ≤ wtAll xs
  | [], _ => by simp [PyData.shownAll, piled, wtAll]
  | x :: xs, h => by
    simp only [ascAll, Bool.and_eq_true] at h
    have z := shown_le x h.1
    have y := shownAll_le xs h.2
    simp only [PyData.shownAll, wtAll]
    have p : piled (PyData.shown x :: PyData.shownAll xs) = (PyData.shown x).length + 2 + piled (PyData.shownAll xs) := by simp [piled]
    omega
theorem shownKv_le : ∀ kvs : List (PyData × PyData), ascKv kvs = true → piled (PyData.shownKv kvs) ≤ wtKv kvs
  | [], _ => by simp [PyData.shownKv, piled, wtKv]
  | q :: r, h => by
    obtain ⟨k, v⟩ := q
    simp only [ascKv, Bool.and_eq_true] at h
    have z := shown_le k h.1
    have y := shown_le v h.2.1
    have x := shownKv_le r h.2.2
    simp only [PyData.shownKv, wtKv]
    have p : piled ((PyData.shown k ++ (": " : Str) ++ PyData.shown v) :: PyData.shownKv r) = (PyData.shown k ++ (": " : Str) ++ PyData.shown v).length + 2 + piled (PyData.shownKv r) := by simp [piled]
    rw [p, strLen_append, strLen_append]
    have e2 : ((": " : String) : Str).length = 2 := rfl
    omega
end
/-- data whose text is told -/
structure Tame (d : PyData) : Prop where
  a : asc d = true
  s : d.showable = true
  h : d.depth ≤ 32
  w : wt d ≤ 1000000
theorem Tame.len {d : PyData} (t : Tame d) : d.shown.length ≤ sizeLine := by
  have z := shown_le d t.a
  have y := t.w
  rw [sizeLine_eq]
  omega
end L2

namespace K01
open PySem PySem.Spec PyProof.Rows L2
def top (i : Nat) : Stmt := PySem.Challenge.pw_maplost_k01_names_lines_and_rounds.main.body.getD i (.Pass ⟨0, 0, 0, 0⟩)
abbrev Fd (K : PySem.W.Frag) (x : Str) (st : Stmt) (f : Addr) (fd : FuncData) : Prop := FunD K x x (defArgs st) (defBody st) (defScope st) [] [] f fd
/-- what a value is: data, an InvalidText of the text x, a pair of a text and such a one -/
inductive Sh
  | dat (d : PyData)
  | exc
  | mix (a : Str)
abbrev ExT (K : PySem.W.Frag) (H : Hp) (v : V) : Prop := ∃ a d : Addr, v = .ref a ∧ EvP [] H a (He.ga K "InvalidText") d [("given", .str "x")]
def Has (K : PySem.W.Frag) (H : Hp) (v : V) : Sh → Prop
  | .dat d => Rdd H v d ∧ Tame d
  | .exc => ExT K H v
  | .mix a => ∃ (p : Addr) (e : V), v = .ref p ∧ H p = some (.tup [.str a, e]) ∧ ExT K H e ∧ Tame (.str a)
theorem ExT.mono {K : PySem.W.Frag} {H H' : Hp} (k : Same H H') {v : V} (h : ExT K H v) : ExT K H' v :=
  let ⟨a, d, e, ev⟩ := h
  ⟨a, d, e, ev.mono (fun _ z => z) k⟩
theorem Has.mono {K : PySem.W.Frag} {H H' : Hp} (k : Same H H') {v : V} : ∀ {s : Sh}, Has K H v s → Has K H' v s
  | .dat _, h => ⟨h.1.mono k, h.2⟩
  | .exc, h => ExT.mono k h
  | .mix _, ⟨p, e, h1, h2, h3, h4⟩ => ⟨p, e, h1, k _ _ h2, h3.mono k, h4⟩
def tys : List String := ["NoneType", "bool", "int", "str", "list", "tuple", "dict"]
/-- no text, no tuple, so to say by its type -/
inductive View (K : PySem.W.Frag) (H : Hp) (v : V) (s : Sh) : Prop
  | str (z : Str) (e : v = .str z) (f : s = .dat (.str z)) (l : z.length ≤ 100000)
  | oth (T : String) (t : TyB K H v T) (x : TyX K H v (.type T)) (m : T ∈ tys) (n : T ≠ "str") (f : ∀ z, s ≠ .dat (.str z))
  | exc (a d : Addr) (e : v = .ref a) (ev : EvP [] H a (He.ga K "InvalidText") d [("given", .str "x")]) (f : s = .exc)
theorem str_tame {z : Str} (t : Tame (.str z)) : z.length ≤ 100000 := by
  have w := t.w
  simp only [wt] at w
  omega
theorem Has.view {K : PySem.W.Frag} {H : Hp} {v : V} {s : Sh} (h : Has K H v s) : View K H v s := by
  cases s with
  | dat d =>
    obtain ⟨r, t⟩ := h
    cases r with
    | non => exact .oth _ .non (.base .non) (by decide) (by decide) fun z e => by cases e
    | bl b => exact .oth _ (.bl b) (.base (.bl b)) (by decide) (by decide) fun z e => by cases e
    | int i => exact .oth _ (.int i) (.base (.int i)) (by decide) (by decide) fun z e => by cases e
    | str x => exact .str x rfl rfl (str_tame t)
    | lst h r => exact .oth _ (.lst (SqL.of h)) (.base (.lst h)) (by decide) (by decide) fun z e => by cases e
    | tup h r => exact .oth _ (.tup (SqT.of h)) (.base (.tup h)) (by decide) (by decide) fun z e => by cases e
    | dK h r1 r2 => exact .oth _ (.dK h) (.base (.dK h)) (by decide) (by decide) fun z e => by cases e
  | exc =>
    obtain ⟨a, d, e, ev⟩ := h
    exact .exc a d e ev rfl
  | mix a =>
    obtain ⟨p, e, rfl, h2, h3, h4⟩ := h
    exact .oth _ (.tup (SqT.of h2)) (.base (.tup h2)) (by decide) (by decide) fun z e => by cases e
/-- all signs are from lo to hi -/
def signs (lo hi : Nat) (z : Str) : Bool := z.cps.toList.all fun c => decide (lo ≤ c) && decide (c ≤ hi)
def nameS (z : Str) : Bool := decide (1 ≤ z.length) && (decide (z.length ≤ 8) && signs 97 122 z)
def textS (z : Str) : Bool := decide (z.length ≤ 40) && signs 32 126 z
def strB (f : Str → Bool) : Sh → Bool
  | .dat (.str z) => f z
  | _ => false
theorem strB_no {f : Str → Bool} {s : Sh} (h : ∀ z, s ≠ .dat (.str z)) : strB f s = false := by
  cases s with
  | dat d => cases d with
    | str z => exact absurd rfl (h z)
    | _ => rfl
  | _ => rfl
/-- one value is judged -/
def spJ (K : PySem.W.Frag) (f : Sh → Bool) : Sp := fun vs H Q _ => ∃ v s, vs = [v] ∧ Has K H v s ∧ ∀ H', Same H H' → Q (.bl (f s)) H'
theorem two_ln {n : Nat} (h : n ≤ 16777216) : n ≤ sizeLine := by
  rw [sizeLine_eq]
  exact h
theorem upd_grow {H : Hp} {p : Addr} {o : HO} (h : H p = none) : Same H (upd H p o) := fun b u e => by
  rw [upd_ne (ne_of_none e h)]
  exact e
/-- [e for sign in value], e a judgement of the sign -/
theorem lc_signs {z : Str} {σ : L2.St} {H : Hp} {i : Nat} {te : TE} {f : Nat → Bool} {D : Addr} {Qd : Hp → Prop} (hD : H D = none) (hz : z.length ≤ 100000)
    (he : ∀ (c : Nat) H' (Q' : VK), c ∈ z.cps.toList → Q' (.bl (f c)) H' → te ((wipe σ [i]).set i (some (.str ⟨#[c]⟩))) H' Q') (hs : ∀ u, wipe ((wipe σ [i]).set i u) [i] = wipe σ [i])
    (q : ∀ H', Same H H' → H' D = some (.lst (z.cps.toList.map fun c => V.bl (f c))) → Qd H') :
    ∃ W : Nat → Nat → Hp → Prop, (∃ m, W 0 m (upd H D (.lst []))) ∧ ∀ j m H, W j m H →
      ((Its z).stop j H ∧ Qd H) ∨ ((Its z).go j H ∧ ∃ Nx : Hp → Prop, (∀ H', Nx H' → ∃ m', m' < m ∧ W (j + 1) m' H') ∧ ∀ x H', (Its z).yld j H x H' → gName i x (wipe σ [i]) H' fun σ2 H2 => wipe σ2 [i] = wipe σ [i] ∧ tYes σ2 H2 fun b H3 =>
        if b = true then te σ2 H3 fun y H4 => ∃ acc, H4 D = some (.lst acc) ∧ acc.length < sizeLine ∧ Nx (upd H4 D (.lst (acc ++ [y]))) else Nx H3) := by
  refine lc_it walk_str (fun j H' => Same H H' ∧ H' D = some (.lst ((z.cps.toList.take j).map fun c => V.bl (f c)))) ⟨upd_grow hD, upd_same⟩ (fun _ _ _ _ => True.intro) ?_ ?_
  · rintro j x H1 H2 hj ⟨k1, h1⟩ ⟨rfl, c, hc, rfl⟩
    have hj2 : j < z.cps.toList.length := by simpa using hj
    have hm : z.cps.toList[j] = c := by
      have e := Array.getElem?_eq_some_iff.mp hc
      obtain ⟨_, e⟩ := e
      simpa using e
    have mem : c ∈ z.cps.toList := by
      rw [← hm]
      exact List.getElem_mem hj2
    refine ⟨hs _, he c H2 _ mem ⟨_, h1, ?_, ?_, ?_⟩⟩
    · rw [sizeLine_eq, List.length_map, List.length_take]
      have l : z.cps.toList.length = z.length := by simp [Str.length]
      omega
    · intro b o e
      rw [upd_ne (ne_of_none e hD)]
      exact k1 b o e
    · rw [upd_same, List.take_succ_eq_append_getElem hj2, List.map_append, hm]
      rfl
  · rintro H1 ⟨k1, h1⟩
    refine q H1 k1 ?_
    rw [h1]
    have l : z.cps.toList.length = z.cps.size := by simp
    rw [← l, List.take_length]
end K01

namespace K01
open PySem PySem.Spec PyProof.Rows L2
abbrev sName : Stmt := top 12
abbrev sText : Stmt := top 13
theorem scName : FnScope ["value", "sign"] ["value"] (defScope sName) := ⟨rfl, rfl, rfl, by decide +kernel, rfl, by decide +kernel, by decide +kernel⟩
theorem scText : FnScope ["value", "sign"] ["value"] (defScope sText) := ⟨rfl, rfl, rfl, by decide +kernel, rfl, by decide +kernel, by decide +kernel⟩
structure Blt (mg : Str → Option Value) : Prop where
  typ : mg "type" = none
  str : mg "str" = none
  len : mg "len" = none
  all : mg "all" = none
  tup : mg "tuple" = none
structure Ints (mg : Str → Option Value) : Prop where
  nm : ∃ t, mg "NAME_LENGTH" = some (.int 8 t)
  tx : ∃ t, mg "TEXT_LENGTH" = some (.int 40 t)
  rf : ∃ t, mg "ROUND_FIGURES" = some (.int 9 t)
  rw : ∃ t, mg "ROUND_WORD" = some (.str "round " t)
theorem lt1 {a b : Nat} : decide ([a] < [b]) = decide (a < b) := by
  apply decide_eq_decide.mpr
  constructor
  · intro h
    rcases List.cons_lt_cons_iff.mp h with h | ⟨_, h⟩
    · exact h
    · exact absurd h (List.not_lt_nil _)
  · intro h
    exact List.cons_lt_cons_iff.mpr (.inl h)
theorem iteB {c : Bool} {A B : Prop} (h1 : c = true → A) (h2 : c = false → B) : if c = true then A else B := by
  cases c with
  | true => exact iteT (h1 rfl)
  | false => exact iteF (h2 rfl)
theorem le_lt1 {a b c : Nat} (f : Nat → Bool) (h : f c = (decide (a ≤ c) && decide (c ≤ b))) {P1 : V → Prop} {P2 : Prop} (go : P1 (.bl (!decide ([b] < [c]))) → P2) (q : P1 (.bl (f c))) :
    ∃ k, V.bl (!decide ([c] < [a])) = V.bl k ∧ if k = true then P2 else P1 (.bl false) := by
  refine ⟨_, rfl, iteB (fun e => go ?_) fun e => ?_⟩
  · rw [lt1] at e ⊢
    have e1 : ¬ c < a := of_decide_eq_false (by simpa using e)
    have e2 : (!decide (b < c)) = f c := by
      rw [h, decide_eq_true (by omega : a ≤ c), Bool.true_and]
      by_cases z : c ≤ b
      · rw [decide_eq_true z, decide_eq_false (by omega : ¬ b < c)] <;> rfl
      · rw [decide_eq_false z, decide_eq_true (by omega : b < c)] <;> rfl
    rw [e2]
    exact q
  · rw [lt1] at e
    have e1 : c < a := of_decide_eq_true (by simpa using e)
    have e2 : f c = false := by
      rw [h, decide_eq_false (by omega : ¬ a ≤ c), Bool.false_and]
    rw [e2] at q
    exact q
section
variable {P : Program} {w : World} {K : PySem.W.Frag} {mg : Str → Option Value} {base : Heap} {f : Addr} {fd : FuncData}
theorem ok_isName (F : Fd K "is_name" sName f fd) (B : Blt mg) (N : Ints mg) : FnOk P w K mg base CX0 1 f fd ["value"] (spJ K (strB nameS)) := by
  obtain ⟨t8, h8⟩ := N.nm
  refine F.ok scName (fun vs H Q E h => ?_) (fun cdv A outer s H vs Q E hr h => ?_)
  · obtain ⟨v, s, rfl, _⟩ := h
    rfl
  · refine ⟨_, pss_cons (ps_if (pw_or (pt_cmpR (op_notTyB.or op_notRT) (pe_callTy (call_type1.or (call_typeEv (ps := []) fun _ z => nomatch z)) (by rfl) B.typ (by decide +kernel) (pa_cons (pv 0) pa_nil)) (pe_bltn (by rfl) B.str (by decide +kernel) (v := .ty "str") rfl) (nomark _))
        (pw_or1 (pt_not (pt_chain op_le op_le pe_int (pe_callB call_len (by rfl) B.len boot_len (pa_cons (pv 0) pa_nil)) (pe_glob (by rfl) h8 (v := .int 8) ⟨t8, rfl⟩))))).pt (pss_one (ps_ret pe_bl)) pss_nil)
      (pss_one (ps_ret (pe_callB (cr_all rfl) (by rfl) B.all (by decide +kernel) (pa_cons (pe_lc (own := [("sign", 1)]) (g := gName 1) rfl scName.nd (pi_str (pv 0))
        (blkOk_by (N := ["value", "sign"]) (sc := defScope sName) (by decide +kernel)) (fun _ _ _ _ _ => pg_name (i := 1) scName.nd rfl (Or.inl rfl)) (fun _ _ _ _ _ => pts_nil)
        (fun _ _ _ _ _ => pe_chain op_le_str op_le_str pe_str (pv 1) pe_str)) pa_nil)))), ?_⟩
    obtain ⟨v, s, rfl, hv, q⟩ := h
    rcases hv.view with ⟨z, rfl, rfl, hz⟩ | ⟨T, t, x, m, n, fn⟩ | ⟨a, d, rfl, ev, rfl⟩
    · refine ⟨_, rfl, .inl ⟨_, _, rfl, .str z, .inl ⟨"str", "str", rfl, rfl, false, congrArg (fun b => V.bl (!b)) (decide_eq_true rfl), iteF ?_⟩⟩⟩
      have fin : ∀ b, b = nameS z → Q (.bl b) H := fun b e => by
        rw [e]
        exact q H (Same.refl H)
      refine ⟨_, rfl, _, _, rfl, ⟨two_ln (by omega), rfl⟩, _, _, rfl, rfl, _, rfl, iteB (fun e1 => ?_) fun e1 => ?_⟩
      · have l1 : 1 ≤ z.length := by
          have := of_decide_eq_true e1
          omega
        refine ⟨_, _, rfl, rfl, _, rfl, iteB (fun e2 => ?_) fun e2 => ?_⟩
        · have l2 : ¬ z.length ≤ 8 := fun y => by
            have e3 : decide ((z.length : Int) ≤ 8) = true := decide_eq_true (by omega)
            rw [e3] at e2
            cases e2
          exact fin _ (by unfold nameS; rw [decide_eq_false l2] <;> simp)
        · have l2 : z.length ≤ 8 := by
            have e3 : decide ((z.length : Int) ≤ 8) = true := by
              cases h : decide ((z.length : Int) ≤ 8) with
              | true => rfl
              | false =>
                rw [h] at e2
                cases e2
            have := of_decide_eq_true e3
            omega
          refine ⟨_, rfl, _, rfl, fun D hD => lc_signs (i := 1) (σ := [some (.str z), none]) (f := fun c => decide (97 ≤ c) && decide (c ≤ 122)) hD hz ?_ ?_ ?_⟩
          · exact fun c H1 Q1 _ q1 => ⟨_, rfl, _, _, rfl, rfl, le_lt1 (a := 97) (b := 122) (P1 := fun v => Q1 v H1) (fun c => decide (97 ≤ c) && decide (c ≤ 122)) rfl (fun z => ⟨_, _, rfl, rfl, z⟩) q1⟩
          · exact fun u => rfl
          · intro H1 k1 h1
            refine ⟨D, z.cps.toList.map fun c => decide (97 ≤ c) && decide (c ≤ 122), rfl, ?_, ?_⟩
            · rw [List.map_map]
              exact SqL.of h1
            · have e : (List.map (fun c => decide (97 ≤ c) && decide (c ≤ 122)) z.cps.toList).all id = nameS z := by
                unfold nameS signs
                rw [decide_eq_true l1, decide_eq_true l2, List.all_map] <;> rfl
              rw [e]
              exact q H1 k1
      · have l1 : ¬ 1 ≤ z.length := fun y => by
          have e3 : decide ((1 : Int) ≤ (z.length : Int)) = true := decide_eq_true (by omega)
          rw [e3] at e1
          cases e1
        exact ⟨false, rfl, iteT (fin _ (by unfold nameS; rw [decide_eq_false l1] <;> simp))⟩
    · refine ⟨_, rfl, .inl ⟨_, _, rfl, t, .inl ⟨T, "str", rfl, rfl, true, congrArg (fun b => V.bl (!b)) (decide_eq_false n), iteT ?_⟩⟩⟩
      have z := strB_no (f := nameS) fn
      exact iteT (z ▸ q H (Same.refl H))
    · exact ⟨_, rfl, .inr ⟨a, _, d, _, rfl, ev, .inr ⟨_, "str", rfl, rfl, true, rfl, iteT (iteT (q H (Same.refl H)))⟩⟩⟩
theorem ok_isText (F : Fd K "is_text" sText f fd) (B : Blt mg) (N : Ints mg) : FnOk P w K mg base CX0 1 f fd ["value"] (spJ K (strB textS)) := by
  obtain ⟨t40, h40⟩ := N.tx
  refine F.ok scText (fun vs H Q E h => ?_) (fun cdv A outer s H vs Q E hr h => ?_)
  · obtain ⟨v, s, rfl, _⟩ := h
    rfl
  · refine ⟨_, pss_cons (ps_if (pw_or (pt_cmpR (op_notTyB.or op_notRT) (pe_callTy (call_type1.or (call_typeEv (ps := []) fun _ z => nomatch z)) (by rfl) B.typ (by decide +kernel) (pa_cons (pv 0) pa_nil)) (pe_bltn (by rfl) B.str (by decide +kernel) (v := .ty "str") rfl) (nomark _))
        (pw_or1 (pt_cmpR op_gt (pe_callB call_len (by rfl) B.len boot_len (pa_cons (pv 0) pa_nil)) (pe_glob (by rfl) h40 (v := .int 40) ⟨t40, rfl⟩) (nomark _)))).pt (pss_one (ps_ret pe_bl)) pss_nil)
      (pss_one (ps_ret (pe_callB (cr_all rfl) (by rfl) B.all (by decide +kernel) (pa_cons (pe_lc (own := [("sign", 1)]) (g := gName 1) rfl scText.nd (pi_str (pv 0))
        (blkOk_by (N := ["value", "sign"]) (sc := defScope sText) (by decide +kernel)) (fun _ _ _ _ _ => pg_name (i := 1) scText.nd rfl (Or.inl rfl)) (fun _ _ _ _ _ => pts_nil)
        (fun _ _ _ _ _ => pe_chain op_le_str op_le_str pe_str (pv 1) pe_str)) pa_nil)))), ?_⟩
    obtain ⟨v, s, rfl, hv, q⟩ := h
    rcases hv.view with ⟨z, rfl, rfl, hz⟩ | ⟨T, t, x, m, n, fn⟩ | ⟨a, d, rfl, ev, rfl⟩
    · refine ⟨_, rfl, .inl ⟨_, _, rfl, .str z, .inl ⟨"str", "str", rfl, rfl, false, congrArg (fun b => V.bl (!b)) (decide_eq_true rfl), iteF ?_⟩⟩⟩
      refine ⟨_, rfl, _, _, rfl, ⟨two_ln (by omega), rfl⟩, _, _, rfl, rfl, _, rfl, iteB (fun e1 => ?_) fun e1 => ?_⟩
      · have l1 : ¬ z.length ≤ 40 := by
          have := of_decide_eq_true e1
          omega
        have e : false = textS z := by
          unfold textS
          rw [decide_eq_false l1] <;> rfl
        exact e ▸ q H (Same.refl H)
      · have l1 : z.length ≤ 40 := by
          have := of_decide_eq_false e1
          omega
        refine ⟨_, rfl, _, rfl, fun D hD => lc_signs (i := 1) (σ := [some (.str z), none]) (f := fun c => decide (32 ≤ c) && decide (c ≤ 126)) hD hz ?_ ?_ ?_⟩
        · exact fun c H1 Q1 _ q1 => ⟨_, rfl, _, _, rfl, rfl, le_lt1 (a := 32) (b := 126) (P1 := fun v => Q1 v H1) (fun c => decide (32 ≤ c) && decide (c ≤ 126)) rfl (fun z => ⟨_, _, rfl, rfl, z⟩) q1⟩
        · exact fun u => rfl
        · intro H1 k1 h1
          refine ⟨D, z.cps.toList.map fun c => decide (32 ≤ c) && decide (c ≤ 126), rfl, ?_, ?_⟩
          · rw [List.map_map]
            exact SqL.of h1
          · have e : (List.map (fun c => decide (32 ≤ c) && decide (c ≤ 126)) z.cps.toList).all id = textS z := by
              unfold textS signs
              rw [decide_eq_true l1, List.all_map] <;> rfl
            rw [e]
            exact q H1 k1
    · refine ⟨_, rfl, .inl ⟨_, _, rfl, t, .inl ⟨T, "str", rfl, rfl, true, congrArg (fun b => V.bl (!b)) (decide_eq_false n), iteT ?_⟩⟩⟩
      have z := strB_no (f := textS) fn
      exact iteT (z ▸ q H (Same.refl H))
    · exact ⟨_, rfl, .inr ⟨a, _, d, _, rfl, ev, .inr ⟨_, "str", rfl, rfl, true, rfl, iteT (iteT (q H (Same.refl H)))⟩⟩⟩
end
end K01

namespace K01
open PySem PySem.Spec PyProof.Rows L2
abbrev sTuple : Stmt := top 5
abbrev sLine : Stmt := top 14
theorem scTuple : FnScope ["value", "many"] ["value", "many"] (defScope sTuple) := ⟨rfl, rfl, rfl, by decide +kernel, rfl, by decide +kernel, by decide +kernel⟩
theorem scLine : FnScope ["value"] ["value"] (defScope sLine) := ⟨rfl, rfl, rfl, by decide +kernel, rfl, by decide +kernel, by decide +kernel⟩
theorem rdds_len {H : Hp} : ∀ {xs : List V} {ds : List PyData}, RddAll H xs ds → xs.length = ds.length
  | _, _, .nil => rfl
  | _, _, .cons _ t => congrArg Nat.succ (rdds_len t)
theorem rdds_two {H : Hp} {xs : List V} {a b : PyData} : RddAll H xs [a, b] → ∃ x y, xs = [x, y] ∧ Rdd H x a ∧ Rdd H y b
  | .cons r1 (.cons r2 .nil) => ⟨_, _, rfl, r1, r2⟩
theorem tame_two {a b : PyData} (t : Tame (.tuple [a, b])) : Tame a ∧ Tame b := by
  obtain ⟨h1, h2, h3, h4⟩ := t
  simp only [asc, ascAll, Bool.and_eq_true] at h1
  simp only [PyData.showable, PyData.showableAll, Bool.and_eq_true] at h2
  simp only [PyData.depth, PyData.depthAll] at h3
  simp only [wt, wtAll] at h4
  exact ⟨⟨h1.1, h2.1, by omega, by omega⟩, ⟨h1.2.1, h2.2.1, by omega, by omega⟩⟩
/-- how many items a tuple has -/
def tupLen : Sh → Option Nat
  | .dat (.tuple ds) => some ds.length
  | .mix _ => some 2
  | _ => none
inductive ViewT (K : PySem.W.Frag) (H : Hp) (v : V) (s : Sh) : Prop
  | tup (p : Addr) (xs : List V) (e : v = .ref p) (h : H p = some (.tup xs)) (n : tupLen s = some xs.length)
  | oth (T : String) (t : TyB K H v T) (x : TyX K H v (.type T)) (m : T ∈ tys) (n : T ≠ "tuple") (f : tupLen s = none)
  | exc (a d : Addr) (e : v = .ref a) (ev : EvP [] H a (He.ga K "InvalidText") d [("given", .str "x")]) (f : s = .exc)
theorem Has.viewT {K : PySem.W.Frag} {H : Hp} {v : V} {s : Sh} (h : Has K H v s) : ViewT K H v s := by
  cases s with
  | dat d =>
    obtain ⟨r, t⟩ := h
    cases r with
    | non => exact .oth _ .non (.base .non) (by decide) (by decide) rfl
    | bl b => exact .oth _ (.bl b) (.base (.bl b)) (by decide) (by decide) rfl
    | int i => exact .oth _ (.int i) (.base (.int i)) (by decide) (by decide) rfl
    | str x => exact .oth _ (.str x) (.base (.str x)) (by decide) (by decide) rfl
    | lst h r => exact .oth _ (.lst (SqL.of h)) (.base (.lst h)) (by decide) (by decide) rfl
    | tup h r => exact .tup _ _ rfl h (congrArg some (rdds_len r).symm)
    | dK h r1 r2 => exact .oth _ (.dK h) (.base (.dK h)) (by decide) (by decide) rfl
  | exc =>
    obtain ⟨a, d, e, ev⟩ := h
    exact .exc a d e ev rfl
  | mix a =>
    obtain ⟨p, e, rfl, h2, h3, h4⟩ := h
    exact .tup _ _ rfl h2 rfl
def spTup (K : PySem.W.Frag) : Sp := fun vs H Q _ => ∃ (v : V) (s : Sh) (n : Nat), vs = [v, .int n] ∧ Has K H v s ∧ ∀ H', Same H H' → Q (.bl (decide (tupLen s = some n))) H'
/-- a line: a pair of a name and a text -/
def lineB : Sh → Bool
  | .dat (.tuple [x, y]) => strB nameS (.dat x) && strB textS (.dat y)
  | _ => false
section
variable {P : Program} {w : World} {K : PySem.W.Frag} {mg : Str → Option Value} {base : Heap} {f fT fN fX : Addr} {fd dT dN dX : FuncData}
theorem ok_isTuple (F : Fd K "is_tuple" sTuple f fd) (B : Blt mg) : FnOk P w K mg base CX0 1 f fd ["value", "many"] (spTup K) := by
  refine F.ok scTuple (fun vs H Q E h => ?_) (fun cdv A outer s H vs Q E hr h => ?_)
  · obtain ⟨v, s, n, rfl, _⟩ := h
    rfl
  · refine ⟨_, pss_one (ps_ret (pe_and (pe_cmpR (op_isTyB.or op_isRT) (pe_callTy (call_type1.or (call_typeEv (ps := []) fun _ z => nomatch z)) (by rfl) B.typ (by decide +kernel) (pa_cons (pv 0) pa_nil)) (pe_bltn (by rfl) B.tup (by decide +kernel) (v := .ty "tuple") rfl) (nomark _))
        (pe_one (pe_cmpR op_eq (pe_callB call_len (by rfl) B.len boot_len (pa_cons (pv 0) pa_nil)) (pv 1) (nomark _))))), ?_⟩
    obtain ⟨v, s, n, rfl, hv, q⟩ := h
    rcases hv.viewT with ⟨p, xs, rfl, h, e⟩ | ⟨T, t, x, m, n1, e⟩ | ⟨a, d, rfl, ev, rfl⟩
    · refine ⟨_, rfl, .inl ⟨_, _, rfl, .tup (SqT.of h), .inl ⟨"tuple", "tuple", rfl, rfl, true, congrArg V.bl (decide_eq_true rfl), iteT ?_⟩⟩⟩
      refine ⟨_, rfl, _, _, rfl, .inr ⟨_, SqT.of h, rfl⟩, _, rfl, rfl, ?_⟩
      have z := q H (Same.refl H)
      rw [e] at z
      have y : decide (V.int (xs.length : Int) = V.int (n : Int)) = decide (some xs.length = some n) := by
        apply decide_eq_decide.mpr
        simp
        omega
      show Q (.bl (decide (V.int (xs.length : Int) = V.int (n : Int)))) H
      rw [y]
      exact z
    · refine ⟨_, rfl, .inl ⟨_, _, rfl, t, .inl ⟨T, "tuple", rfl, rfl, false, congrArg V.bl (decide_eq_false n1), iteF ?_⟩⟩⟩
      have z := q H (Same.refl H)
      rw [e] at z
      exact z
    · exact ⟨_, rfl, .inr ⟨a, _, d, _, rfl, ev, .inr ⟨_, "tuple", rfl, rfl, false, rfl, iteF (q H (Same.refl H))⟩⟩⟩
theorem ok_isLine (F : Fd K "is_line" sLine f fd) (FT : Fd K "is_tuple" sTuple fT dT) (FN : Fd K "is_name" sName fN dN) (FX : Fd K "is_text" sText fX dX) (B : Blt mg) (N : Ints mg)
    (gT : mg "is_tuple" = some (.ref fT)) (gN : mg "is_name" = some (.ref fN)) (gX : mg "is_text" = some (.ref fX)) : FnOk P w K mg base CX0 2 f fd ["value"] (spJ K lineB) := by
  have GT : FnOk P w K mg base CX0 1 fT dT ["value", "many"] (spTup K) := ok_isTuple FT B
  have GN : FnOk P w K mg base CX0 1 fN dN ["value"] (spJ K (strB nameS)) := ok_isName FN B N
  have GX : FnOk P w K mg base CX0 1 fX dX ["value"] (spJ K (strB textS)) := ok_isText FX B N
  have bT : Binds K dT ["value", "many"] [] := FT.bindsN fun _ _ _ _ _ _ us hl => match us, hl with | [_, _], _ => rfl
  have bN : Binds K dN ["value"] [] := FN.bindsN fun _ _ _ _ _ _ us hl => match us, hl with | [_], _ => rfl
  have bX : Binds K dX ["value"] [] := FX.bindsN fun _ _ _ _ _ _ us hl => match us, hl with | [_], _ => rfl
  refine F.ok scLine (fun vs H Q E h => ?_) (fun cdv A outer s H vs Q E hr h => ?_)
  · obtain ⟨v, s, rfl, _⟩ := h
    rfl
  · refine ⟨_, pss_one (ps_ret (pe_and (pe_call GT hr (by rfl) gT FT.kp bT .nil pass0 (pa_cons (pv 0) (pa_cons pe_int pa_nil)))
      (pe_and (pe_call GN hr (by rfl) gN FN.kp bN .nil pass0 (pa_cons (pe_ix ix_seq (pv 0) pe_int fun _ _ => rfl) pa_nil))
      (pe_one (pe_call GX hr (by rfl) gX FX.kp bX .nil pass0 (pa_cons (pe_ix ix_seq (pv 0) pe_int fun _ _ => rfl) pa_nil)))))), ?_⟩
    obtain ⟨v, s, rfl, hv, q⟩ := h
    refine ⟨_, rfl, v, s, 2, rfl, hv, fun H1 k1 => ⟨_, rfl, iteB (fun e0 => ?_) fun e0 => ?_⟩⟩
    · have e : tupLen s = some 2 := of_decide_eq_true e0
      clear e0
      have hv1 := hv.mono k1
      cases s with
      | dat d =>
        obtain ⟨r, t⟩ := hv1
        cases r with
        | tup h r =>
          rename_i p xs ds
          have l : ds.length = 2 := Option.some.inj e
          obtain ⟨dx, dy, rfl⟩ : ∃ dx dy, ds = [dx, dy] := match ds, l with
            | [a, b], _ => ⟨a, b, rfl⟩
          obtain ⟨x, y, rfl, r1, r2⟩ := rdds_two r
          · obtain ⟨t1, t2⟩ := tame_two t
            refine ⟨_, rfl, .inr (.inl ⟨p, _, 0, x, rfl, rfl, SqT.of h, rfl, ?_⟩)⟩
            refine ⟨x, .dat dx, rfl, ⟨r1, t1⟩, fun H2 k2 => ⟨_, rfl, iteB (fun b => ?_) fun b => ?_⟩⟩
            · refine ⟨_, rfl, .inr (.inl ⟨p, _, 1, y, rfl, rfl, SqT.of (k2 _ _ h), rfl, ?_⟩)⟩
              refine ⟨y, .dat dy, rfl, ⟨r2.mono k2, t2⟩, fun H3 k3 => ?_⟩
              have z := q H3 (k1.trans (k2.trans k3))
              have y : lineB (.dat (.tuple [dx, dy])) = strB textS (.dat dy) := by
                show (strB nameS (.dat dx) && strB textS (.dat dy)) = _
                rw [b, Bool.true_and]
              rw [y] at z
              exact z
            · have z := q H2 (k1.trans k2)
              have y : lineB (.dat (.tuple [dx, dy])) = false := by
                show (strB nameS (.dat dx) && strB textS (.dat dy)) = _
                rw [b, Bool.false_and]
              rw [y] at z
              exact z
        | _ => cases e
      | exc => cases e
      | mix a =>
        obtain ⟨p, x, rfl, h, ex, t⟩ := hv1
        refine ⟨_, rfl, .inr (.inl ⟨p, _, 0, .str a, rfl, rfl, SqT.of h, rfl, ?_⟩)⟩
        refine ⟨_, .dat (.str a), rfl, ⟨.str a, t⟩, fun H2 k2 => ⟨_, rfl, iteB (fun b => ?_) fun b => q H2 (k1.trans k2)⟩⟩
        refine ⟨_, rfl, .inr (.inl ⟨p, _, 1, x, rfl, rfl, SqT.of (k2 _ _ h), rfl, ?_⟩)⟩
        exact ⟨x, .exc, rfl, ex.mono k2, fun H3 k3 => q H3 (k1.trans (k2.trans k3))⟩
    · have e : ¬ tupLen s = some 2 := of_decide_eq_false e0
      clear e0
      have z := q H1 k1
      have y : lineB s = false := by
        cases s with
        | dat d =>
          cases d with
          | tuple ds =>
            match ds, e with
            | [], _ => rfl
            | [_], _ => rfl
            | [_, _], e => exact absurd rfl e
            | _ :: _ :: _ :: _, _ => rfl
          | _ => rfl
        | _ => rfl
      rw [y] at z
      exact z
end
end K01

namespace K01
open PySem PySem.Spec PyProof.Rows L2
abbrev sNumber : Stmt := top 6
abbrev sRound : Stmt := top 18
theorem scNumber : FnScope ["word", "most", "sign"] ["word", "most"] (defScope sNumber) := ⟨rfl, rfl, rfl, by decide +kernel, rfl, by decide +kernel, by decide +kernel⟩
theorem scRound : FnScope ["value"] ["value"] (defScope sRound) := ⟨rfl, rfl, rfl, by decide +kernel, rfl, by decide +kernel, by decide +kernel⟩
/-- figures that make a number -/
def numW (z : Str) : Bool := decide (V.str z = V.str "0") || !decide (z.cps.toList.head? = some 48)
def numS (m : Nat) (z : Str) : Bool := decide (1 ≤ z.length) && (decide (z.length ≤ m) && (signs 48 57 z && numW z))
def spNum : Sp := fun vs H Q _ => ∃ (z : Str) (m : Nat), vs = [.str z, .int m] ∧ z.length ≤ 100000 ∧ ∀ H', Same H H' → Q (.bl (numS m z)) H'
theorem digit (c : Nat) : decide (c ∈ ("0123456789" : Str).cps.toList) = (decide (48 ≤ c) && decide (c ≤ 57)) := by
  have e : ("0123456789" : Str).cps.toList = [48, 49, 50, 51, 52, 53, 54, 55, 56, 57] := by decide +kernel
  rw [e, Bool.eq_iff_iff]
  simp
  omega
section
variable {P : Program} {w : World} {K : PySem.W.Frag} {mg : Str → Option Value} {base : Heap} {f fN : Addr} {fd dN : FuncData}
theorem ok_isNumber (F : Fd K "is_number" sNumber f fd) (B : Blt mg) : FnOk P w K mg base CX0 1 f fd ["word", "most"] spNum := by
  refine F.ok scNumber (fun vs H Q E h => ?_) (fun cdv A outer s H vs Q E hr h => ?_)
  · obtain ⟨z, m, rfl, _⟩ := h
    rfl
  · refine ⟨_, pss_cons (ps_if (pw_or (pt_not (pt_chain op_le op_le pe_int (pe_callB call_len (by rfl) B.len boot_len (pa_cons (pv 0) pa_nil)) (pv 1)))
        (pw_or1 (pt_not (pt_val (pe_callB (cr_all rfl) (by rfl) B.all (by decide +kernel) (pa_cons (pe_lc (own := [("sign", 2)]) (g := gName 2) rfl scNumber.nd (pi_str (pv 0))
          (blkOk_by (N := ["word", "most", "sign"]) (sc := defScope sNumber) (by decide +kernel)) (fun _ _ _ _ _ => pg_name (i := 2) scNumber.nd rfl (Or.inl rfl)) (fun _ _ _ _ _ => pts_nil)
          (fun _ _ _ _ _ => pe_cmpR op_in_sign (pv 2) pe_str rfl)) pa_nil)))))).pt (pss_one (ps_ret pe_bl)) pss_nil)
      (pss_one (ps_ret (pe_or (pe_cmpR op_eq (pv 0) pe_str (nomark _)) (pe_one (pe_cmpR op_ne (pe_ix ix_seq (pv 0) pe_int fun _ _ => rfl) pe_str (nomark _)))))), ?_⟩
    obtain ⟨z, m, rfl, hz, q⟩ := h
    have no : ∀ H', Same H H' → numS m z = false → Q (.bl false) H' := fun H' k e => e ▸ q H' k
    refine ⟨_, rfl, _, _, rfl, ⟨two_ln (by omega), rfl⟩, _, _, rfl, rfl, _, rfl, iteB (fun e1 => ?_) fun e1 => ?_⟩
    · have l1 : 1 ≤ z.length := by
        have := of_decide_eq_true e1
        omega
      refine ⟨_, rfl, _, _, rfl, rfl, _, rfl, iteB (fun e2 => ?_) fun e2 => ?_⟩
      · have l2 : ¬ z.length ≤ m := fun y => by
          have e3 : decide ((z.length : Int) ≤ (m : Int)) = true := decide_eq_true (by omega)
          rw [e3] at e2
          cases e2
        exact no H (Same.refl H) (by unfold numS; rw [decide_eq_false l2]; simp)
      · have l2 : z.length ≤ m := by
          have e3 : decide ((z.length : Int) ≤ (m : Int)) = true := by
            cases h : decide ((z.length : Int) ≤ (m : Int)) with
            | true => rfl
            | false =>
              rw [h] at e2
              cases e2
          have := of_decide_eq_true e3
          omega
        refine ⟨_, rfl, _, rfl, fun D hD => lc_signs (i := 2) (σ := [some (.str z), some (.int m), none]) (f := fun c => decide (48 ≤ c) && decide (c ≤ 57)) hD hz ?_ ?_ ?_⟩
        · intro c H1 Q1 _ q1
          refine ⟨_, rfl, c, _, rfl, rfl, ?_⟩
          rw [digit]
          exact q1
        · exact fun u => rfl
        · intro H1 k1 h1
          refine ⟨D, z.cps.toList.map fun c => decide (48 ≤ c) && decide (c ≤ 57), rfl, ?_, _, rfl, iteB (fun e3 => ?_) fun e3 => ?_⟩
          · rw [List.map_map]
            exact SqL.of h1
          · refine no H1 k1 ?_
            have e4 : signs 48 57 z = false := by
              rw [← Bool.not_eq_true']
              unfold signs
              rw [← e3, List.all_map] <;> rfl
            unfold numS
            rw [e4]
            simp
          · have e4 : signs 48 57 z = true := by
              rw [← Bool.not_eq_false']
              unfold signs
              rw [← e3, List.all_map] <;> rfl
            have fin : numS m z = numW z := by
              unfold numS
              rw [e4, decide_eq_true l1, decide_eq_true l2] <;> rfl
            have l0 : z.cps.toList.length = z.length := by simp [Str.length]
            obtain ⟨c, r, hc⟩ : ∃ c r, z.cps.toList = c :: r := by
              cases h : z.cps.toList with
              | nil =>
                rw [h] at l0
                simp at l0
                omega
              | cons c r => exact ⟨c, r, rfl⟩
            refine ⟨_, rfl, rfl, _, rfl, iteB (fun e5 => ?_) fun e5 => ?_⟩
            · have y : numW z = true := by
                unfold numW
                rw [e5] <;> rfl
              have x := q H1 k1
              rw [fin, y] at x
              exact x
            · refine ⟨_, rfl, .inr (.inr ⟨z, 0, c, rfl, rfl, two_ln (by omega), by rw [hc]; exact (atI_nat (j := 0) rfl : atI (c :: r) ((0 : Nat) : Int) = some c), rfl, ?_⟩)⟩
              have y : numW z = !decide (V.str ⟨#[c]⟩ = V.str "0") := by
                unfold numW
                rw [e5, hc, Bool.false_or]
                congr 1
                apply decide_eq_decide.mpr
                constructor
                · intro h
                  have h : c = 48 := by simpa using h
                  rw [h]
                  rfl
                · intro h
                  injection h with h
                  have h2 : (#[c] : Array Nat) = #[48] := congrArg Str.cps h
                  simp at h2
                  simp [h2]
              have x := q H1 k1
              rw [fin, y] at x
              exact x
    · have l1 : ¬ 1 ≤ z.length := fun y => by
        have e3 : decide ((1 : Int) ≤ (z.length : Int)) = true := decide_eq_true (by omega)
        rw [e3] at e1
        cases e1
      exact ⟨false, rfl, iteT (no H (Same.refl H) (by unfold numS; rw [decide_eq_false l1]; simp))⟩
end
end K01
namespace K01
open PySem PySem.Spec PyProof.Rows L2
def hasRound (z : Str) : Bool := (z.cps.toList.take 6 == ("round " : Str).cps.toList)
def roundS (z : Str) : Bool := hasRound z && numS 9 (cutS z (some 6) none)
theorem starts_round (z : Str) : Txt.startswith z "round " = hasRound z := by
  have e6 : ("round " : Str).length = 6 := rfl
  have e6' : ("round " : Str).cps.toList.length = 6 := rfl
  unfold Txt.startswith hasRound
  rw [StrLaws.subAt_eq, List.drop_zero, e6]
  by_cases h : z.cps.toList.take 6 = ("round " : Str).cps.toList
  · have l : 6 ≤ z.length := by
      have e := congrArg List.length h
      rw [List.length_take, e6'] at e
      have l0 : z.cps.toList.length = z.length := by simp [Str.length]
      omega
    rw [h, Nat.zero_add]
    simp [l]
  · have e : (z.cps.toList.take 6 == ("round " : Str).cps.toList) = false := beq_eq_false_iff_ne.mpr h
    rw [e]
    simp
theorem cut_len (z : Str) (lo hi : Option Int) : (cutS z lo hi).length ≤ z.length := by
  have l0 : z.cps.toList.length = z.length := by simp [Str.length]
  unfold cutS
  show (List.toArray _).size ≤ _
  rw [List.size_toArray, List.length_take, List.length_drop]
  omega
section
variable {P : Program} {w : World} {K : PySem.W.Frag} {mg : Str → Option Value} {base : Heap} {f fN : Addr} {fd dN : FuncData}
theorem ok_isRound (F : Fd K "is_round" sRound f fd) (FN : Fd K "is_number" sNumber fN dN) (B : Blt mg) (N : Ints mg) (gN : mg "is_number" = some (.ref fN)) :
    FnOk P w K mg base CX0 2 f fd ["value"] (spJ K (strB roundS)) := by
  have GN : FnOk P w K mg base CX0 1 fN dN ["word", "most"] spNum := ok_isNumber FN B
  have bN : Binds K dN ["word", "most"] [] := FN.bindsN fun _ _ _ _ _ _ us hl => match us, hl with | [_, _], _ => rfl
  obtain ⟨t9, h9⟩ := N.rf
  obtain ⟨tr, hw⟩ := N.rw
  refine F.ok scRound (fun vs H Q E h => ?_) (fun cdv A outer s H vs Q E hr h => ?_)
  · obtain ⟨v, s, rfl, _⟩ := h
    rfl
  · refine ⟨_, pss_cons (ps_if (pw_or (pt_cmpR (op_notTyB.or op_notRT) (pe_callTy (call_type1.or (call_typeEv (ps := []) fun _ z => nomatch z)) (by rfl) B.typ (by decide +kernel) (pa_cons (pv 0) pa_nil)) (pe_bltn (by rfl) B.str (by decide +kernel) (v := .ty "str") rfl) (nomark _))
        (pw_or1 (pt_not (pt_val (pe_m1 PySem.F.slot_str_startswith rfl mt_startswith (pv 0) (pe_glob (by rfl) hw (v := .str "round ") ⟨tr, rfl⟩)))))).pt (pss_one (ps_ret pe_bl)) pss_nil)
      (pss_one (ps_ret (pe_call GN hr (by rfl) gN FN.kp bN .nil pass0 (pa_cons (pe_slice sl_str (pv 0) (po_some (pe_callB call_len (by rfl) B.len boot_len (pa_cons (pe_glob (by rfl) hw (v := .str "round ") ⟨tr, rfl⟩) pa_nil))) po_none)
        (pa_cons (pe_glob (by rfl) h9 (v := .int 9) ⟨t9, rfl⟩) pa_nil))))), ?_⟩
    obtain ⟨v, s, rfl, hv, q⟩ := h
    rcases hv.view with ⟨z, rfl, rfl, hz⟩ | ⟨T, t, x, m, n, fn⟩ | ⟨a, d, rfl, ev, rfl⟩
    · refine ⟨_, rfl, .inl ⟨_, _, rfl, .str z, .inl ⟨"str", "str", rfl, rfl, false, congrArg (fun b => V.bl (!b)) (decide_eq_true rfl), iteF ?_⟩⟩⟩
      have key : strB roundS (.dat (.str z)) = (hasRound z && numS 9 (cutS z (some 6) none)) := rfl
      refine ⟨_, rfl, ⟨z, rfl⟩, z, _, rfl, rfl, _, rfl, ?_⟩
      rw [starts_round]
      refine iteB (fun e => ?_) fun e => ?_
      · have x := q H (Same.refl H)
        have e2 : hasRound z = false := by simpa using e
        rw [key, e2] at x
        exact x
      · have e2 : hasRound z = true := by simpa using e
        refine ⟨_, rfl, _, 6, rfl, ⟨two_ln (by decide), rfl⟩, _, rfl, z, rfl, two_ln (by omega), ?_⟩
        refine ⟨_, 9, rfl, Nat.le_trans (cut_len _ _ _) hz, fun H1 k1 => ?_⟩
        have x := q H1 k1
        rw [key, e2] at x
        exact x
    · refine ⟨_, rfl, .inl ⟨_, _, rfl, t, .inl ⟨T, "str", rfl, rfl, true, congrArg (fun b => V.bl (!b)) (decide_eq_false n), iteT ?_⟩⟩⟩
      have z := strB_no (f := roundS) fn
      exact iteT (z ▸ q H (Same.refl H))
    · exact ⟨_, rfl, .inr ⟨a, _, d, _, rfl, ev, .inr ⟨_, "str", rfl, rfl, true, rfl, iteT (iteT (q H (Same.refl H)))⟩⟩⟩
end
end K01

namespace K01
open PySem PySem.Spec PyProof.Rows L2
open Builtin Builtin.Str PySem.StrLaws
theorem occ_stay (s sub : Str) (hi a : Nat) : ∀ (l : List Nat) (f : Nat), (forIn l ((#[a] : Array Nat), f) (occBody s sub hi 1)).run.fst = #[a]
  | [], f => rfl
  | b :: l, f => by
    rw [List.forIn_cons]
    unfold occBody
    rw [if_neg (by simp)]
    exact occ_stay s sub hi a l f
theorem occ_first (s sub : Str) (hi : Nat) : ∀ (l : List Nat) (f : Nat), (∀ i ∈ l, f ≤ i) →
    (forIn l ((#[] : Array Nat), f) (occBody s sub hi 1)).run.fst = ((l.find? fun i => decide (i + sub.length ≤ hi ∧ subAt s sub i = true)).toList).toArray
  | [], f, _ => by simp
  | a :: l, f, hf => by
    rw [List.forIn_cons]
    unfold occBody
    have ha : f ≤ a := hf a List.mem_cons_self
    by_cases hc : a + sub.length ≤ hi ∧ subAt s sub a = true
    · have c1 : (((#[] : Array Nat).size < 1 ∧ f ≤ a) ∧ a + sub.length ≤ hi) ∧ subAt s sub a = true := ⟨⟨⟨by simp, ha⟩, hc.1⟩, hc.2⟩
      rw [if_pos c1, List.find?_cons_of_pos (by simpa using hc)]
      exact occ_stay s sub hi a l _
    · have c2 : ¬ ((((#[] : Array Nat).size < 1 ∧ f ≤ a) ∧ a + sub.length ≤ hi) ∧ subAt s sub a = true) := fun h => hc ⟨h.1.2, h.2⟩
      rw [if_neg c2, List.find?_cons_of_neg (by simpa using hc)]
      exact occ_first s sub hi l f fun i hm => hf i (List.mem_cons_of_mem _ hm)
/-- where spaces stand -/
def spaces (z : Str) : List Nat := (List.range z.length).filter fun k => decide (z.cps.toList[k]? = some 32)
theorem sp_len : (" " : Str) = ⟨#[32]⟩ := by rfl
theorem occ_space (z : Str) : occurrences z " " 0 z.length 1 = (spaces z).head?.toList := by
  rw [occ_eq, occ_first z " " z.length _ 0 fun _ _ => Nat.zero_le _]
  have e : (fun i => decide (i + (" " : Str).length ≤ z.length ∧ subAt z " " i = true)) = fun i => decide (z.cps.toList[i]? = some 32) := by
    funext i
    apply decide_eq_decide.mpr
    rw [sp_len]
    exact subAt_one z 32 i
  rw [e]
  show (List.find? _ (List.range' 0 (z.length + 1 - 0))).toList = _
  congr 1
  unfold spaces
  rw [List.head?_filter, Nat.sub_zero, ← List.range_eq_range', List.range_succ, List.find?_append]
  have n : decide (z.cps.toList[z.length]? = some 32) = false := by
    apply decide_eq_false
    rw [List.getElem?_eq_none (by simp [Str.length])]
    intro h
    cases h
  rw [List.find?_cons_of_neg (by simpa using n), List.find?_nil, Option.or_none]
theorem cut_head (z : Str) (i : Nat) (h : i ≤ z.length) : cutS z none (some (i : Int)) = strSub z 0 i := by
  have l : z.cps.toList.length = z.length := by simp [Str.length]
  have e : HT.sIx z.length z.length (some (i : Int)) = i := by
    unfold HT.sIx
    simp only []
    rw [if_neg (by omega)]
    omega
  have e0 : HT.sIx z.length 0 none = 0 := by simp [HT.sIx]
  unfold cutS
  rw [e, e0, ← strSub_toList] <;> rfl
theorem cut_tail (z : Str) (i : Nat) (h : i ≤ z.length) : cutS z (some (i : Int)) none = strSub z i z.length := by
  have l : z.cps.toList.length = z.length := by simp [Str.length]
  have e : HT.sIx z.length 0 (some (i : Int)) = i := by
    unfold HT.sIx
    simp only []
    rw [if_neg (by omega)]
    omega
  have e0 : HT.sIx z.length z.length none = z.length := by simp [HT.sIx]
  unfold cutS
  rw [e, e0, ← strSub_toList] <;> rfl
theorem space_lt {z : Str} {i : Nat} (h : (spaces z).head? = some i) : i < z.length := by
  have m : i ∈ spaces z := List.mem_of_head? h
  unfold spaces at m
  rw [List.mem_filter, List.mem_range] at m
  exact m.1
theorem part_none {z : Str} (h : (spaces z).head? = none) : Txt.partition z " " = (z, Str.empty, Str.empty) := by
  unfold Txt.partition
  rw [occ_space, h] <;> rfl
theorem part_some {z : Str} {i : Nat} (h : (spaces z).head? = some i) : Txt.partition z " " = (cutS z none (some (i : Int)), (" " : Str), cutS z (some ((i + 1 : Nat) : Int)) none) := by
  have lt := space_lt h
  unfold Txt.partition
  rw [occ_space, h, cut_head z i (by omega), cut_tail z (i + 1) (by omega)] <;> rfl
/-- what a text reads to -/
def readS (z : Str) : Option (Str × Str) := match (spaces z).head? with
  | none => none
  | some i => if (nameS (cutS z none (some (i : Int))) && textS (cutS z (some ((i + 1 : Nat) : Int)) none)) = true then some (cutS z none (some (i : Int)), cutS z (some ((i + 1 : Nat) : Int)) none) else none
end K01

namespace K01
open PySem PySem.Spec PyProof.Rows L2
abbrev sLineText : Stmt := top 15
abbrev sReadLine : Stmt := top 16
theorem scLineText : FnScope ["line"] ["line"] (defScope sLineText) := ⟨rfl, rfl, rfl, by decide +kernel, rfl, by decide +kernel, by decide +kernel⟩
abbrev sLineIn : Stmt := top 17
theorem scLineIn : FnScope ["value", "name", "space", "rest"] ["value"] (defScope sLineIn) := ⟨rfl, rfl, rfl, by decide +kernel, rfl, by decide +kernel, by decide +kernel⟩
theorem scReadLine : FnScope ["text", "line"] ["text"] (defScope sReadLine) := ⟨rfl, rfl, rfl, by decide +kernel, rfl, by decide +kernel, by decide +kernel⟩
def Refuses (K : PySem.W.Frag) (x : Str) (v : V) (H : Hp) (E : XK) : Prop := ∀ d H', Same H H' → H' d = some (.xd [("given", v)]) → E (.ref (He.ga K x)) (some d) H'
def spLineText (K : PySem.W.Frag) : Sp := fun vs H Q E => ∃ v s, vs = [v] ∧ Has K H v s ∧ (lineB s = false → Refuses K "InvalidLine" v H E) ∧
  ∀ a b, s = .dat (.tuple [.str a, .str b]) → lineB s = true → ∀ H', Same H H' → Q (.str (a ++ (" " : Str) ++ b)) H'
/-- what a value reads to -/
def readB : Sh → Option (Str × Str)
  | .dat (.str z) => readS z
  | _ => none
def spReadLine (K : PySem.W.Frag) : Sp := fun vs H Q E => ∃ v s, vs = [v] ∧ Has K H v s ∧ (readB s = none → Refuses K "InvalidText" v H E) ∧
  ∀ a b, readB s = some (a, b) → ∀ p H', Same H H' → H' p = some (.tup [.str a, .str b]) → Q (.ref p) H'
/-- the line that a value has as a text, or nothing -/
def spLineIn (K : PySem.W.Frag) : Sp := fun vs H Q _ => ∃ v s, vs = [v] ∧ Has K H v s ∧ (readB s = none → ∀ H', Same H H' → Q .non H') ∧
  ∀ a b, readB s = some (a, b) → ∀ p H', Same H H' → H' p = some (.tup [.str a, .str b]) → Q (.ref p) H'
theorem lineB_at {s : Sh} (h : lineB s = true) : ∃ a b, s = .dat (.tuple [.str a, .str b]) ∧ nameS a = true ∧ textS b = true := by
  unfold lineB at h
  split at h
  · rename_i x y
    rw [Bool.and_eq_true] at h
    obtain ⟨h1, h2⟩ := h
    cases x with
    | str a => cases y with
      | str b => exact ⟨a, b, rfl, h1, h2⟩
      | _ => cases h2
    | _ => cases h1
  · cases h
theorem name_len {a : Str} (h : nameS a = true) : a.length ≤ 8 := by
  unfold nameS at h
  simp only [Bool.and_eq_true, decide_eq_true_eq] at h
  exact h.2.1
theorem text_len {a : Str} (h : textS a = true) : a.length ≤ 40 := by
  unfold textS at h
  simp only [Bool.and_eq_true, decide_eq_true_eq] at h
  exact h.1
theorem cut_asc {z : Str} {lo hi : Option Int} (h : asc (.str z) = true) : asc (.str (cutS z lo hi)) = true := by
  simp only [asc] at h ⊢
  refine List.all_eq_true.mpr fun c hc => List.all_eq_true.mp h c ?_
  exact List.mem_of_mem_drop (List.mem_of_mem_take hc)
theorem cut_size (z : Str) (lo hi : Option Int) : (cutS z lo hi).length = min (HT.sIx z.length z.length hi - HT.sIx z.length 0 lo) (z.length - HT.sIx z.length 0 lo) := by
  have l0 : z.cps.toList.length = z.length := by simp [Str.length]
  unfold cutS
  show (List.toArray _).size = _
  rw [List.size_toArray, List.length_take, List.length_drop, l0]
theorem cut_tame {z : Str} {lo hi : Option Int} (t : Tame (.str z)) : Tame (.str (cutS z lo hi)) := by
  refine ⟨cut_asc t.a, rfl, (by show (0 : Nat) ≤ 32; omega), ?_⟩
  have w := t.w
  simp only [wt] at w ⊢
  have l := cut_len z lo hi
  omega
theorem pair_tame {z : Str} {i : Nat} (t : Tame (.str z)) (h : i < z.length) : Tame (.tuple [.str (cutS z none (some (i : Int))), .str (cutS z (some ((i + 1 : Nat) : Int)) none)]) := by
  refine ⟨?_, rfl, ?_, ?_⟩
  · simp only [asc, ascAll, Bool.and_true, Bool.and_eq_true]
    have a1 := cut_asc (lo := none) (hi := some (i : Int)) t.a
    have a2 := cut_asc (lo := some ((i + 1 : Nat) : Int)) (hi := none) t.a
    simp only [asc] at a1 a2
    exact ⟨a1, a2⟩
  · simp [PyData.depth, PyData.depthAll]
  · have w := t.w
    simp only [wt, wtAll] at w ⊢
    have l1 := cut_size z none (some (i : Int))
    have l2 := cut_size z (some ((i + 1 : Nat) : Int)) none
    rw [HT.sIx_none, HT.sIx_nat] at l1 l2
    omega
section
variable {P : Program} {w : World} {K : PySem.W.Frag} {mg : Str → Option Value} {base : Heap} {f fL : Addr} {fd dL : FuncData}
theorem ok_lineText (F : Fd K "line_text" sLineText f fd) (FL : Fd K "is_line" sLine fL dL) (GL : FnOk P w K mg base CX0 2 fL dL ["value"] (spJ K lineB)) (O : One P w K mg base "InvalidLine" "given")
    (gL : mg "is_line" = some (.ref fL)) : FnOk P w K mg base (L2N.CX P w) 3 f fd ["line"] (spLineText K) := by
  have bL : Binds K dL ["value"] [] := FL.bindsN fun _ _ _ _ _ _ us hl => match us, hl with | [_], _ => rfl
  refine F.ok scLineText (fun vs H Q E h => ?_) (fun cdv A outer s H vs Q E hr h => ?_)
  · obtain ⟨v, s, rfl, _⟩ := h
    rfl
  · have tk : L2N.Takes (cxOf (L2N.CX P w) P w K mg base ["line"] "line_text" (defScope sLineText) f cdv A outer s H E) (fun cls d _ H => E cls d H) := L2N.takes_of rfl rfl rfl rfl
    refine ⟨_, pss_cons (ps_if (pt_not (pt_val (pe_call GL hr (by rfl) gL FL.kp bL .nil pass0 (pa_cons (pv 0) pa_nil)))) (pss_one (L2N.ps_raise rfl tk (by exact (pmk_e1 O hr (pv 0) (by rfl))))) pss_nil)
      (pss_one (ps_ret (pe_op op_add_str (pe_op op_add_str (pe_ix ix_seq (pv 0) pe_int fun _ _ => rfl) pe_str) (pe_ix ix_seq (pv 0) pe_int fun _ _ => rfl)))), ?_⟩
    obtain ⟨v, s, rfl, hv, no, q⟩ := h
    refine ⟨_, rfl, v, s, rfl, hv, fun H1 k1 => ⟨_, rfl, iteB (fun e => ?_) fun e => ?_⟩⟩
    · have e1 : lineB s = false := by simpa using e
      exact ⟨v, rfl, fun d H2 k2 h2 => no e1 d H2 (k1.trans k2) h2⟩
    · have e1 : lineB s = true := by simpa using e
      obtain ⟨a, b, rfl, na, tb⟩ := lineB_at e1
      obtain ⟨r, t⟩ := hv.mono k1
      cases r with
      | tup h r =>
        rename_i p xs
        obtain ⟨x, y, rfl, r1, r2⟩ := rdds_two r
        cases r1
        cases r2
        have la := name_len na
        have lb := text_len tb
        refine ⟨_, rfl, .inr (.inl ⟨p, _, 0, _, rfl, rfl, SqT.of h, rfl, a, _, rfl, rfl, ?_, ?_⟩)⟩
        · rw [sizeLine_eq, sp_len]
          show a.length + 1 ≤ _
          omega
        · refine ⟨_, rfl, .inr (.inl ⟨p, _, 1, _, rfl, rfl, SqT.of h, rfl, _, b, rfl, rfl, ?_, q a b rfl e1 H1 k1⟩)⟩
          rw [sizeLine_eq, strLen_append, sp_len]
          show a.length + 1 + b.length ≤ _
          omega
theorem ok_lineIn (F : Fd K "line_in" sLineIn f fd) (FL : Fd K "is_line" sLine fL dL) (GL : FnOk P w K mg base CX0 2 fL dL ["value"] (spJ K lineB))
    (B : Blt mg) (gL : mg "is_line" = some (.ref fL)) : FnOk P w K mg base CX0 3 f fd ["value"] (spLineIn K) := by
  have bL : Binds K dL ["value"] [] := FL.bindsN fun _ _ _ _ _ _ us hl => match us, hl with | [_], _ => rfl
  refine F.ok scLineIn (fun vs H Q E h => ?_) (fun cdv A outer s H vs Q E hr h => ?_)
  · obtain ⟨v, s, rfl, _⟩ := h
    rfl
  · refine ⟨_, pss_cons (ps_if (pt_cmpR (op_notTyB.or op_notRT) (pe_callTy (call_type1.or (call_typeEv (ps := []) fun _ z => nomatch z)) (by rfl) B.typ (by decide +kernel) (pa_cons (pv 0) pa_nil)) (pe_bltn (by rfl) B.str (by decide +kernel) (v := .ty "str") rfl) (nomark _))
        (pss_one (ps_ret pe_non)) pss_nil)
      (pss_cons (ps_asg (pe_partition (pv 0) pe_str) (pg_tup rfl (pgs_cons (pg_name (i := 1) scLineIn.nd rfl (Or.inl rfl)) (pgs_cons (pg_name (i := 2) scLineIn.nd rfl (Or.inl rfl)) (pgs_cons (pg_name (i := 3) scLineIn.nd rfl (Or.inl rfl)) pgs_nil)))))
      (pss_one (ps_ret (pe_ifExp (pw_and (pt_cmpR op_eq (pv 2) pe_str (nomark _)) (pw_and1 (pt_val (pe_call GL hr (by rfl) gL FL.kp bL .nil pass0 (pa_cons (pe_tup (pa_cons (pv 1) (pa_cons (pv 3) pa_nil))) pa_nil))))).pt
        (pe_tup (pa_cons (pv 1) (pa_cons (pv 3) pa_nil))) pe_non)))), ?_⟩
    obtain ⟨v, s, rfl, hv, no, q⟩ := h
    rcases hv.view with ⟨z, rfl, rfl, hz⟩ | ⟨T, t, x, m, n, fn⟩ | ⟨a, d, rfl, ev, rfl⟩
    · obtain ⟨_, tz⟩ := hv
      refine ⟨_, rfl, .inl ⟨_, _, rfl, .str z, .inl ⟨"str", "str", rfl, rfl, false, congrArg (fun b => V.bl (!b)) (decide_eq_true rfl), iteF ?_⟩⟩⟩
      refine ⟨_, rfl, ⟨z, rfl⟩, z, _, rfl, rfl, rfl, two_ln (by omega), fun p hp => ⟨p, _, rfl, SqT.of upd_same, rfl, _, _, rfl, _, _, rfl, _, _, rfl, rfl, ?_⟩⟩
      have k1 := upd_grow (o := .tup [.str (Txt.partition z " ").1, .str (Txt.partition z " ").2.1, .str (Txt.partition z " ").2.2]) hp
      generalize upd H p (.tup [.str (Txt.partition z " ").1, .str (Txt.partition z " ").2.1, .str (Txt.partition z " ").2.2]) = H1 at k1 ⊢
      cases hs : (spaces z).head? with
      | none =>
        have e : readB (.dat (.str z)) = none := by
          show readS z = none
          unfold readS
          rw [hs]
        rw [part_none hs]
        exact ⟨_, rfl, rfl, false, congrArg V.bl (show decide (V.str Str.empty = V.str " ") = false by decide +kernel), iteF (iteF (no e H1 k1))⟩
      | some i =>
        rw [part_some hs]
        refine ⟨_, rfl, rfl, true, congrArg V.bl (decide_eq_true rfl), iteT ⟨_, rfl, _, rfl, two_ln (by show 2 ≤ 16777216; decide), fun p2 hp2 => ?_⟩⟩
        have k2 := upd_grow (o := .tup [.str (cutS z none (some (i : Int))), .str (cutS z (some ((i + 1 : Nat) : Int)) none)]) hp2
        have h2 := upd_same (H := H1) (a := p2) (o := .tup [.str (cutS z none (some (i : Int))), .str (cutS z (some ((i + 1 : Nat) : Int)) none)])
        generalize upd H1 p2 (.tup [.str (cutS z none (some (i : Int))), .str (cutS z (some ((i + 1 : Nat) : Int)) none)]) = H2 at k2 h2 ⊢
        have ht : Has K H2 (.ref p2) (.dat (.tuple [.str (cutS z none (some (i : Int))), .str (cutS z (some ((i + 1 : Nat) : Int)) none)])) := ⟨.tup h2 (.cons (.str _) (.cons (.str _) .nil)), pair_tame tz (space_lt hs)⟩
        have key : lineB (.dat (.tuple [.str (cutS z none (some (i : Int))), .str (cutS z (some ((i + 1 : Nat) : Int)) none)])) = (nameS (cutS z none (some (i : Int))) && textS (cutS z (some ((i + 1 : Nat) : Int)) none)) := rfl
        refine ⟨_, _, rfl, ht, fun H3 k3 => ⟨_, rfl, iteB (fun e => ?_) fun e => ?_⟩⟩
        · have e1 : (nameS (cutS z none (some (i : Int))) && textS (cutS z (some ((i + 1 : Nat) : Int)) none)) = true := by
            rw [← key]
            simpa using e
          have e : readB (.dat (.str z)) = some (cutS z none (some (i : Int)), cutS z (some ((i + 1 : Nat) : Int)) none) := by
            show readS z = _
            unfold readS
            rw [hs]
            show (if _ then _ else _) = _
            rw [e1, if_pos rfl]
          refine ⟨_, rfl, _, rfl, two_ln (by show 2 ≤ 16777216; decide), fun p4 hp4 => ?_⟩
          exact q _ _ e p4 _ (k1.trans (k2.trans (k3.trans (upd_grow hp4)))) upd_same
        · have e1 : (nameS (cutS z none (some (i : Int))) && textS (cutS z (some ((i + 1 : Nat) : Int)) none)) = false := by
            rw [← key]
            simpa using e
          have e : readB (.dat (.str z)) = none := by
            show readS z = none
            unfold readS
            rw [hs]
            show (if _ then _ else _) = none
            rw [e1, if_neg (by decide)]
          exact no e H3 (k1.trans (k2.trans k3))
    · have e : readB s = none := by
        cases s with
        | dat d => cases d with
          | str z => exact absurd rfl (fn z)
          | _ => rfl
        | _ => rfl
      exact ⟨_, rfl, .inl ⟨_, _, rfl, t, .inl ⟨T, "str", rfl, rfl, true, congrArg (fun b => V.bl (!b)) (decide_eq_false n), iteT (no e H (Same.refl H))⟩⟩⟩
    · exact ⟨_, rfl, .inr ⟨a, _, d, _, rfl, ev, .inr ⟨_, "str", rfl, rfl, true, rfl, iteT (no rfl H (Same.refl H))⟩⟩⟩
theorem ok_readLine (F : Fd K "read_line" sReadLine f fd) (FI : Fd K "line_in" sLineIn fL dL) (GI : FnOk P w K mg base CX0 3 fL dL ["value"] (spLineIn K)) (O : One P w K mg base "InvalidText" "given")
    (gI : mg "line_in" = some (.ref fL)) : FnOk P w K mg base (L2N.CX P w) 4 f fd ["text"] (spReadLine K) := by
  have bI : Binds K dL ["value"] [] := FI.bindsN fun _ _ _ _ _ _ us hl => match us, hl with | [_], _ => rfl
  refine F.ok scReadLine (fun vs H Q E h => ?_) (fun cdv A outer s H vs Q E hr h => ?_)
  · obtain ⟨v, s, rfl, _⟩ := h
    rfl
  · have tk : L2N.Takes (cxOf (L2N.CX P w) P w K mg base ["text", "line"] "read_line" (defScope sReadLine) f cdv A outer s H E) (fun cls d _ H => E cls d H) := L2N.takes_of rfl rfl rfl rfl
    refine ⟨_, pss_cons (ps_set (i := 1) scReadLine.nd rfl (Or.inl rfl) (pe_call GI hr (by rfl) gI FI.kp bI .nil pass0 (pa_cons (pv 0) pa_nil)))
      (pss_cons (ps_if (pt_cmpR op_isN (pv 1) pe_non (nomark _)) (pss_one (L2N.ps_raise rfl tk (by exact (pmk_e1 O (hr.mono (by decide)) (pv 0) (by rfl))))) pss_nil)
      (pss_one (ps_ret (pv 1)))), ?_⟩
    obtain ⟨v, s, rfl, hv, no, q⟩ := h
    refine ⟨_, rfl, v, s, rfl, hv, fun e H1 k1 => ?_, fun a b e p H1 k1 h1 => ?_⟩
    · exact ⟨_, rfl, rfl, true, rfl, iteT ⟨_, rfl, fun d H2 k2 h2 => no e d H2 (k1.trans k2) h2⟩⟩
    · exact ⟨_, rfl, rfl, false, rfl, iteF ⟨_, rfl, q a b e p H1 k1 h1⟩⟩
end
end K01

namespace K01
open PySem PySem.Spec PyProof.Rows L2
abbrev sNameDue : Stmt := top 28
abbrev sTextDue : Stmt := top 29
abbrev sLineDue : Stmt := top 30
abbrev sRoundDue : Stmt := top 31
theorem scNameDue : FnScope ["value", "sign"] ["value"] (defScope sNameDue) := ⟨rfl, rfl, rfl, by decide +kernel, rfl, by decide +kernel, by decide +kernel⟩
theorem scTextDue : FnScope ["value", "sign"] ["value"] (defScope sTextDue) := ⟨rfl, rfl, rfl, by decide +kernel, rfl, by decide +kernel, by decide +kernel⟩
theorem scLineDue : FnScope ["value"] ["value"] (defScope sLineDue) := ⟨rfl, rfl, rfl, by decide +kernel, rfl, by decide +kernel, by decide +kernel⟩
theorem scRoundDue : FnScope ["value", "word", "sign"] ["value"] (defScope sRoundDue) := ⟨rfl, rfl, rfl, by decide +kernel, rfl, by decide +kernel, by decide +kernel⟩
structure Blt2 (mg : Str → Option Value) : Prop where
  isi : mg "isinstance" = none
  str : mg "str" = none
  tup : mg "tuple" = none
  lst : mg "list" = none
  len : mg "len" = none
  ord : mg "ord" = none
  rng : mg "range" = none
  rep : mg "repr" = none
def kinds : List String := ["str", "tuple", "list"]
structure Kit (K : PySem.W.Frag) : Prop where
  tt : ∀ T ∈ tys, ∀ U ∈ kinds, PySem.W.kitOne K (.type T) (.type U) = some (decide (T = U))
  te : ∀ U ∈ kinds, PySem.W.kitOne K (.ref (He.ga K "InvalidText")) (.type U) = some false
  E : ExcC K (He.ga K "InvalidText")
theorem strs_can : ∀ cs : List Nat, (∀ c ∈ cs, c < 128) → (PyData.canLay0 (.list (cs.map fun c => .str ⟨#[c]⟩))) = true := fun cs h => by
  simp only [PyData.canLay0]
  induction cs with
  | nil => rfl
  | cons c cs ih =>
    have y := h c List.mem_cons_self
    have z : PyData.strOk ⟨#[c]⟩ = true := by
      simp [PyData.strOk]
      omega
    simpa [PyData.canLayAll0, PyData.canLay0, z] using ih fun c hc => h c (List.mem_cons_of_mem _ hc)
theorem strs_shaped (cs : List Nat) (h : ∀ c ∈ cs, c < 128) : SeqAt.shaped (.list (cs.map fun c => .str ⟨#[c]⟩)) = true := by
  unfold SeqAt.shaped
  rw [strs_can cs h, Bool.true_and]
  apply decide_eq_true
  simp only [PyData.depth]
  have e : PyData.depthAll (cs.map fun c => .str ⟨#[c]⟩) = 0 := by
    clear h
    induction cs with
    | nil => rfl
    | cons c cs ih => simpa [PyData.depthAll, PyData.depth] using ih
  omega
theorem strs_dp {K : PySem.W.Frag} {H : Hp} : ∀ cs : List Nat, DpAll K H (cs.map fun c => V.str ⟨#[c]⟩) (cs.map fun c => PyData.str ⟨#[c]⟩)
  | [] => .nil
  | c :: cs => .cons (.str _) (strs_dp cs)
/-- [bad signs] == [] -/
theorem bad_eq {K : PySem.W.Frag} {H : Hp} {D r : Addr} {cs : List Nat} {Q : VK} (hD : H D = some (.lst (cs.map fun c => V.str ⟨#[c]⟩))) (hr : H r = none) (h : ∀ c ∈ cs, c < 128) (q : Q (.bl cs.isEmpty) (upd H r (.lst []))) :
    rEqD K (.ref D) (.ref r) (upd H r (.lst [])) Q := by
  refine ⟨.list (cs.map fun c => .str ⟨#[c]⟩), .list [], .lst (SqL.of (upd_grow hr _ _ hD)) (strs_dp cs), .lst (SqL.of upd_same) .nil, strs_shaped cs h, rfl, ?_⟩
  have e : PyData.eqv (.list (cs.map fun c => .str ⟨#[c]⟩)) (.list []) = cs.isEmpty := by
    cases cs with
    | nil => simp [PyData.eqv, PyData.eqvAll]
    | cons c cs => simp [PyData.eqv, PyData.eqvAll]
  rw [e]
  exact q
/-- [sign for sign in z if bad] -/
theorem lc_bad {z : Str} {σ : L2.St} {H : Hp} {i : Nat} {tt : TT} {te : TE} {f : Nat → Bool} {D : Addr} {Qd : Hp → Prop} (hD : H D = none) (hz : z.length ≤ 100000)
    (ht : ∀ (c : Nat) H' (Q' : Bool → Hp → Prop), c ∈ z.cps.toList → Q' (f c) H' → tt ((wipe σ [i]).set i (some (.str ⟨#[c]⟩))) H' Q')
    (he : ∀ (c : Nat) H' (Q' : VK), Q' (.str ⟨#[c]⟩) H' → te ((wipe σ [i]).set i (some (.str ⟨#[c]⟩))) H' Q') (hs : ∀ u, wipe ((wipe σ [i]).set i u) [i] = wipe σ [i])
    (q : ∀ H', Same H H' → H' D = some (.lst ((z.cps.toList.filter f).map fun c => V.str ⟨#[c]⟩)) → Qd H') :
    ∃ W : Nat → Nat → Hp → Prop, (∃ m, W 0 m (upd H D (.lst []))) ∧ ∀ j m H, W j m H →
      ((Its z).stop j H ∧ Qd H) ∨ ((Its z).go j H ∧ ∃ Nx : Hp → Prop, (∀ H', Nx H' → ∃ m', m' < m ∧ W (j + 1) m' H') ∧ ∀ x H', (Its z).yld j H x H' → gName i x (wipe σ [i]) H' fun σ2 H2 => wipe σ2 [i] = wipe σ [i] ∧ tt σ2 H2 fun b H3 =>
        if b = true then te σ2 H3 fun y H4 => ∃ acc, H4 D = some (.lst acc) ∧ acc.length < sizeLine ∧ Nx (upd H4 D (.lst (acc ++ [y]))) else Nx H3) := by
  refine lc_it walk_str (fun j H' => Same H H' ∧ H' D = some (.lst (((z.cps.toList.take j).filter f).map fun c => V.str ⟨#[c]⟩))) ⟨upd_grow hD, upd_same⟩ (fun _ _ _ _ => True.intro) ?_ ?_
  · rintro j x H1 H2 hj ⟨k1, h1⟩ ⟨rfl, c, hc, rfl⟩
    have hj2 : j < z.cps.toList.length := by simpa using hj
    have hm : z.cps.toList[j] = c := by
      obtain ⟨_, e⟩ := Array.getElem?_eq_some_iff.mp hc
      simpa using e
    have mem : c ∈ z.cps.toList := by
      rw [← hm]
      exact List.getElem_mem hj2
    have step : (z.cps.toList.take (j + 1)).filter f = (z.cps.toList.take j).filter f ++ (if f c = true then [c] else []) := by
      rw [List.take_succ_eq_append_getElem hj2, List.filter_append, hm]
      congr 1
      by_cases e : f c = true
      · rw [if_pos e, List.filter_cons_of_pos e] <;> rfl
      · rw [if_neg e, List.filter_cons_of_neg e] <;> rfl
    refine ⟨hs _, ht c H2 _ mem (iteB (fun e => he c H2 _ ⟨_, h1, ?_, ?_, ?_⟩) fun e => ⟨k1, ?_⟩)⟩
    · rw [sizeLine_eq, List.length_map]
      have l1 := List.length_filter_le f (z.cps.toList.take j)
      rw [List.length_take] at l1
      have l : z.cps.toList.length = z.length := by simp [Str.length]
      omega
    · intro b o e
      rw [upd_ne (ne_of_none e hD)]
      exact k1 b o e
    · rw [upd_same, step, if_pos e, List.map_append]
      rfl
    · rw [h1, step, if_neg (by rw [e]; decide), List.append_nil]
  · rintro H1 ⟨k1, h1⟩
    refine q H1 k1 ?_
    rw [h1]
    have l : z.cps.toList.length = z.cps.size := by simp
    rw [← l, List.take_length]
theorem bad_signs {lo hi : Nat} {z : Str} : (z.cps.toList.filter fun c => !(decide (lo ≤ c) && decide (c ≤ hi))).isEmpty = signs lo hi z := by
  unfold signs
  generalize z.cps.toList = l
  induction l with
  | nil => rfl
  | cons c l ih =>
    rw [List.filter_cons, List.all_cons]
    cases h : (decide (lo ≤ c) && decide (c ≤ hi)) with
    | true =>
      rw [if_neg (by decide), Bool.true_and]
      exact ih
    | false =>
      rw [if_pos (by decide), Bool.false_and] <;> rfl
theorem ord1 (c : Nat) : (⟨#[c]⟩ : Str).cps.getD 0 0 = c := rfl
end K01

namespace K01
open PySem PySem.Spec PyProof.Rows L2
theorem Kit.yes {K : PySem.W.Frag} (k : Kit K) {T : String} (h1 : T ∈ tys) (h2 : T ∈ kinds) : PySem.W.kitOne K (.type T) (.type T) = some true := by
  have z := k.tt T h1 T h2
  rwa [decide_eq_true rfl] at z
theorem Kit.no {K : PySem.W.Frag} (k : Kit K) {T U : String} (h1 : T ∈ tys) (h2 : U ∈ kinds) (n : T ≠ U) : PySem.W.kitOne K (.type T) (.type U) = some false := by
  have z := k.tt T h1 U h2
  rwa [decide_eq_false n] at z
/-- a ≤ n ≤ b, n of a natural number -/
theorem chain_ii {ta tb tc : TE} {σ : L2.St} {H : Hp} {Q : VK} (a b c : Nat) (h1 : ∀ Q' : VK, Q' (.int (a : Int)) H → ta σ H Q') (h2 : ∀ Q' : VK, Q' (.int (c : Int)) H → tb σ H Q')
    (h3 : ∀ Q' : VK, Q' (.int (b : Int)) H → tc σ H Q') (q : Q (.bl (decide (a ≤ c) && decide (c ≤ b))) H) :
    tChain (rI0 fun i j => V.bl (decide (i ≤ j))) (rI0 fun i j => V.bl (decide (i ≤ j))) ta tb tc σ H Q := by
  refine h1 _ (h2 _ ⟨_, _, rfl, rfl, _, rfl, iteB (fun e => h3 _ ⟨_, _, rfl, rfl, ?_⟩) fun e => ?_⟩)
  · have e1 : a ≤ c := by
      have := of_decide_eq_true e
      omega
    have e2 : decide ((c : Int) ≤ (b : Int)) = (decide (a ≤ c) && decide (c ≤ b)) := by
      rw [decide_eq_true e1, Bool.true_and]
      apply decide_eq_decide.mpr
      omega
    show Q (.bl (decide ((c : Int) ≤ (b : Int)))) H
    rw [e2]
    exact q
  · have e1 : ¬ a ≤ c := by
      have := of_decide_eq_false e
      omega
    rw [decide_eq_false e1, Bool.false_and] at q
    exact q
theorem not_t {b : Bool} (h : (!b) = true) : b = false := by
  cases b with
  | false => rfl
  | true => cases h
theorem not_f {b : Bool} (h : (!b) = false) : b = true := by
  cases b with
  | true => rfl
  | false => cases h
theorem tame_cps {z : Str} (t : Tame (.str z)) {g : Nat → Bool} : ∀ c ∈ z.cps.toList.filter g, c < 128 := fun c hc => by
  have a := t.a
  simp only [asc] at a
  exact of_decide_eq_true (List.all_eq_true.mp a c (List.mem_filter.mp hc).1)
theorem lineB_no {s : Sh} (h : ¬ tupLen s = some 2) : lineB s = false := by
  cases s with
  | dat d =>
    cases d with
    | tuple ds =>
      match ds, h with
      | [], _ => rfl
      | [_], _ => rfl
      | [_, _], e => exact absurd rfl e
      | _ :: _ :: _ :: _, _ => rfl
    | _ => rfl
  | _ => rfl
section
variable {P : Program} {w : World} {K : PySem.W.Frag} {mg : Str → Option Value} {base : Heap} {f fN fX : Addr} {fd dN dX : FuncData} {p : Pin}
theorem ok_nameDue (F : Fd K "_law_name_due" sNameDue f fd) (B : Blt2 mg) (T : Kit K) : FnP P w K mg base 1 f fd ["value"] p (spJ K (strB nameS)) := by
  refine F.okP scNameDue (fun vs H Q E h => ?_) (fun cdv A outer s H vs Q wc hr h => ?_)
  · obtain ⟨v, s, rfl, _⟩ := h
    rfl
  · have hps : ∀ q ∈ [p], q ∈ (cxP P w K mg base ["value", "sign"] "_law_name_due" (defScope sNameDue) f cdv A outer s H p).pn := fun q hq => hq
    have hu : (cxP P w K mg base ["value", "sign"] "_law_name_due" (defScope sNameDue) f cdv A outer s H p).A.units + 64 < cLine := by
      have z := hr.un
      show (A.deeper _).units + 64 < cLine
      omega
    refine ⟨_, pss_cons (ps_if (pw_or (pt_not (pt_val (pe_callB (call_isi.or (call_isEv hps)) (by rfl) B.isi boot_isinstance (pa_cons (pv 0) (pa_cons (pe_bltn (by rfl) B.str (by decide +kernel) (v := .ty "str") rfl) pa_nil)))))
        (pw_or1 (pt_not (pt_chain op_le op_le pe_int (pe_callB call_len (by rfl) B.len boot_len (pa_cons (pv 0) pa_nil)) pe_int)))).pt (pss_one (ps_ret pe_bl)) pss_nil)
      (pss_one (ps_ret (pe_cmpR (op_eqD hu) (pe_lcW (own := [("sign", 1)]) (g := gName 1) wc scNameDue.nd (pi_strW (pv 0))
        (blkOk_by (N := ["value", "sign"]) (sc := defScope sNameDue) (by decide +kernel)) (fun _ _ _ _ _ => pg_name (i := 1) scNameDue.nd rfl (Or.inl rfl))
        (fun _ _ _ _ _ => pts_one (pt_not (pt_chain op_le op_le pe_int (pe_callB call_ord (by rfl) B.ord (by decide +kernel) (pa_cons (pv 1) pa_nil)) pe_int))) (fun _ _ _ _ _ => pv 1))
        (pe_lst pa_nil) (nomark _)))), ?_⟩
    obtain ⟨v, s, rfl, hv, q⟩ := h
    rcases hv.view with ⟨z, rfl, rfl, hz⟩ | ⟨U, t, x, m, n, fn⟩ | ⟨a, d, rfl, ev, rfl⟩
    · obtain ⟨_, tz⟩ := hv
      have q : ∀ H', Same H H' → ∀ b, b = nameS z → Q (.bl b) H' := fun H' k b e => e ▸ q H' k
      refine ⟨_, rfl, .inl ⟨_, _, _, _, true, rfl, .ty _, .base (.str z), T.yes (by decide) (by decide), true, rfl, iteF ?_⟩⟩
      refine chain_ii 1 8 z.length (fun _ q => q) (fun _ q => ⟨_, rfl, _, _, rfl, ⟨two_ln (by omega), rfl⟩, q⟩) (fun _ q => q) ⟨_, rfl, iteB (fun e => ?_) fun e => ?_⟩
      · have e2 : (decide (1 ≤ z.length) && decide (z.length ≤ 8)) = false := not_t e
        refine q H (Same.refl H) _ ?_
        unfold nameS
        rw [← Bool.and_assoc, e2] <;> rfl
      · have e2 : (decide (1 ≤ z.length) && decide (z.length ≤ 8)) = true := not_f e
        refine ⟨_, rfl, _, rfl, fun D hD => lc_bad (i := 1) (σ := [some (.str z), none]) (f := fun c => !(decide (97 ≤ c) && decide (c ≤ 122))) hD hz ?_ ?_ ?_ ?_⟩
        · intro c H1 Q1 _ q1
          exact chain_ii 97 122 c (fun _ q => q) (fun _ q => ⟨_, rfl, _, rfl, rfl, q⟩) (fun _ q => q) ⟨_, rfl, q1⟩
        · exact fun c H1 Q1 q1 => ⟨_, rfl, q1⟩
        · exact fun u => rfl
        · intro H1 k1 h1
          refine ⟨two_ln (by show 0 ≤ 16777216; decide), fun r hr => bad_eq h1 hr (tame_cps tz) (q _ (k1.trans (upd_grow hr)) _ ?_)⟩
          rw [bad_signs]
          unfold nameS
          rw [← Bool.and_assoc, e2, Bool.true_and]
    · refine ⟨_, rfl, .inl ⟨_, _, _, _, false, rfl, .ty _, x, T.no m (by decide) n, false, rfl, iteT ?_⟩⟩
      have z := strB_no (f := nameS) fn
      exact iteT (z ▸ q H (Same.refl H))
    · have ev : EvP [p] H a (He.ga K "InvalidText") d [("given", .str "x")] := ev.mono (fun _ z => nomatch z) fun _ _ z => z
      exact ⟨_, rfl, .inr ⟨a, _, d, _, _, _, false, rfl, ev, T.E, .ty _, T.te "str" (by decide), false, rfl, iteT (iteT (q H (Same.refl H)))⟩⟩
theorem ok_textDue (F : Fd K "_law_text_due" sTextDue f fd) (B : Blt2 mg) (T : Kit K) : FnP P w K mg base 1 f fd ["value"] p (spJ K (strB textS)) := by
  refine F.okP scTextDue (fun vs H Q E h => ?_) (fun cdv A outer s H vs Q wc hr h => ?_)
  · obtain ⟨v, s, rfl, _⟩ := h
    rfl
  · have hps : ∀ q ∈ [p], q ∈ (cxP P w K mg base ["value", "sign"] "_law_text_due" (defScope sTextDue) f cdv A outer s H p).pn := fun q hq => hq
    have hu : (cxP P w K mg base ["value", "sign"] "_law_text_due" (defScope sTextDue) f cdv A outer s H p).A.units + 64 < cLine := by
      have z := hr.un
      show (A.deeper _).units + 64 < cLine
      omega
    refine ⟨_, pss_cons (ps_if (pw_or (pt_not (pt_val (pe_callB (call_isi.or (call_isEv hps)) (by rfl) B.isi boot_isinstance (pa_cons (pv 0) (pa_cons (pe_bltn (by rfl) B.str (by decide +kernel) (v := .ty "str") rfl) pa_nil)))))
        (pw_or1 (pt_cmpR op_gt (pe_callB call_len (by rfl) B.len boot_len (pa_cons (pv 0) pa_nil)) pe_int (nomark _)))).pt (pss_one (ps_ret pe_bl)) pss_nil)
      (pss_one (ps_ret (pe_cmpR (op_eqD hu) (pe_lcW (own := [("sign", 1)]) (g := gName 1) wc scTextDue.nd (pi_strW (pv 0))
        (blkOk_by (N := ["value", "sign"]) (sc := defScope sTextDue) (by decide +kernel)) (fun _ _ _ _ _ => pg_name (i := 1) scTextDue.nd rfl (Or.inl rfl))
        (fun _ _ _ _ _ => pts_one (pt_not (pt_chain op_le op_le pe_int (pe_callB call_ord (by rfl) B.ord (by decide +kernel) (pa_cons (pv 1) pa_nil)) pe_int))) (fun _ _ _ _ _ => pv 1))
        (pe_lst pa_nil) (nomark _)))), ?_⟩
    obtain ⟨v, s, rfl, hv, q⟩ := h
    rcases hv.view with ⟨z, rfl, rfl, hz⟩ | ⟨U, t, x, m, n, fn⟩ | ⟨a, d, rfl, ev, rfl⟩
    · obtain ⟨_, tz⟩ := hv
      have q : ∀ H', Same H H' → ∀ b, b = textS z → Q (.bl b) H' := fun H' k b e => e ▸ q H' k
      refine ⟨_, rfl, .inl ⟨_, _, _, _, true, rfl, .ty _, .base (.str z), T.yes (by decide) (by decide), true, rfl, iteF ?_⟩⟩
      refine ⟨_, rfl, _, _, rfl, ⟨two_ln (by omega), rfl⟩, _, _, rfl, rfl, _, rfl, iteB (fun e => ?_) fun e => ?_⟩
      · have l1 : ¬ z.length ≤ 40 := by
          have := of_decide_eq_true e
          omega
        refine q H (Same.refl H) _ ?_
        unfold textS
        rw [decide_eq_false l1] <;> rfl
      · have l1 : z.length ≤ 40 := by
          have := of_decide_eq_false e
          omega
        refine ⟨_, rfl, _, rfl, fun D hD => lc_bad (i := 1) (σ := [some (.str z), none]) (f := fun c => !(decide (32 ≤ c) && decide (c ≤ 126))) hD hz ?_ ?_ ?_ ?_⟩
        · intro c H1 Q1 _ q1
          exact chain_ii 32 126 c (fun _ q => q) (fun _ q => ⟨_, rfl, _, rfl, rfl, q⟩) (fun _ q => q) ⟨_, rfl, q1⟩
        · exact fun c H1 Q1 q1 => ⟨_, rfl, q1⟩
        · exact fun u => rfl
        · intro H1 k1 h1
          refine ⟨two_ln (by show 0 ≤ 16777216; decide), fun r hr => bad_eq h1 hr (tame_cps tz) (q _ (k1.trans (upd_grow hr)) _ ?_)⟩
          rw [bad_signs]
          unfold textS
          rw [decide_eq_true l1, Bool.true_and]
    · refine ⟨_, rfl, .inl ⟨_, _, _, _, false, rfl, .ty _, x, T.no m (by decide) n, false, rfl, iteT ?_⟩⟩
      have z := strB_no (f := textS) fn
      exact iteT (z ▸ q H (Same.refl H))
    · have ev : EvP [p] H a (He.ga K "InvalidText") d [("given", .str "x")] := ev.mono (fun _ z => nomatch z) fun _ _ z => z
      exact ⟨_, rfl, .inr ⟨a, _, d, _, _, _, false, rfl, ev, T.E, .ty _, T.te "str" (by decide), false, rfl, iteT (iteT (q H (Same.refl H)))⟩⟩
theorem ok_lineDue (F : Fd K "_law_line_due" sLineDue f fd) (FN : Fd K "_law_name_due" sNameDue fN dN) (FX : Fd K "_law_text_due" sTextDue fX dX) (B : Blt2 mg) (T : Kit K)
    (gN : mg "_law_name_due" = some (.ref fN)) (gX : mg "_law_text_due" = some (.ref fX)) : FnP P w K mg base 2 f fd ["value"] p (spJ K lineB) := by
  have GN : FnP P w K mg base 1 fN dN ["value"] p (spJ K (strB nameS)) := ok_nameDue FN B T
  have GX : FnP P w K mg base 1 fX dX ["value"] p (spJ K (strB textS)) := ok_textDue FX B T
  have bN : Binds K dN ["value"] [] := FN.bindsN fun _ _ _ _ _ _ us hl => match us, hl with | [_], _ => rfl
  have bX : Binds K dX ["value"] [] := FX.bindsN fun _ _ _ _ _ _ us hl => match us, hl with | [_], _ => rfl
  refine F.okP scLineDue (fun vs H Q E h => ?_) (fun cdv A outer s H vs Q wc hr h => ?_)
  · obtain ⟨v, s, rfl, _⟩ := h
    rfl
  · have hps : ∀ q ∈ [p], q ∈ (cxP P w K mg base ["value"] "_law_line_due" (defScope sLineDue) f cdv A outer s H p).pn := fun q hq => hq
    refine ⟨_, pss_one (ps_ret (pe_and (pe_callB (call_isi.or (call_isEv hps)) (by rfl) B.isi boot_isinstance (pa_cons (pv 0) (pa_cons (pe_bltn (by rfl) B.tup (by decide +kernel) (v := .ty "tuple") rfl) pa_nil)))
      (pe_and (pe_cmpR op_eq (pe_callB call_len (by rfl) B.len boot_len (pa_cons (pv 0) pa_nil)) pe_int (nomark _))
      (pe_and (pe_callP GN wc hr (by rfl) gN FN.kp bN (pa_cons (pe_ix ix_seq (pv 0) pe_int fun _ _ => rfl) pa_nil))
      (pe_one (pe_callP GX wc hr (by rfl) gX FX.kp bX (pa_cons (pe_ix ix_seq (pv 0) pe_int fun _ _ => rfl) pa_nil))))))), ?_⟩
    obtain ⟨v, s, rfl, hv, q⟩ := h
    rcases hv.viewT with ⟨pp, xs, rfl, h, e⟩ | ⟨U, t, x, m, n, e⟩ | ⟨a, d, rfl, ev, rfl⟩
    · refine ⟨_, rfl, .inl ⟨_, _, _, _, true, rfl, .ty _, .base (.tup h), T.yes (by decide) (by decide), true, rfl, iteT ?_⟩⟩
      refine ⟨_, rfl, _, _, rfl, .inr ⟨_, SqT.of h, rfl⟩, rfl, _, rfl, iteB (fun e2 => ?_) fun e2 => ?_⟩
      · have l : xs.length = 2 := by
          have z := of_decide_eq_true e2
          injection z with z
          omega
        rw [l] at e
        cases s with
        | dat d =>
          obtain ⟨r, t⟩ := hv
          cases r with
          | tup h2 r =>
            rename_i ys ds
            obtain rfl : ys = xs := by
              have z := h2.symm.trans h
              cases z
              rfl
            have ld : ds.length = 2 := Option.some.inj e
            obtain ⟨dx, dy, rfl⟩ : ∃ dx dy, ds = [dx, dy] := match ds, ld with
              | [a, b], _ => ⟨a, b, rfl⟩
            obtain ⟨x, y, rfl, r1, r2⟩ := rdds_two r
            obtain ⟨t1, t2⟩ := tame_two t
            refine ⟨_, rfl, .inr (.inl ⟨pp, _, 0, x, rfl, rfl, SqT.of h, rfl, ?_⟩)⟩
            refine ⟨x, .dat dx, rfl, ⟨r1, t1⟩, fun H2 k2 => ⟨_, rfl, iteB (fun b => ?_) fun b => ?_⟩⟩
            · refine ⟨_, rfl, .inr (.inl ⟨pp, _, 1, y, rfl, rfl, SqT.of (k2 _ _ h), rfl, ?_⟩)⟩
              refine ⟨y, .dat dy, rfl, ⟨r2.mono k2, t2⟩, fun H3 k3 => ?_⟩
              have z := q H3 (k2.trans k3)
              have y : lineB (.dat (.tuple [dx, dy])) = strB textS (.dat dy) := by
                show (strB nameS (.dat dx) && strB textS (.dat dy)) = _
                rw [b, Bool.true_and]
              rw [y] at z
              exact z
            · have z := q H2 k2
              have y : lineB (.dat (.tuple [dx, dy])) = false := by
                show (strB nameS (.dat dx) && strB textS (.dat dy)) = _
                rw [b, Bool.false_and]
              rw [y] at z
              exact z
          | _ => cases e
        | exc => cases e
        | mix a =>
          obtain ⟨p2, x, e3, h2, ex, t⟩ := hv
          cases e3
          obtain rfl : [V.str a, x] = xs := by
            have z := h2.symm.trans h
            cases z
            rfl
          refine ⟨_, rfl, .inr (.inl ⟨pp, _, 0, .str a, rfl, rfl, SqT.of h, rfl, ?_⟩)⟩
          refine ⟨_, .dat (.str a), rfl, ⟨.str a, t⟩, fun H2 k2 => ⟨_, rfl, iteB (fun b => ?_) fun b => q H2 k2⟩⟩
          refine ⟨_, rfl, .inr (.inl ⟨pp, _, 1, x, rfl, rfl, SqT.of (k2 _ _ h), rfl, ?_⟩)⟩
          exact ⟨x, .exc, rfl, ex.mono k2, fun H3 k3 => q H3 (k2.trans k3)⟩
      · have l : ¬ tupLen s = some 2 := fun y => by
          rw [e] at y
          have l2 : xs.length = 2 := Option.some.inj y
          have e3 : decide (V.int (xs.length : Int) = V.int 2) = true := by
            apply decide_eq_true
            rw [l2] <;> rfl
          rw [e3] at e2
          cases e2
        have z := q H (Same.refl H)
        rw [lineB_no l] at z
        exact z
    · refine ⟨_, rfl, .inl ⟨_, _, _, _, false, rfl, .ty _, x, T.no m (by decide) n, false, rfl, iteF ?_⟩⟩
      have z := q H (Same.refl H)
      rw [lineB_no (by rw [e]; exact fun y => nomatch y)] at z
      exact z
    · have ev : EvP [p] H a (He.ga K "InvalidText") d [("given", .str "x")] := ev.mono (fun _ z => nomatch z) fun _ _ z => z
      exact ⟨_, rfl, .inr ⟨a, _, d, _, _, _, false, rfl, ev, T.E, .ty _, T.te "tuple" (by decide), false, rfl, iteF (q H (Same.refl H))⟩⟩
end
end K01

namespace K01
open PySem PySem.Spec PyProof.Rows L2
theorem str_eq {a b : Str} (h : a.cps.toList = b.cps.toList) : a = b := by
  cases a
  cases b
  simp at h
  rw [h]
theorem round_head (z : Str) : decide (V.str (cutS z none (some 6)) = V.str "round ") = hasRound z := by
  have e : (cutS z none (some (6 : Int))).cps.toList = z.cps.toList.take 6 := by
    have l0 : z.cps.toList.length = z.length := by simp [Str.length]
    have e6 : HT.sIx z.length z.length (some (6 : Int)) = min 6 z.length := HT.sIx_nat z.length z.length 6
    unfold cutS
    rw [e6, HT.sIx_none, Nat.sub_zero, List.drop_zero]
    show List.take _ _ = _
    rw [← l0, ← List.take_take, List.take_length]
  unfold hasRound
  rw [Bool.eq_iff_iff, decide_eq_true_iff, beq_iff_eq, ← e]
  constructor
  · intro h
    injection h with h
    rw [h]
  · intro h
    rw [str_eq h]
theorem round_size {z : Str} (h : hasRound z = true) : 6 ≤ z.length ∧ (cutS z (some 6) none).length = z.length - 6 := by
  have l0 : z.cps.toList.length = z.length := by simp [Str.length]
  have l : 6 ≤ z.length := by
    unfold hasRound at h
    have e := congrArg List.length (eq_of_beq h)
    rw [List.length_take] at e
    have e6 : ("round " : Str).cps.toList.length = 6 := rfl
    omega
  refine ⟨l, ?_⟩
  rw [cut_size, HT.sIx_none]
  have e6 : HT.sIx z.length 0 (some (6 : Int)) = min 6 z.length := HT.sIx_nat z.length 0 6
  rw [e6]
  omega
theorem roundS_due {z : Str} (h : hasRound z = true) : roundS z = ((decide (7 ≤ z.length) && decide (z.length ≤ 15)) && (signs 48 57 (cutS z (some 6) none) && numW (cutS z (some 6) none))) := by
  obtain ⟨l, e⟩ := round_size h
  unfold roundS numS
  rw [h, e, Bool.true_and, Bool.and_assoc]
  congr 1
  · apply decide_eq_decide.mpr
    omega
  · congr 1
    apply decide_eq_decide.mpr
    omega
/-- w == "0" or w[0] != "0" -/
theorem numW_is {z : Str} {σ : L2.St} {H : Hp} {Q : VK} {K : PySem.W.Frag} {i : Nat} (hσ : σ[i]? = some (some (.str z))) (hz : z.length ≤ 100000) (l1 : 1 ≤ z.length) (q : Q (.bl (numW z)) H) :
    tOp rEq (tVar i) (tC (.str "0")) σ H fun v H1 => ∃ c, v = .bl c ∧ if c = true then Q (.bl true) H1 else tOp rNe (tOp (rIx K) (tVar i) (tC (.int 0))) (tC (.str "0")) σ H1 Q := by
  have l0 : z.cps.toList.length = z.length := by simp [Str.length]
  obtain ⟨c, r, hc⟩ : ∃ c r, z.cps.toList = c :: r := by
    cases h : z.cps.toList with
    | nil =>
      rw [h] at l0
      simp at l0
      omega
    | cons c r => exact ⟨c, r, rfl⟩
  refine ⟨_, hσ, rfl, _, rfl, iteB (fun e5 => ?_) fun e5 => ?_⟩
  · have y : numW z = true := by
      unfold numW
      rw [e5] <;> rfl
    rw [y] at q
    exact q
  · refine ⟨_, hσ, .inr (.inr ⟨z, 0, c, rfl, rfl, two_ln (by omega), by rw [hc]; exact (atI_nat (j := 0) rfl : atI (c :: r) ((0 : Nat) : Int) = some c), rfl, ?_⟩)⟩
    have y : numW z = !decide (V.str ⟨#[c]⟩ = V.str "0") := by
      unfold numW
      rw [e5, hc, Bool.false_or]
      congr 1
      apply decide_eq_decide.mpr
      constructor
      · intro h
        have h : c = 48 := by simpa using h
        rw [h]
        rfl
      · intro h
        injection h with h
        have h2 : (#[c] : Array Nat) = #[48] := congrArg Str.cps h
        simp at h2
        simp [h2]
    rw [y] at q
    exact q
section
variable {P : Program} {w : World} {K : PySem.W.Frag} {mg : Str → Option Value} {base : Heap} {f fN fX : Addr} {fd dN dX : FuncData} {p : Pin}
theorem ok_roundDue (F : Fd K "_law_round_due" sRoundDue f fd) (B : Blt2 mg) (T : Kit K) : FnP P w K mg base 1 f fd ["value"] p (spJ K (strB roundS)) := by
  refine F.okP scRoundDue (fun vs H Q E h => ?_) (fun cdv A outer s H vs Q wc hr h => ?_)
  · obtain ⟨v, s, rfl, _⟩ := h
    rfl
  · have hps : ∀ q ∈ [p], q ∈ (cxP P w K mg base ["value", "word", "sign"] "_law_round_due" (defScope sRoundDue) f cdv A outer s H p).pn := fun q hq => hq
    have hu : (cxP P w K mg base ["value", "word", "sign"] "_law_round_due" (defScope sRoundDue) f cdv A outer s H p).A.units + 64 < cLine := by
      have z := hr.un
      show (A.deeper _).units + 64 < cLine
      omega
    refine ⟨_, pss_cons (ps_if (pw_or (pt_not (pt_val (pe_callB (call_isi.or (call_isEv hps)) (by rfl) B.isi boot_isinstance (pa_cons (pv 0) (pa_cons (pe_bltn (by rfl) B.str (by decide +kernel) (v := .ty "str") rfl) pa_nil)))))
        (pw_or (pt_cmpR op_ne (pe_slice sl_str (pv 0) po_none (po_some pe_int)) pe_str (nomark _))
        (pw_or1 (pt_not (pt_chain op_le op_le pe_int (pe_callB call_len (by rfl) B.len boot_len (pa_cons (pv 0) pa_nil)) pe_int))))).pt (pss_one (ps_ret pe_bl)) pss_nil)
      (pss_cons (ps_set (i := 1) scRoundDue.nd rfl (Or.inl rfl) (pe_slice sl_str (pv 0) (po_some pe_int) po_none))
      (pss_one (ps_ret (pe_and (pe_cmpR (op_eqD hu) (pe_lcW (own := [("sign", 2)]) (g := gName 2) wc scRoundDue.nd (pi_strW (pv 1))
        (blkOk_by (N := ["value", "word", "sign"]) (sc := defScope sRoundDue) (by decide +kernel)) (fun _ _ _ _ _ => pg_name (i := 2) scRoundDue.nd rfl (Or.inl rfl))
        (fun _ _ _ _ _ => pts_one (pt_not (pt_chain op_le op_le pe_int (pe_callB call_ord (by rfl) B.ord (by decide +kernel) (pa_cons (pv 2) pa_nil)) pe_int))) (fun _ _ _ _ _ => pv 2))
        (pe_lst pa_nil) (nomark _))
        (pe_one (pe_or (pe_cmpR op_eq (pv 1) pe_str (nomark _)) (pe_one (pe_cmpR op_ne (pe_ix ix_seq (pv 1) pe_int fun _ _ => rfl) pe_str (nomark _))))))))), ?_⟩
    obtain ⟨v, s, rfl, hv, q⟩ := h
    rcases hv.view with ⟨z, rfl, rfl, hz⟩ | ⟨U, t, x, m, n, fn⟩ | ⟨a, d, rfl, ev, rfl⟩
    · obtain ⟨_, tz⟩ := hv
      have q : ∀ H', Same H H' → ∀ b, b = roundS z → Q (.bl b) H' := fun H' k b e => e ▸ q H' k
      refine ⟨_, rfl, .inl ⟨_, _, _, _, true, rfl, .ty _, .base (.str z), T.yes (by decide) (by decide), true, rfl, iteF ?_⟩⟩
      refine ⟨_, rfl, _, rfl, z, rfl, two_ln (by omega), rfl, _, rfl, ?_⟩
      rw [round_head]
      refine iteB (fun e => ?_) fun e => ?_
      · refine iteT (q H (Same.refl H) _ ?_)
        unfold roundS
        rw [not_t e] <;> rfl
      · have hr1 := not_f e
        have key := roundS_due hr1
        obtain ⟨l6, lw⟩ := round_size hr1
        have tw : Tame (.str (cutS z (some 6) none)) := cut_tame tz
        refine chain_ii 7 15 z.length (fun _ q => q) (fun _ q => ⟨_, rfl, _, _, rfl, ⟨two_ln (by omega), rfl⟩, q⟩) (fun _ q => q) ⟨_, rfl, iteB (fun e => ?_) fun e => ?_⟩
        · refine q H (Same.refl H) _ ?_
          rw [key, not_t e] <;> rfl
        · have e2 := not_f e
          rw [e2, Bool.true_and] at key
          have lz : 7 ≤ z.length := by
            rw [Bool.and_eq_true] at e2
            exact of_decide_eq_true e2.1
          refine ⟨_, rfl, _, rfl, z, rfl, two_ln (by omega), ?_⟩
          generalize hw : cutS z (some 6) none = w at key tw lw
          have hw2 : cutS z (some (6 : Int)) none = w := hw
          have lw2 : w.length ≤ 100000 := by omega
          refine ⟨_, rfl, _, rfl, fun D hD => lc_bad (z := w) (i := 2) (σ := [some (.str z), some (.str w), none]) (f := fun c => !(decide (48 ≤ c) && decide (c ≤ 57))) hD lw2 ?_ ?_ ?_ ?_⟩
          · intro c H1 Q1 _ q1
            exact chain_ii 48 57 c (fun _ q => q) (fun _ q => ⟨_, rfl, _, rfl, rfl, q⟩) (fun _ q => q) ⟨_, rfl, q1⟩
          · exact fun c H1 Q1 q1 => ⟨_, rfl, q1⟩
          · exact fun u => rfl
          · intro H1 k1 h1
            refine ⟨two_ln (by show 0 ≤ 16777216; decide), fun r hr => bad_eq h1 hr (tame_cps tw) ?_⟩
            rw [bad_signs]
            refine ⟨_, rfl, iteB (fun e3 => ?_) fun e3 => ?_⟩
            · exact numW_is rfl lw2 (by omega) (q _ (k1.trans (upd_grow hr)) _ (by rw [key, e3, Bool.true_and]))
            · exact q _ (k1.trans (upd_grow hr)) _ (by rw [key, e3, Bool.false_and])
    · refine ⟨_, rfl, .inl ⟨_, _, _, _, false, rfl, .ty _, x, T.no m (by decide) n, false, rfl, iteT ?_⟩⟩
      have z := strB_no (f := roundS) fn
      exact iteT (z ▸ q H (Same.refl H))
    · have ev : EvP [p] H a (He.ga K "InvalidText") d [("given", .str "x")] := ev.mono (fun _ z => nomatch z) fun _ _ z => z
      exact ⟨_, rfl, .inr ⟨a, _, d, _, _, _, false, rfl, ev, T.E, .ty _, T.te "str" (by decide), false, rfl, iteT (iteT (q H (Same.refl H)))⟩⟩
end
end K01

namespace K01
open PySem PySem.Spec PyProof.Rows L2
open Builtin Builtin.Str
abbrev sReadDue : Stmt := top 32
theorem scReadDue : FnScope ["value", "place", "k", "line"] ["value"] (defScope sReadDue) := ⟨rfl, rfl, rfl, by decide +kernel, rfl, by decide +kernel, by decide +kernel⟩
def spReadDue (K : PySem.W.Frag) : Sp := fun vs H Q _ => ∃ v s, vs = [v] ∧ Has K H v s ∧ (readB s = none → ∀ H', Same H H' → Q .non H') ∧
  ∀ a b, readB s = some (a, b) → ∀ p H', Same H H' → H' p = some (.tup [.str a, .str b]) → Q (.ref p) H'
theorem sign_eq {z : Str} {j c : Nat} (h : z.cps.toList[j]? = some c) : decide (V.str ⟨#[c]⟩ = V.str " ") = decide (z.cps.toList[j]? = some 32) := by
  apply decide_eq_decide.mpr
  rw [h]
  constructor
  · intro e
    injection e with e
    have e2 : (#[c] : Array Nat) = #[32] := congrArg Str.cps e
    simp at e2
    rw [e2]
  · intro e
    have e2 : c = 32 := Option.some.inj e
    rw [e2]
    rfl
theorem filter_step (g : Nat → Bool) (j : Nat) : (List.range (j + 1)).filter g = (List.range j).filter g ++ (if g j = true then [j] else []) := by
  rw [List.range_succ, List.filter_append]
  congr 1
  by_cases e : g j = true
  · rw [if_pos e, List.filter_cons_of_pos e] <;> rfl
  · rw [if_neg e, List.filter_cons_of_neg e] <;> rfl
theorem ixAt {K : PySem.W.Frag} {H : Hp} {p : Addr} {xs : List V} {i : Int} {v : V} {Q : VK} (h : H p = some (.lst xs)) (e : atI xs i = some v) (q : Q v H) : rIx K (.ref p) (.int i) H Q :=
  .inl ⟨p, xs, i, v, rfl, rfl, SqL.of h, e, q⟩
section
variable {P : Program} {w : World} {K : PySem.W.Frag} {mg : Str → Option Value} {base : Heap} {f fL : Addr} {fd dL : FuncData} {p : Pin}
theorem ok_readDue (F : Fd K "_law_read_due" sReadDue f fd) (FL : Fd K "_law_line_due" sLineDue fL dL) (GL : FnP P w K mg base 2 fL dL ["value"] p (spJ K lineB)) (B : Blt2 mg) (T : Kit K)
    (gL : mg "_law_line_due" = some (.ref fL)) : FnP P w K mg base 3 f fd ["value"] p (spReadDue K) := by
  have bL : Binds K dL ["value"] [] := FL.bindsN fun _ _ _ _ _ _ us hl => match us, hl with | [_], _ => rfl
  refine F.okP scReadDue (fun vs H Q E h => ?_) (fun cdv A outer s H vs Q wc hr h => ?_)
  · obtain ⟨v, s, rfl, _⟩ := h
    rfl
  · have hps : ∀ q ∈ [p], q ∈ (cxP P w K mg base ["value", "place", "k", "line"] "_law_read_due" (defScope sReadDue) f cdv A outer s H p).pn := fun q hq => hq
    refine ⟨_, pss_cons (ps_if (pw_or (pt_not (pt_val (pe_callB (call_isi.or (call_isEv hps)) (by rfl) B.isi boot_isinstance (pa_cons (pv 0) (pa_cons (pe_bltn (by rfl) B.str (by decide +kernel) (v := .ty "str") rfl) pa_nil)))))
        (pw_or1 (pt_cmpR op_notin_str pe_str (pv 0) rfl))).pt (pss_one (ps_ret pe_non)) pss_nil)
      (pss_cons (ps_set (i := 1) scReadDue.nd rfl (Or.inl rfl) (pe_ix ix_seq (pe_lcW (own := [("k", 2)]) (g := gName 2) wc scReadDue.nd (pi_range1W (by rfl) B.rng (pa_cons (pe_callB call_len (by rfl) B.len boot_len (pa_cons (pv 0) pa_nil)) pa_nil))
          (blkOk_by (N := ["value", "place", "k", "line"]) (sc := defScope sReadDue) (by decide +kernel)) (fun _ _ _ _ _ => pg_name (i := 2) scReadDue.nd rfl (Or.inl rfl))
          (fun _ _ _ _ _ => pts_one (pt_cmpR op_eq (pe_ix (r := rIx K) ix_seq (pv 0) (pv 2) fun _ _ => rfl) pe_str (nomark _))) (fun _ _ _ _ _ => pv 2)) pe_int fun _ _ => rfl))
      (pss_cons (ps_set (i := 3) scReadDue.nd rfl (Or.inl rfl) (pe_tup (pa_cons (pe_slice sl_str (pv 0) po_none (po_some (pv 1))) (pa_cons (pe_slice sl_str (pv 0) (po_some (pe_op op_add (pv 1) pe_int)) po_none) pa_nil))))
      (pss_one (ps_ret (pe_ifExp (pt_val (pe_callP GL wc (hr.mono (by decide)) (by rfl) gL FL.kp bL (pa_cons (pv 3) pa_nil))) (pv 3) pe_non))))), ?_⟩
    obtain ⟨v, s, rfl, hv, no, q⟩ := h
    rcases hv.view with ⟨z, rfl, rfl, hz⟩ | ⟨U, t, x, m, n, fn⟩ | ⟨a, d, rfl, ev, rfl⟩
    · obtain ⟨_, tz⟩ := hv
      have l0 : z.cps.toList.length = z.length := by simp [Str.length]
      refine ⟨_, rfl, .inl ⟨_, _, _, _, true, rfl, .ty _, .base (.str z), T.yes (by decide) (by decide), true, rfl, iteF ?_⟩⟩
      refine ⟨_, rfl, _, _, rfl, rfl, _, rfl, ?_⟩
      have occ : occurrences z (Str.ofString " ") 0 z.length 1 = (spaces z).head?.toList := occ_space z
      rw [occ]
      cases hs : (spaces z).head? with
      | none =>
        refine iteT (no ?_ H (Same.refl H))
        show readS z = none
        unfold readS
        rw [hs]
      | some i =>
        have hi := space_lt hs
        refine iteF ⟨_, rfl, _, _, rfl, ⟨two_ln (by omega), rfl⟩, _, rfl, by omega, by omega, fun D hD => ?_⟩
        have e62 : ((z.length : Int)).toNat = z.length := Int.toNat_natCast _
        rw [e62]
        refine lc_range (n := z.length) (fun j H' => Same H H' ∧ H' D = some (.lst (((List.range j).filter fun k => decide (z.cps.toList[k]? = some 32)).map fun k : Nat => V.int (k : Int)))) ⟨upd_grow hD, upd_same⟩ ?_ ?_
        · intro j H1 hj ⟨k1, h1⟩
          have hj2 : j < z.cps.toList.length := by omega
          have gj : z.cps.toList[j]? = some z.cps.toList[j] := List.getElem?_eq_getElem hj2
          have step : (List.range (j + 1)).filter (fun k => decide (z.cps.toList[k]? = some 32)) = (List.range j).filter (fun k => decide (z.cps.toList[k]? = some 32)) ++ (if decide (z.cps.toList[j]? = some 32) = true then [j] else []) := by
            exact filter_step _ j
          refine ⟨rfl, _, rfl, _, rfl, .inr (.inr ⟨z, _, _, rfl, rfl, two_ln (by omega), atI_nat (by rw [Nat.zero_add] <;> exact gj), rfl, _, rfl, ?_⟩)⟩
          rw [sign_eq gj]
          refine iteB (fun e => ⟨_, rfl, _, h1, ?_, ?_, ?_⟩) fun e => ⟨k1, ?_⟩
          · rw [sizeLine_eq, List.length_map]
            have l1 := List.length_filter_le (fun k => decide (z.cps.toList[k]? = some 32)) (List.range j)
            rw [List.length_range] at l1
            omega
          · intro b o e
            rw [upd_ne (ne_of_none e hD)]
            exact k1 b o e
          · rw [upd_same, step, if_pos e, List.map_append, Int.zero_add]
            rfl
          · rw [h1, step, if_neg (by rw [e]; decide), List.append_nil]
        · intro H1 ⟨k1, h1⟩
          have hh : ((spaces z).map fun k : Nat => V.int (k : Int))[0]? = some (V.int (i : Int)) := by
            cases hl : spaces z with
            | nil =>
              rw [hl] at hs
              cases hs
            | cons b r =>
              rw [hl] at hs
              cases hs
              rfl
          refine ixAt h1 (atI_nat (j := 0) hh : _) ?_
          refine ⟨_, rfl, _, rfl, _, rfl, z, rfl, two_ln (by omega), ?_⟩
          refine ⟨_, rfl, _, rfl, _, _, rfl, rfl, _, rfl, z, rfl, two_ln (by omega), two_ln (by show 2 ≤ 16777216; decide), fun p2 hp2 => ?_⟩
          have k2 := upd_grow (o := .tup [.str (cutS z none (some (i : Int))), .str (cutS z (some ((i + 1 : Nat) : Int)) none)]) hp2
          have h2 := upd_same (H := H1) (a := p2) (o := .tup [.str (cutS z none (some (i : Int))), .str (cutS z (some ((i + 1 : Nat) : Int)) none)])
          generalize e2 : upd H1 p2 (.tup [.str (cutS z none (some (i : Int))), .str (cutS z (some ((i + 1 : Nat) : Int)) none)]) = H2 at k2 h2
          have e3 : upd H1 p2 (.tup [.str (cutS z none (some (i : Int))), .str (cutS z (some ((i : Int) + 1)) none)]) = H2 := e2
          rw [e3]
          have ht : Has K H2 (.ref p2) (.dat (.tuple [.str (cutS z none (some (i : Int))), .str (cutS z (some ((i + 1 : Nat) : Int)) none)])) := ⟨.tup h2 (.cons (.str _) (.cons (.str _) .nil)), pair_tame tz hi⟩
          have key : lineB (.dat (.tuple [.str (cutS z none (some (i : Int))), .str (cutS z (some ((i + 1 : Nat) : Int)) none)])) = (nameS (cutS z none (some (i : Int))) && textS (cutS z (some ((i + 1 : Nat) : Int)) none)) := rfl
          refine ⟨_, rfl, _, _, rfl, ht, fun H3 k3 => ⟨_, rfl, iteB (fun e => ?_) fun e => ?_⟩⟩
          · rw [key] at e
            have e4 : readB (.dat (.str z)) = some (cutS z none (some (i : Int)), cutS z (some ((i + 1 : Nat) : Int)) none) := by
              show readS z = _
              unfold readS
              rw [hs]
              show (if _ then _ else _) = _
              rw [e, if_pos rfl]
            exact ⟨_, rfl, q _ _ e4 p2 H3 (k1.trans (k2.trans k3)) (k3 _ _ h2)⟩
          · rw [key] at e
            refine no ?_ H3 (k1.trans (k2.trans k3))
            show readS z = none
            unfold readS
            rw [hs]
            show (if _ then _ else _) = none
            rw [e, if_neg (by decide)]
    · refine ⟨_, rfl, .inl ⟨_, _, _, _, false, rfl, .ty _, x, T.no m (by decide) n, false, rfl, iteT (iteT (no ?_ H (Same.refl H)))⟩⟩
      cases s with
      | dat d => cases d with
        | str z => exact absurd rfl (fn z)
        | _ => rfl
      | _ => rfl
    · have ev : EvP [p] H a (He.ga K "InvalidText") d [("given", .str "x")] := ev.mono (fun _ z => nomatch z) fun _ _ z => z
      exact ⟨_, rfl, .inr ⟨a, _, d, _, _, _, false, rfl, ev, T.E, .ty _, T.te "str" (by decide), false, rfl, iteT (iteT (no rfl H (Same.refl H)))⟩⟩
end
end K01

namespace L2
open PySem PySem.Spec PyProof.Rows
section
variable {X : Cx} {CX : CXT} {k : Nat} {f : Addr} {fd : FuncData} {y x : Str} {sp : Sp} {E : St → XK} {p pos kp : Pos} {e : Expr} {te : TE}
/-- x(y = e), y the def's only parameter -/
theorem pe_call1K (F : FnOk X.prog X.w X.K X.mg X.base CX k f fd [y] sp) (hr : Room k X.A) (hg : Gl X x) (hm : X.mg x = some (.ref f)) (hk : PySem.W.keepIn X.K (.ref f) = true)
    (hb : KBn X.K fd [y] 0 [y] (fun us ws => us ++ ws) (fun vs zs => vs ++ zs)) (hx : ∀ σ, PassesAt CX X σ (E σ)) (he : PE X e te) (hdb : (x == ("__debug__" : Str)) = false := by decide)
    (hall : (backToKw pos (keywordEach [⟨some y, e, kp⟩] X.env)).all (·.1.isSome) = true := by rfl)
    (hks : (backToKw pos (keywordEach [⟨some y, e, kp⟩] X.env)).filterMap (·.1) = [y] := by rfl)
    (hpl : ((backTo pos (starEach [] X.env)).any (·.1) || (backToKw pos (keywordEach [⟨some y, e, kp⟩] X.env)).any (·.1.isNone)) = false := by rfl) :
    PE X (.Call (.Name x p) [] [⟨some y, e, kp⟩] pos) (fun σ H Q => te σ H fun v H1 => sp [v] H1 Q (E σ)) := by
  refine ⟨fun pins s σ H Q I h => ?_⟩
  refine wpAny_Call_Name_kw (ld_glob I hg hm ?_ hdb)
  refine PySem.W.callWith_KW0 (h₀ := X.base) I.ok.mod.kin hk hall ?_ hpl
  refine thn ((pk_cons he pk_nil).run pos pins s σ H (fun zs H1 => sp zs H1 Q (E σ)) I h) fun ws s1 ⟨zs, H1, I1, rz, q⟩ => ⟨I1.kIn, ?_⟩
  rw [hks]
  have l : zs.length = 1 := F.len _ _ _ _ q
  have lw : ws.length = 1 := rz.length.symm.trans l
  have b := hb.to s1 [] ws I1.kIn rfl lw
  refine wpAny_call (codeAny_mono (F.run X.A X.stack s1 H1 ⟨[], List.zip [y] ws⟩ ws zs Q (E σ) hr I1.env0 b rz q) fun r s2 h2 => ?_)
  cases r with
  | error er => exact hx σ pins H1 s1 er s2 I1 h2
  | ok fl =>
    cases fl with
    | ret u => exact I1.after h2
    | next => exact h2.elim
    | brk => exact h2.elim
    | cont => exact h2.elim
theorem pass_none {X : Cx} (σ : St) : PassesAt CX0 X σ fun _ _ _ => False := fun _ _ _ _ _ _ h => h.elim
end
end L2
namespace K01
open PySem PySem.Spec PyProof.Rows L2
abbrev sYes : Stmt := top 33
abbrev sAsks : Stmt := top 34
abbrev sSame : Stmt := top 35
theorem scYes : FnScope ["answer", "due"] ["answer", "due"] (defScope sYes) := ⟨rfl, rfl, rfl, by decide +kernel, rfl, by decide +kernel, by decide +kernel⟩
theorem scAsks : FnScope ["value", "by_name", "told", "due", "k"] ["value", "by_name"] (defScope sAsks) := ⟨rfl, rfl, rfl, by decide +kernel, rfl, by decide +kernel, by decide +kernel⟩
theorem scSame : FnScope ["kept", "thing"] ["kept", "thing"] (defScope sSame) := ⟨rfl, rfl, rfl, by decide +kernel, rfl, by decide +kernel, by decide +kernel⟩
def spYes : Sp := fun vs H Q _ => ∃ a b : Bool, vs = [.bl a, .bl b] ∧ ∀ H', Same H H' → Q (.bl (decide (a = b))) H'
/-- what is asked of the classes -/
structure Kit2 (K : PySem.W.Frag) (mg : Str → Option Value) : Prop where
  gT : mg "InvalidText" = some (.ref (He.ga K "InvalidText"))
  gO : mg "LostError" = some (.ref (He.ga K "LostError"))
  X : XfC K (He.ga K "InvalidText")
  no : PySem.W.findIn K (.ref (He.ga K "InvalidText")) "given" = some none
  txt : ∀ T ∈ tys, PySem.W.kitOne K (.type T) (.ref (He.ga K "InvalidText")) = some false
  los : ∀ T ∈ tys, PySem.W.kitOne K (.type T) (.ref (He.ga K "LostError")) = some false
  self : PySem.W.kitOne K (.ref (He.ga K "InvalidText")) (.ref (He.ga K "InvalidText")) = some true
  sys : ∃ o, K.lookup sysModules = some o
/-- not a pair with an error in it -/
def plain : Sh → Prop
  | .mix _ => False
  | _ => True
def spSame (K : PySem.W.Frag) : Sp := fun vs H Q _ => ∃ (v : V) (s : Sh), vs = [v, v] ∧ Has K H v s ∧ plain s ∧ ∀ H', Same H H' → Q (.bl true) H'
def spAsks (K : PySem.W.Frag) : Sp := fun vs H Q _ => ∃ (v : V) (s : Sh) (b : Bool), vs = [v, .bl b] ∧ Has K H v s ∧ ∀ H', Same H H' → Q (.bl true) H'
theorem rdd_ty {K : PySem.W.Frag} {H : Hp} {v : V} {d : PyData} (r : Rdd H v d) : ∃ T ∈ tys, TyX K H v (.type T) := by
  cases r with
  | non => exact ⟨_, (by decide : "NoneType" ∈ tys), .base .non⟩
  | bl b => exact ⟨_, (by decide : "bool" ∈ tys), .base (.bl b)⟩
  | int i => exact ⟨_, (by decide : "int" ∈ tys), .base (.int i)⟩
  | str x => exact ⟨_, (by decide : "str" ∈ tys), .base (.str x)⟩
  | lst h _ => exact ⟨_, (by decide : "list" ∈ tys), .base (.lst h)⟩
  | tup h _ => exact ⟨_, (by decide : "tuple" ∈ tys), .base (.tup h)⟩
  | dK h _ _ => exact ⟨_, (by decide : "dict" ∈ tys), .base (.dK h)⟩
section
variable {P : Program} {w : World} {K : PySem.W.Frag} {mg : Str → Option Value} {base : Heap} {f : Addr} {fd : FuncData} {p : Pin}
theorem ok_yes (F : Fd K "_law_yes" sYes f fd) : FnOk P w K mg base CX0 1 f fd ["answer", "due"] spYes := by
  refine F.ok scYes (fun vs H Q E h => ?_) (fun cdv A outer s H vs Q E hr h => ?_)
  · obtain ⟨a, b, rfl, _⟩ := h
    rfl
  · refine ⟨_, pss_one (ps_ret (pe_ifExp (pt_val (pv 1)) (pe_cmpR op_isBl (pv 0) pe_bl (nomark _)) (pe_cmpR op_isBl (pv 0) pe_bl (nomark _)))), ?_⟩
    obtain ⟨a, b, rfl, q⟩ := h
    have q := q H (Same.refl H)
    cases b with
    | true => exact ⟨_, rfl, true, rfl, iteT ⟨_, rfl, _, _, rfl, rfl, q⟩⟩
    | false => exact ⟨_, rfl, false, rfl, iteF ⟨_, rfl, _, _, rfl, rfl, q⟩⟩
theorem ok_same (F : Fd K "_law_same" sSame f fd) (T : Kit K) (T2 : Kit2 K mg) (B : Blt2 mg) : FnP P w K mg base 1 f fd ["kept", "thing"] p (spSame K) := by
  refine F.okP scSame (fun vs H Q E h => ?_) (fun cdv A outer s H vs Q wc hr h => ?_)
  · obtain ⟨v, s, rfl, _⟩ := h
    rfl
  · have hps : ∀ q ∈ [p], q ∈ (cxP P w K mg base ["kept", "thing"] "_law_same" (defScope sSame) f cdv A outer s H p).pn := fun q hq => hq
    have hu : (cxP P w K mg base ["kept", "thing"] "_law_same" (defScope sSame) f cdv A outer s H p).A.units + 64 < cLine := by
      have z := hr.un
      show (A.deeper _).units + 64 < cLine
      omega
    refine ⟨_, pss_cons (ps_if (pt_val (pe_callB (call_isi.or (call_isEv hps)) (by rfl) B.isi boot_isinstance (pa_cons (pv 1) (pa_cons (pe_glob (by rfl) T2.gT (v := .ref (He.ga K "InvalidText")) rfl) pa_nil))))
        (pss_one (ps_ret (pe_and (pe_callB (call_isEv hps) (by rfl) B.isi boot_isinstance (pa_cons (pv 0) (pa_cons (pe_glob (by rfl) T2.gT (v := .ref (He.ga K "InvalidText")) rfl) pa_nil)))
          (pe_one (pe_cmpR op_eq (pe_evF hps (pv 0)) pe_str (nomark _)))))) pss_nil)
      (pss_one (ps_ret (pe_and (pe_not (pe_callB call_isi (by rfl) B.isi boot_isinstance (pa_cons (pv 0) (pa_cons (pe_glob (by rfl) T2.gO (v := .ref (He.ga K "LostError")) rfl) pa_nil))))
        (pe_one (pe_cmpR op_eq (pe_callB (call_repr wc.gd hu T2.sys) (by rfl) B.rep (by decide +kernel) (pa_cons (pv 0) pa_nil)) (pe_callB (call_repr wc.gd hu T2.sys) (by rfl) B.rep (by decide +kernel) (pa_cons (pv 1) pa_nil)) (nomark _)))))), ?_⟩
    obtain ⟨v, s, rfl, th, pl, q⟩ := h
    cases s with
    | dat d =>
      obtain ⟨r, t⟩ := th
      obtain ⟨U, m, x⟩ := rdd_ty (K := K) r
      refine ⟨_, rfl, .inl ⟨v, _, _, _, false, rfl, .own _, x, T2.txt U m, false, rfl, iteF ?_⟩⟩
      refine ⟨_, rfl, v, _, _, _, false, rfl, .own _, x, T2.los U m, false, rfl, true, rfl, iteT ?_⟩
      refine ⟨_, rfl, v, d, rfl, r, t.s, t.h, t.len, _, rfl, v, d, rfl, r, t.s, t.h, t.len, rfl, ?_⟩
      show Q (.bl (decide (V.str d.shown = V.str d.shown))) H
      rw [decide_eq_true rfl]
      exact q H (Same.refl H)
    | exc =>
      obtain ⟨a, d, rfl, ev⟩ := th
      have ev : EvP [p] H a (He.ga K "InvalidText") d [("given", .str "x")] := ev.mono (fun _ z => nomatch z) (fun _ _ z => z)
      refine ⟨_, rfl, .inr ⟨a, _, d, _, _, _, _, rfl, ev, T.E, .own _, T2.self, _, rfl, ?_⟩⟩
      refine iteT ⟨_, rfl, a, _, d, _, _, _, _, rfl, ev, T.E, .own _, T2.self, _, rfl, ?_⟩
      refine iteT ⟨_, rfl, a, _, d, _, .str "x", rfl, ev, T2.X, T2.no, rfl, rfl, ?_⟩
      show Q (.bl (decide (V.str "x" = V.str "x"))) H
      rw [decide_eq_true rfl]
      exact q H (Same.refl H)
    | mix a => exact pl.elim
end
end K01

namespace K01
open PySem PySem.Spec PyProof.Rows L2
theorem rel_app {vs zs : List V} {us ws : List Value} (r : Vals vs us) (q : Vals zs ws) : Vals (vs ++ zs) (us ++ ws) := r.append q
/-- the four judges, and the law's own -/
structure Judges (P : Program) (w : World) (K : PySem.W.Frag) (mg : Str → Option Value) (base : Heap) (fN fX fL fR gN gX gL gR : Addr) (dN dX dL dR eN eX eL eR : FuncData) : Prop where
  hN : mg "is_name" = some (.ref fN)
  hX : mg "is_text" = some (.ref fX)
  hL : mg "is_line" = some (.ref fL)
  hR : mg "is_round" = some (.ref fR)
  kN : mg "_law_name_due" = some (.ref gN)
  kX : mg "_law_text_due" = some (.ref gX)
  kL : mg "_law_line_due" = some (.ref gL)
  kR : mg "_law_round_due" = some (.ref gR)
  FN : Fd K "is_name" sName fN dN
  FX : Fd K "is_text" sText fX dX
  FL : Fd K "is_line" sLine fL dL
  FR : Fd K "is_round" sRound fR dR
  EN : Fd K "_law_name_due" sNameDue gN eN
  EX : Fd K "_law_text_due" sTextDue gX eX
  EL : Fd K "_law_line_due" sLineDue gL eL
  ER : Fd K "_law_round_due" sRoundDue gR eR
  oN : FnOk P w K mg base CX0 1 fN dN ["value"] (spJ K (strB nameS))
  oX : FnOk P w K mg base CX0 1 fX dX ["value"] (spJ K (strB textS))
  oL : FnOk P w K mg base CX0 2 fL dL ["value"] (spJ K lineB)
  oR : FnOk P w K mg base CX0 2 fR dR ["value"] (spJ K (strB roundS))
  uN : ∀ p, FnP P w K mg base 1 gN eN ["value"] p (spJ K (strB nameS))
  uX : ∀ p, FnP P w K mg base 1 gX eX ["value"] p (spJ K (strB textS))
  uL : ∀ p, FnP P w K mg base 2 gL eL ["value"] p (spJ K lineB)
  uR : ∀ p, FnP P w K mg base 1 gR eR ["value"] p (spJ K (strB roundS))
  pin : ∃ (a : Addr) (o : Obj), K.lookup a = some o ∧ ∀ v, o.data ≠ .cell v
def four (s : Sh) : List V := [.bl (strB nameS s), .bl (strB textS s), .bl (lineB s), .bl (strB roundS s)]
/-- behind told -/
theorem asks_tail {K : PySem.W.Frag} {v : V} {s : Sh} {b : Bool} {t : Addr} {H : Hp} {Q : VK} (hv : Has K H v s) (ht : H t = some (.lst (four s))) (q : ∀ H', Same H H' → Q (.bl true) H') :
    tSeq (tAsg (tLst (tCons (tCall (spJ K (strB nameS)) [] noE (tCons (tVar 0) tNil)) (tCons (tCall (spJ K (strB textS)) [] noE (tCons (tVar 0) tNil)) (tCons (tCall (spJ K lineB) [] noE (tCons (tVar 0) tNil))
      (tCons (tCall (spJ K (strB roundS)) [] noE (tCons (tVar 0) tNil)) tNil))))) (gName 3))
      (tRet (tOp (rEqV K) (tLc (iRng1 (tCons (tC (V.int 4)) tNil)) (gName 4) (tNot (tB (tCall spYes [] E0 (tCons (tOp (rIx K) (tVar 2) (tVar 4)) (tCons (tOp (rIx K) (tVar 3) (tVar 4)) tNil))))) (tVar 4) [4]) (tLst tNil)))
      { nx := fun _ H' => Q .non H', rt := Q } [some v, some (.bl b), some (.ref t), none, none] H := by
  refine ⟨_, rfl, v, s, rfl, hv, fun H1 k1 => ⟨_, rfl, v, s, rfl, hv.mono k1, fun H2 k2 => ⟨_, rfl, v, s, rfl, hv.mono (k1.trans k2), fun H3 k3 => ⟨_, rfl, v, s, rfl, hv.mono (k1.trans (k2.trans k3)), fun H4 k4 => ?_⟩⟩⟩⟩
  have k := k1.trans (k2.trans (k3.trans k4))
  refine ⟨two_ln (by show 4 ≤ 16777216; decide), fun d hd => ?_⟩
  have k5 := upd_grow (o := .lst (four s)) hd
  have h5 := upd_same (H := H4) (a := d) (o := .lst (four s))
  have ht5 := k5 _ _ (k _ _ ht)
  generalize e5 : upd H4 d (.lst (four s)) = H5 at k5 h5 ht5
  have e5' : upd H4 d (.lst [.bl (strB nameS s), .bl (strB textS s), .bl (lineB s), .bl (strB roundS s)]) = H5 := e5
  rw [e5']
  refine ⟨4, rfl, by decide, by decide, fun D hD => lc_range (n := 4) (fun i H' => Same H5 H' ∧ H' D = some (.lst [])) ⟨upd_grow hD, upd_same⟩ ?_ ?_⟩
  · intro i H6 hi ⟨k6, h6⟩
    obtain ⟨c, hc⟩ : ∃ c, (four s)[i]? = some (.bl c) := match i, hi with
      | 0, _ => ⟨_, rfl⟩
      | 1, _ => ⟨_, rfl⟩
      | 2, _ => ⟨_, rfl⟩
      | 3, _ => ⟨_, rfl⟩
    refine ⟨rfl, _, rfl, _, rfl, ixAt (k6 _ _ ht5) (atI_nat (by rw [Nat.zero_add] <;> exact hc)) ⟨_, rfl, _, rfl, ixAt (k6 _ _ h5) (atI_nat (by rw [Nat.zero_add] <;> exact hc)) ?_⟩⟩
    exact ⟨c, c, rfl, fun H7 k7 => ⟨true, congrArg V.bl (decide_eq_true rfl), iteF ⟨k6.trans k7, k7 _ _ h6⟩⟩⟩
  · intro H6 ⟨k6, h6⟩
    refine ⟨two_ln (by show 0 ≤ 16777216; decide), fun r hr => ⟨1, by decide, .inl ⟨D, r, [], [], rfl, rfl, SqL.of (upd_grow hr _ _ h6), SqL.of upd_same, .nil⟩, q _ (k.trans (k5.trans (k6.trans (upd_grow hr))))⟩⟩
section
variable {P : Program} {w : World} {K : PySem.W.Frag} {mg : Str → Option Value} {base : Heap} {f fY fN fX fL fR gN gX gL gR : Addr} {fd dY dN dX dL dR eN eX eL eR : FuncData}
theorem ok_asks (F : Fd K "_law_asks_right" sAsks f fd) (FY : Fd K "_law_yes" sYes fY dY) (J : Judges P w K mg base fN fX fL fR gN gX gL gR dN dX dL dR eN eX eL eR) (B : Blt2 mg) (gY : mg "_law_yes" = some (.ref fY)) :
    FnG P w K mg base 3 f fd ["value", "by_name"] (spAsks K) := by
  have GY : FnOk P w K mg base CX0 1 fY dY ["answer", "due"] spYes := ok_yes FY
  have bY : Binds K dY ["answer", "due"] [] := FY.bindsN fun _ _ _ _ _ _ us hl => match us, hl with | [_, _], _ => rfl
  have bN : Binds K dN ["value"] [] := J.FN.bindsN fun _ _ _ _ _ _ us hl => match us, hl with | [_], _ => rfl
  have bX : Binds K dX ["value"] [] := J.FX.bindsN fun _ _ _ _ _ _ us hl => match us, hl with | [_], _ => rfl
  have bL : Binds K dL ["value"] [] := J.FL.bindsN fun _ _ _ _ _ _ us hl => match us, hl with | [_], _ => rfl
  have bR : Binds K dR ["value"] [] := J.FR.bindsN fun _ _ _ _ _ _ us hl => match us, hl with | [_], _ => rfl
  have cN : Binds K eN ["value"] [] := J.EN.bindsN fun _ _ _ _ _ _ us hl => match us, hl with | [_], _ => rfl
  have cX : Binds K eX ["value"] [] := J.EX.bindsN fun _ _ _ _ _ _ us hl => match us, hl with | [_], _ => rfl
  have cL : Binds K eL ["value"] [] := J.EL.bindsN fun _ _ _ _ _ _ us hl => match us, hl with | [_], _ => rfl
  have cR : Binds K eR ["value"] [] := J.ER.bindsN fun _ _ _ _ _ _ us hl => match us, hl with | [_], _ => rfl
  have nN : KBn K dN ["value"] 0 ["value"] (fun us ws => us ++ ws) (fun vs zs => vs ++ zs) := J.FN.kbn0 0 ["value"] (fun us ws => us ++ ws) rel_app fun _ _ _ _ _ _ us ws l1 l2 => match us, ws, l1, l2 with | [], [_], _, _ => rfl
  have nX : KBn K dX ["value"] 0 ["value"] (fun us ws => us ++ ws) (fun vs zs => vs ++ zs) := J.FX.kbn0 0 ["value"] (fun us ws => us ++ ws) rel_app fun _ _ _ _ _ _ us ws l1 l2 => match us, ws, l1, l2 with | [], [_], _, _ => rfl
  have nL : KBn K dL ["value"] 0 ["value"] (fun us ws => us ++ ws) (fun vs zs => vs ++ zs) := J.FL.kbn0 0 ["value"] (fun us ws => us ++ ws) rel_app fun _ _ _ _ _ _ us ws l1 l2 => match us, ws, l1, l2 with | [], [_], _, _ => rfl
  have nR : KBn K dR ["value"] 0 ["value"] (fun us ws => us ++ ws) (fun vs zs => vs ++ zs) := J.FR.kbn0 0 ["value"] (fun us ws => us ++ ws) rel_app fun _ _ _ _ _ _ us ws l1 l2 => match us, ws, l1, l2 with | [], [_], _, _ => rfl
  obtain ⟨pa, po, hpo, hpc⟩ := J.pin
  have uN := (J.uN (pa, po)).ok hpo hpc
  have uX := (J.uX (pa, po)).ok hpo hpc
  have uL := (J.uL (pa, po)).ok hpo hpc
  have uR := (J.uR (pa, po)).ok hpo hpc
  refine F.okG scAsks (fun vs H Q E h => ?_) (fun cdv A outer s H vs Q hgd hr h => ?_)
  · obtain ⟨v, s, b, rfl, _⟩ := h
    rfl
  · have hu : (cxOf CX0 P w K mg base ["value", "by_name", "told", "due", "k"] "_law_asks_right" (defScope sAsks) f cdv A outer s H noE).A.units + 64 < cLine := by
      have z := hr.un
      show (A.deeper _).units + 64 < cLine
      omega
    refine ⟨_, pss_cons (ps_if (pt_val (pv 1))
        (pss_one (ps_set (i := 2) scAsks.nd rfl (Or.inr rfl) (pe_lst (pa_cons (pe_call1K (E := fun _ _ _ _ => False) J.oN (hr.mono (by decide)) (by rfl) J.hN J.FN.kp nN pass_none (pv 0)) (pa_cons (pe_call1K (E := fun _ _ _ _ => False) J.oX (hr.mono (by decide)) (by rfl) J.hX J.FX.kp nX pass_none (pv 0))
          (pa_cons (pe_call1K (E := fun _ _ _ _ => False) J.oL (hr.mono (by decide)) (by rfl) J.hL J.FL.kp nL pass_none (pv 0)) (pa_cons (pe_call1K (E := fun _ _ _ _ => False) J.oR (hr.mono (by decide)) (by rfl) J.hR J.FR.kp nR pass_none (pv 0)) pa_nil)))))))
        (pss_one (ps_set (i := 2) scAsks.nd rfl (Or.inr rfl) (pe_lst (pa_cons (pe_call J.oN (hr.mono (by decide)) (by rfl) J.hN J.FN.kp bN .nil pass0 (pa_cons (pv 0) pa_nil)) (pa_cons (pe_call J.oX (hr.mono (by decide)) (by rfl) J.hX J.FX.kp bX .nil pass0 (pa_cons (pv 0) pa_nil))
          (pa_cons (pe_call J.oL (hr.mono (by decide)) (by rfl) J.hL J.FL.kp bL .nil pass0 (pa_cons (pv 0) pa_nil)) (pa_cons (pe_call J.oR (hr.mono (by decide)) (by rfl) J.hR J.FR.kp bR .nil pass0 (pa_cons (pv 0) pa_nil)) pa_nil))))))))
      (pss_cons (ps_set (i := 3) scAsks.nd rfl (Or.inr rfl) (pe_lst (pa_cons (pe_callG uN hgd (hr.mono (by decide)) (by rfl) J.kN J.EN.kp cN (pa_cons (pv 0) pa_nil)) (pa_cons (pe_callG uX hgd (hr.mono (by decide)) (by rfl) J.kX J.EX.kp cX (pa_cons (pv 0) pa_nil))
          (pa_cons (pe_callG uL hgd (hr.mono (by decide)) (by rfl) J.kL J.EL.kp cL (pa_cons (pv 0) pa_nil)) (pa_cons (pe_callG uR hgd (hr.mono (by decide)) (by rfl) J.kR J.ER.kp cR (pa_cons (pv 0) pa_nil)) pa_nil))))))
      (pss_one (ps_ret (pe_cmpR (op_eqV hu) (pe_lc (own := [("k", 4)]) (g := gName 4) rfl scAsks.nd (pi_range1 (by rfl) B.rng (pa_cons pe_int pa_nil))
        (blkOk_by (N := ["value", "by_name", "told", "due", "k"]) (sc := defScope sAsks) (by decide +kernel)) (fun _ _ _ _ _ => pg_name (i := 4) scAsks.nd rfl (Or.inl rfl))
        (fun _ _ _ _ _ => pts_one (pt_not (pt_val (pe_call GY (hr.mono (by decide)) (by rfl) gY FY.kp bY .nil pass0 (pa_cons (pe_ix (r := rIx K) ix_seq (pv 2) (pv 4) fun _ _ => rfl) (pa_cons (pe_ix (r := rIx K) ix_seq (pv 3) (pv 4) fun _ _ => rfl) pa_nil))))))
        (fun _ _ _ _ _ => pv 4)) (pe_lst pa_nil) (nomark _))))), ?_⟩
    obtain ⟨v, s, b, rfl, hv, q⟩ := h
    refine ⟨_, rfl, b, rfl, ?_⟩
    cases b with
    | true =>
      refine iteT ⟨_, rfl, v, s, rfl, hv, fun H1 k1 => ⟨_, rfl, v, s, rfl, hv.mono k1, fun H2 k2 => ⟨_, rfl, v, s, rfl, hv.mono (k1.trans k2), fun H3 k3 => ⟨_, rfl, v, s, rfl, hv.mono (k1.trans (k2.trans k3)), fun H4 k4 => ?_⟩⟩⟩⟩
      have k := k1.trans (k2.trans (k3.trans k4))
      refine ⟨two_ln (by show 4 ≤ 16777216; decide), fun t ht => asks_tail (s := s) (hv.mono (k.trans (upd_grow ht))) upd_same fun H5 k5 => q H5 (k.trans ((upd_grow ht).trans k5))⟩
    | false =>
      refine iteF ⟨_, rfl, v, s, rfl, hv, fun H1 k1 => ⟨_, rfl, v, s, rfl, hv.mono k1, fun H2 k2 => ⟨_, rfl, v, s, rfl, hv.mono (k1.trans k2), fun H3 k3 => ⟨_, rfl, v, s, rfl, hv.mono (k1.trans (k2.trans k3)), fun H4 k4 => ?_⟩⟩⟩⟩
      have k := k1.trans (k2.trans (k3.trans k4))
      refine ⟨two_ln (by show 4 ≤ 16777216; decide), fun t ht => asks_tail (s := s) (hv.mono (k.trans (upd_grow ht))) upd_same fun H5 k5 => q H5 (k.trans ((upd_grow ht).trans k5))⟩
end
end K01

namespace K01
open PySem PySem.Spec PyProof.Rows L2
theorem name_signs {a : Str} (h : nameS a = true) : ∀ c ∈ a.cps.toList, 97 ≤ c ∧ c ≤ 122 := fun c hc => by
  unfold nameS signs at h
  simp only [Bool.and_eq_true, decide_eq_true_eq, List.all_eq_true] at h
  exact h.2.2 c hc
theorem text_signs {a : Str} (h : textS a = true) : ∀ c ∈ a.cps.toList, 32 ≤ c ∧ c ≤ 126 := fun c hc => by
  unfold textS signs at h
  simp only [Bool.and_eq_true, decide_eq_true_eq, List.all_eq_true] at h
  exact h.2 c hc
theorem line_cps (a b : Str) : (a ++ (" " : Str) ++ b).cps.toList = a.cps.toList ++ 32 :: b.cps.toList := by
  show (a.cps ++ (" " : Str).cps ++ b.cps).toList = _
  rw [Array.toList_append, Array.toList_append]
  have e : (" " : Str).cps.toList = [32] := rfl
  rw [e, List.append_assoc] <;> rfl
theorem line_len (a b : Str) : (a ++ (" " : Str) ++ b).length = a.length + 1 + b.length := by
  rw [strLen_append, strLen_append] <;> rfl
theorem line_space {a b : Str} (h : nameS a = true) : (spaces (a ++ (" " : Str) ++ b)).head? = some a.length := by
  have la : a.cps.toList.length = a.length := by simp [Str.length]
  unfold spaces
  rw [List.head?_filter, List.find?_range_eq_some]
  refine ⟨?_, ?_, fun j hj => ?_⟩
  · rw [line_cps, List.getElem?_append_right (by omega), la, Nat.sub_self]
    exact decide_eq_true rfl
  · rw [List.mem_range, line_len]
    omega
  · have hj2 : j < a.cps.toList.length := by omega
    rw [line_cps, List.getElem?_append_left hj2, List.getElem?_eq_getElem hj2]
    have z := name_signs h _ (List.getElem_mem hj2)
    have n : ¬ (some a.cps.toList[j] = some 32) := fun e => by
      have e2 := Option.some.inj e
      omega
    rw [decide_eq_false n] <;> rfl
theorem line_cut {a b : Str} : cutS (a ++ (" " : Str) ++ b) none (some (a.length : Int)) = a ∧ cutS (a ++ (" " : Str) ++ b) (some ((a.length + 1 : Nat) : Int)) none = b := by
  have la : a.cps.toList.length = a.length := by simp [Str.length]
  have lb : b.cps.toList.length = b.length := by simp [Str.length]
  have ll := line_len a b
  constructor
  · apply str_eq
    unfold cutS
    rw [HT.sIx_nat, HT.sIx_none, line_cps, Nat.sub_zero, List.drop_zero]
    show List.take _ _ = _
    have e : min a.length (a ++ (" " : Str) ++ b).length = a.length := by omega
    rw [e, ← la, List.take_left]
  · apply str_eq
    unfold cutS
    rw [HT.sIx_nat, HT.sIx_none, line_cps]
    show List.take _ _ = _
    have e : min (a.length + 1) (a ++ (" " : Str) ++ b).length = a.length + 1 := by omega
    rw [e, ← la, ← List.drop_drop, List.drop_left]
    show List.take _ b.cps.toList = _
    rw [List.take_of_length_le (by omega)]
theorem line_read {a b : Str} (h1 : nameS a = true) (h2 : textS b = true) : readS (a ++ (" " : Str) ++ b) = some (a, b) := by
  unfold readS
  rw [line_space h1]
  show (if _ then _ else _) = _
  rw [line_cut.1, line_cut.2, h1, h2, Bool.and_true, if_pos rfl]
theorem line_tame {a b : Str} (h1 : nameS a = true) (h2 : textS b = true) : Tame (.str (a ++ (" " : Str) ++ b)) := by
  have l1 := name_len h1
  have l2 := text_len h2
  refine ⟨?_, rfl, (by show (0 : Nat) ≤ 32; omega), ?_⟩
  · simp only [asc]
    rw [line_cps]
    refine List.all_eq_true.mpr fun c hc => decide_eq_true ?_
    rcases List.mem_append.mp hc with hc | hc
    · have := name_signs h1 c hc
      omega
    · rcases List.mem_cons.mp hc with rfl | hc
      · decide
      · have := text_signs h2 c hc
        omega
  · simp only [wt]
    rw [line_len]
    omega
theorem strOk_of {z : Str} (h : ∀ c ∈ z.cps.toList, c ≤ 126) : PyData.strOk z = true := by
  unfold PyData.strOk
  rw [Array.all_eq_true']
  intro c hc
  have := h c (by simpa using hc)
  simp
  omega
theorem pair_shaped {a b : Str} (h1 : nameS a = true) (h2 : textS b = true) : SeqAt.shaped (.tuple [.str a, .str b]) = true := by
  have o1 : PyData.strOk a = true := strOk_of fun c hc => by
    have := name_signs h1 c hc
    omega
  have o2 : PyData.strOk b = true := strOk_of fun c hc => (text_signs h2 c hc).2
  unfold SeqAt.shaped
  simp [PyData.canLay0, PyData.canLayAll0, PyData.depth, PyData.depthAll, o1, o2]
theorem pair_eqv (a b : Str) : PyData.eqv (.tuple [.str a, .str b]) (.tuple [.str a, .str b]) = true := by
  simp [PyData.eqv, PyData.eqvAll]
theorem read_parts {z a b : Str} (h : readS z = some (a, b)) : nameS a = true ∧ textS b = true ∧ z = a ++ (" " : Str) ++ b := by
  unfold readS at h
  split at h
  · cases h
  · rename_i i hs
    split at h
    · rename_i c
      rw [Bool.and_eq_true] at c
      cases h
      refine ⟨c.1, c.2, ?_⟩
      have z1 := StrLaws.partition_sum z " "
      rw [part_some hs] at z1
      exact z1.symm
    · cases h
end K01

namespace K01
open PySem PySem.Spec PyProof.Rows L2
/-- all but what stands at p is kept -/
def But (p : Addr) (H H' : Hp) : Prop := ∀ b o, b ≠ p → H b = some o → H' b = some o
theorem But.of {p : Addr} {H H' : Hp} (k : Same H H') : But p H H' := fun b o _ e => k b o e
theorem But.trans {p : Addr} {H H1 H2 : Hp} (a : But p H H1) (b : But p H1 H2) : But p H H2 := fun c o hc e => b c o hc (a c o hc e)
theorem But.upd {p : Addr} {H : Hp} {o : HO} : But p H (L2.upd H p o) := fun b u hb e => by
  rw [upd_ne hb]
  exact e
theorem del_mono {p : Addr} {H H' : Hp} (k : Same H H') : Same (del H p) (del H' p) := fun b o e => by
  by_cases z : b = p
  · rw [z, del_same] at e
    cases e
  · rw [del_ne z] at e ⊢
    exact k b o e
theorem del_upd {p : Addr} {H : Hp} {o : HO} : Same (del H p) (L2.upd H p o) := fun b u e => by
  by_cases z : b = p
  · rw [z, del_same] at e
    cases e
  · rw [upd_ne z]
    rwa [del_ne z] at e
def isList : Sh → Prop
  | .dat (.list _) => True
  | _ => False
/-- what is known of a value that may be a list that grows, and of the end -/
def Fin (K : PySem.W.Frag) (v : V) (s : Sh) (H : Hp) (Q : VK) : Prop :=
  (¬ isList s ∧ ∀ H', Same H H' → Q (.bl true) H') ∨
    ∃ (p : Addr) (xs : List V) (ds : List PyData), v = .ref p ∧ s = .dat (.list ds) ∧ H p = some (.lst xs) ∧ RddAll (del H p) xs ds ∧ Tame (.list (ds ++ [.str "more"])) ∧ ∀ H', But p H H' → Q (.bl true) H'
theorem Fin.mono {K : PySem.W.Frag} {v : V} {s : Sh} {H H1 : Hp} {Q : VK} (k : Same H H1) (h : Fin K v s H Q) : Fin K v s H1 Q := by
  rcases h with ⟨n, q⟩ | ⟨p, xs, ds, e, e2, h, r, t, q⟩
  · exact .inl ⟨n, fun H' k' => q H' (k.trans k')⟩
  · exact .inr ⟨p, xs, ds, e, e2, k _ _ h, r.mono (del_mono k), t, fun H' k' => q H' ((But.of k).trans k')⟩
theorem Fin.done {K : PySem.W.Frag} {v : V} {s : Sh} {H : Hp} {Q : VK} (h : Fin K v s H Q) : Q (.bl true) H := by
  rcases h with ⟨n, q⟩ | ⟨p, xs, ds, e, e2, h, r, t, q⟩
  · exact q H (Same.refl H)
  · exact q H (But.of (Same.refl H))
theorem rdds_add {H : Hp} {v : V} {d : PyData} (h : Rdd H v d) : ∀ {xs : List V} {ds : List PyData}, RddAll H xs ds → RddAll H (xs ++ [v]) (ds ++ [d])
  | _, _, .nil => .cons h .nil
  | _, _, .cons r t => .cons r (rdds_add h t)
theorem wtAll_len : ∀ ds : List PyData, 2 * ds.length ≤ wtAll ds
  | [] => Nat.zero_le _
  | d :: ds => by
    have z := wtAll_len ds
    simp only [wtAll, List.length_cons]
    omega
inductive ViewL (K : PySem.W.Frag) (H : Hp) (v : V) (s : Sh) : Prop
  | oth (T : String) (x : TyX K H v (.type T)) (m : T ∈ tys) (n : T ≠ "list")
  | exc (a d : Addr) (e : v = .ref a) (ev : EvP [] H a (He.ga K "InvalidText") d [("given", .str "x")])
theorem Has.viewL {K : PySem.W.Frag} {H : Hp} {v : V} {s : Sh} (h : Has K H v s) (n : ¬ isList s) : ViewL K H v s := by
  cases s with
  | dat d =>
    obtain ⟨r, t⟩ := h
    cases r with
    | non => exact .oth _ (.base .non) (by decide) (by decide)
    | bl b => exact .oth _ (.base (.bl b)) (by decide) (by decide)
    | int i => exact .oth _ (.base (.int i)) (by decide) (by decide)
    | str x => exact .oth _ (.base (.str x)) (by decide) (by decide)
    | lst h r => exact absurd True.intro n
    | tup h r => exact .oth _ (.base (.tup h)) (by decide) (by decide)
    | dK h r1 r2 => exact .oth _ (.base (.dK h)) (by decide) (by decide)
  | exc =>
    obtain ⟨a, d, e, ev⟩ := h
    exact .exc a d e ev
  | mix a =>
    obtain ⟨p, e, rfl, h2, h3, h4⟩ := h
    exact .oth _ (.base (.tup h2)) (by decide) (by decide)
/-- if isinstance(value, list): value.append("more") -/
theorem grow_is {K : PySem.W.Frag} {ps : List Pin} {v : V} {s : Sh} {D : Ends} {σ : L2.St} {H : Hp} {Q : VK} (hσ : σ[0]? = some (some v)) (T : Kit K) (hv : Has K H v s) (pl : plain s) (fin : Fin K v s H Q)
    (q : ∀ H1 s1, (∀ d fs, H d = some (.xd fs) → H1 d = some (.xd fs)) → Has K H1 v s1 → plain s1 → (∀ H2, Same H1 H2 → Q (.bl true) H2) → D.nx σ H1) :
    tIfS (tB (tCB (fun xs H Q => rIsi K xs H Q ∨ rIsEv K ps xs H Q) (tCons (tVar 0) (tCons (tC (.ty "list")) tNil))))
      (tDrop (tBM K "list" rAppend (tVar 0) (tCons (tC (.str "more")) tNil))) tNext D σ H := by
  rcases fin with ⟨n, fin⟩ | ⟨p, xs, ds, rfl, rfl, h, r, t, fin⟩
  · rcases hv.viewL n with ⟨U, x, m, n2⟩ | ⟨a, d, rfl, ev⟩
    · exact ⟨_, hσ, .inl ⟨_, _, _, _, false, rfl, .ty _, x, T.no m (by decide) n2, false, rfl, iteF (q H s (fun _ _ e => e) hv pl fin)⟩⟩
    · exact ⟨_, hσ, .inr ⟨a, _, d, _, _, _, false, rfl, ev.mono (fun _ z => nomatch z) (fun _ _ z => z), T.E, .ty _, T.te "list" (by decide), false, rfl, iteF (q H s (fun _ _ e => e) hv pl fin)⟩⟩
  · refine ⟨_, hσ, .inl ⟨_, _, _, _, true, rfl, .ty _, .base (.lst h), T.yes (by decide) (by decide), true, rfl, iteT ?_⟩⟩
    have lx : xs.length < sizeLine := by
      have w := hv.2.w
      have l := rdds_len r
      have z := wtAll_len ds
      simp only [wt] at w
      rw [sizeLine_eq]
      omega
    refine ⟨_, hσ, .inl ⟨rfl, _, .inl (.inl h)⟩, p, _, _, rfl, rfl, h, lx, ?_⟩
    have r2 : RddAll (upd H p (.lst (xs ++ [.str "more"]))) (xs ++ [.str "more"]) (ds ++ [.str "more"]) := rdds_add (.str _) (r.mono del_upd)
    refine q _ (.dat (.list (ds ++ [.str "more"]))) (fun d fs e => ?_) ⟨.lst upd_same r2, t⟩ True.intro fun H2 k2 => fin H2 (But.upd.trans (But.of k2))
    have n : d ≠ p := ne_of e h (by intro z; cases z)
    rw [upd_ne n]
    exact e
end K01

namespace K01
open PySem PySem.Spec PyProof.Rows L2
abbrev sWritten : Stmt := top 36
abbrev sReadR : Stmt := top 37
theorem scWritten : FnScope ["value", "by_name", "told", "e"] ["value", "by_name"] (defScope sWritten) := ⟨rfl, rfl, rfl, by decide +kernel, rfl, by decide +kernel, by decide +kernel⟩
theorem scReadR : FnScope ["value", "by_name", "due", "told", "e", "part"] ["value", "by_name"] (defScope sReadR) := ⟨rfl, rfl, rfl, by decide +kernel, rfl, by decide +kernel, by decide +kernel⟩
theorem pss_mono {X : Cx} {st : List Stmt} {t u : TS} (h : PSs X st t) (k : ∀ D σ H, u D σ H → t D σ H) : PSs X st u := ⟨fun pins s σ H D I q => h.run pins s σ H D I (k _ _ _ q)⟩
theorem takes_none {X : Cx} : L2N.Takes X fun _ _ _ _ => False := fun _ _ ⟨_, _, _, _, _, _, _, _, _, _, _, _, _, _, _, _, w⟩ => w.elim
theorem pass_noneN {X : Cx} (σ : L2.St) : PassesAt (L2N.CX X.prog X.w) X σ fun _ _ _ => False := fun _ _ _ _ _ _ ⟨_, _, _, _, _, _, _, _, _, _, _, _, h⟩ => h.elim
/-- a class of the errors, as a clause names it -/
structure Err (K : PySem.W.Frag) (mg : Str → Option Value) (x : Str) : Prop where
  g : mg x = some (.ref (He.ga K x))
  exm : PySem.W.exmOne K (.ref (He.ga K x)) (.ref (He.ga K x)) = some true
  X : XfC K (He.ga K x)
  no : PySem.W.findIn K (.ref (He.ga K x)) "given" = some none
/-- what both laws of writing and reading call -/
structure Wr (P : Program) (w : World) (K : PySem.W.Frag) (mg : Str → Option Value) (base : Heap) (fW fR fL fS : Addr) (dW dR dL dS : FuncData) : Prop where
  gW : mg "line_text" = some (.ref fW)
  gR : mg "read_line" = some (.ref fR)
  gL : mg "_law_line_due" = some (.ref fL)
  gS : mg "_law_same" = some (.ref fS)
  FW : Fd K "line_text" sLineText fW dW
  FR : Fd K "read_line" sReadLine fR dR
  FL : Fd K "_law_line_due" sLineDue fL dL
  FS : Fd K "_law_same" sSame fS dS
  oW : FnOk P w K mg base (L2N.CX P w) 3 fW dW ["line"] (spLineText K)
  oR : FnOk P w K mg base (L2N.CX P w) 4 fR dR ["text"] (spReadLine K)
  oL : ∀ p, FnP P w K mg base 2 fL dL ["value"] p (spJ K lineB)
  oS : ∀ p, FnP P w K mg base 1 fS dS ["kept", "thing"] p (spSame K)
  pin : ∃ (a : Addr) (o : Obj), K.lookup a = some o ∧ ∀ v, o.data ≠ .cell v
def spWR (K : PySem.W.Frag) : Sp := fun vs H Q _ => ∃ (v : V) (s : Sh) (b : Bool), vs = [v, .bl b] ∧ Has K H v s ∧ plain s ∧ Fin K v s H Q
/-- the state in which the refusal of value is caught, e in slot i -/
def ReadyW (K : PySem.W.Frag) (a : Addr) (cls : Value) (d : Option Addr) : TS := fun D σ H =>
  ∃ (v : V) (s : Sh) (dd : Addr) (b : Bool) (told : Option V), σ = [some v, some (.bl b), told, some (.ref a)] ∧ cls = .ref (He.ga K "InvalidLine") ∧ d = some dd ∧ H dd = some (.xd [("given", v)]) ∧
    Has K H v s ∧ plain s ∧ lineB s = false ∧ Fin K v s H D.rt
abbrev rAddS : R2 := fun x y H Q => ∃ i j, x = V.str i ∧ y = V.str j ∧ i.length + j.length ≤ sizeLine ∧ Q (V.str (i ++ j)) H
/-- behind the try: value is a line -/
theorem written_tail {K : PySem.W.Frag} {v : V} {a b : Str} {c : Bool} {H : Hp} {Q : VK} {e : Option V} (T : Kit K) (hh : Has K H v (.dat (.tuple [.str a, .str b]))) (e1 : lineB (.dat (.tuple [.str a, .str b])) = true)
    (q : ∀ H', Same H H' → Q (.bl true) H') :
    tSeq (tIfS (tNot (tB (tCall (spJ K lineB) [] noE (tCons (tVar 0) tNil)))) (tRet (tC (V.bl false))) tNext)
      (tRet (tAndV (tCB (rIsi K) (tCons (tVar 2) (tCons (tC (V.ty "str")) tNil)))
        (tAndV (tOp rEq (tVar 2) (tOp rAddS (tOp rAddS (tOp (rIx K) (tVar 0) (tC (V.int 0))) (tC (V.str (Str.ofString " ")))) (tOp (rIx K) (tVar 0) (tC (V.int 1)))))
          (tOp (rEqD K) (tCallS (spReadLine K) (fun _ _ _ _ => False) (tCons (tVar 2) tNil)) (tVar 0)))))
      { nx := fun _ H' => Q .non H', rt := Q } [some v, some (.bl c), some (.str (a ++ (" " : Str) ++ b)), e] H := by
  obtain ⟨a2, b2, e2, na, tb⟩ := lineB_at e1
  cases e2
  refine ⟨_, rfl, v, _, rfl, hh, fun H1 k1 => ⟨true, congrArg V.bl e1, iteF ?_⟩⟩
  obtain ⟨r, t⟩ := hh.mono k1
  cases r with
  | tup h r =>
    rename_i p xs
    obtain ⟨x, y, rfl, r1, r2⟩ := rdds_two r
    cases r1
    cases r2
    have la := name_len na
    have lb := text_len tb
    refine ⟨_, rfl, _, _, _, _, true, rfl, .ty _, .base (.str _), T.yes (by decide) (by decide), true, rfl, iteT ?_⟩
    refine ⟨_, rfl, _, rfl, .inr (.inl ⟨p, _, 0, _, rfl, rfl, SqT.of h, rfl, a, _, rfl, rfl, ?_, ?_⟩)⟩
    · rw [sizeLine_eq, sp_len]
      show a.length + 1 ≤ _
      omega
    · refine ⟨_, rfl, .inr (.inl ⟨p, _, 1, _, rfl, rfl, SqT.of h, rfl, _, b, rfl, rfl, ?_, ?_⟩)⟩
      · rw [sizeLine_eq, strLen_append, sp_len]
        show a.length + 1 + b.length ≤ _
        omega
      · refine ⟨rfl, true, congrArg V.bl (decide_eq_true rfl), iteT ?_⟩
        have rd : readB (.dat (.str (a ++ (" " : Str) ++ b))) = some (a, b) := line_read na tb
        refine ⟨_, rfl, _, .dat (.str (a ++ (" " : Str) ++ b)), rfl, ⟨.str _, line_tame na tb⟩, (fun z => ?_), fun a3 b3 e3 p2 H3 k3 h3 => ?_⟩
        · rw [rd] at z
          cases z
        · rw [rd] at e3
          cases e3
          refine ⟨_, rfl, .tuple [.str a, .str b], .tuple [.str a, .str b], .tup (SqT.of h3) (.cons (.str _) (.cons (.str _) .nil)), .tup (SqT.of (k3 _ _ h)) (.cons (.str _) (.cons (.str _) .nil)), pair_shaped na tb, pair_shaped na tb, ?_⟩
          rw [pair_eqv]
          exact q H3 (k1.trans k3)
section
variable {P : Program} {w : World} {K : PySem.W.Frag} {mg : Str → Option Value} {base : Heap} {f fW fR fL fS : Addr} {fd dW dR dL dS : FuncData}
theorem ok_written (F : Fd K "_law_written_right" sWritten f fd) (L : Wr P w K mg base fW fR fL fS dW dR dL dS) (E1 : Err K mg "InvalidLine") (T : Kit K) (B : Blt2 mg) : FnG P w K mg base 5 f fd ["value", "by_name"] (spWR K) := by
  have bW : Binds K dW ["line"] [] := L.FW.bindsN fun _ _ _ _ _ _ us hl => match us, hl with | [_], _ => rfl
  have bR : Binds K dR ["text"] [] := L.FR.bindsN fun _ _ _ _ _ _ us hl => match us, hl with | [_], _ => rfl
  have bL : Binds K dL ["value"] [] := L.FL.bindsN fun _ _ _ _ _ _ us hl => match us, hl with | [_], _ => rfl
  have bS : Binds K dS ["kept", "thing"] [] := L.FS.bindsN fun _ _ _ _ _ _ us hl => match us, hl with | [_, _], _ => rfl
  have nW : KBn K dW ["line"] 0 ["line"] (fun us ws => us ++ ws) (fun vs zs => vs ++ zs) := L.FW.kbn0 0 ["line"] (fun us ws => us ++ ws) rel_app fun _ _ _ _ _ _ us ws l1 l2 => match us, ws, l1, l2 with | [], [_], _, _ => rfl
  obtain ⟨pa, po, hpo, hpc⟩ := L.pin
  have uL := (L.oL (pa, po)).ok hpo hpc
  refine F.okG scWritten (fun vs H Q E h => ?_) (fun cdv A outer s H vs Q hgd hr h => ?_)
  · obtain ⟨v, s, b, rfl, _⟩ := h
    rfl
  · have hu : (cxOf CX0 P w K mg base ["value", "by_name", "told", "e"] "_law_written_right" (defScope sWritten) f cdv A outer s H noE).A.units + 64 < cLine := by
      have z := hr.un
      show (A.deeper _).units + 64 < cLine
      omega
    refine ⟨_, pss_cons (L2N.ps_try_as (i := 3) (Wout := fun _ _ _ _ => False) (ts := ReadyW K)
        (tb := fun W => tAsg (tIf (tB (tVar 1)) (fun σ H Q => tVar 0 σ H fun v H1 => spLineText K [v] H1 Q (L2.WE W σ)) (tCallS (spLineText K) (L2.WE W) (tCons (tVar 0) tNil))) (gName 2))
        rfl rfl scWritten.nd rfl rfl ⟨by rfl, by decide, .inl E1.g⟩ takes_none
        (fun W pn xe tk _ => pss_one (ps_set (i := 2) scWritten.nd rfl (Or.inl rfl) (pe_ifExp (pt_val (pv 1))
          (by exact (pe_call1K (E := L2.WE W) L.oW (hr.mono (by decide)) (by rfl) L.gW L.FW.kp nW (fun σ => L2N.passAt tk σ) (pv 0)))
          (by exact (pe_callS L.oW (hr.mono (by decide)) (by rfl) L.gW L.FW.kp bW (fun σ => L2N.passAt tk σ) (pa_cons (pv 0) pa_nil))))))
        (fun a oe cls d pn hz hv => ?_))
      (pss_cons (ps_if (pt_not (pt_val (pe_callG uL hgd (hr.mono (by decide)) (by rfl) L.gL L.FL.kp bL (pa_cons (pv 0) pa_nil)))) (pss_one (ps_ret pe_bl)) pss_nil)
      (pss_one (ps_ret (pe_and (pe_callB call_isi (by rfl) B.isi boot_isinstance (pa_cons (pv 2) (pa_cons (pe_bltn (by rfl) B.str (by decide +kernel) (v := .ty "str") rfl) pa_nil)))
        (pe_and (pe_cmpR op_eq (pv 2) (pe_op op_add_str (pe_op op_add_str (pe_ix ix_seq (pv 0) pe_int fun _ _ => rfl) pe_str) (pe_ix ix_seq (pv 0) pe_int fun _ _ => rfl)) (nomark _))
        (pe_one (pe_cmpR (op_eqD hu) (pe_callS (E := fun _ _ _ _ => False) L.oR hr (by rfl) L.gR L.FR.kp bR pass_noneN (pa_cons (pv 2) pa_nil)) (pv 0) (nomark _)))))))), ?_⟩
    · -- the clause
      have wc : WarmC ((cxOf CX0 P w K mg base ["value", "by_name", "told", "e"] "_law_written_right" (defScope sWritten) f cdv A outer s H noE).suite a ((a, oe) :: pn)) (a, oe) := by
        obtain ⟨z1, z2, z3⟩ := hz
        obtain ⟨fv, hv⟩ := hv
        exact ⟨List.mem_cons_self, hgd, .inr ⟨rfl, fv, hv, z3 _ hv⟩⟩
      have hrH : L2H.RoomH 4 ((cxOf CX0 P w K mg base ["value", "by_name", "told", "e"] "_law_written_right" (defScope sWritten) f cdv A outer s H noE).suite a ((a, oe) :: pn)).A := L2H.roomH_mark hr _
      have hps : ∀ q ∈ [(a, oe)], q ∈ ((cxOf CX0 P w K mg base ["value", "by_name", "told", "e"] "_law_written_right" (defScope sWritten) f cdv A outer s H noE).suite a ((a, oe) :: pn)).pn := fun q hq => by
        rw [List.mem_singleton.mp hq]
        exact List.mem_cons_self
      refine pss_mono (pss_cons (ps_if (pw_or (pt_val (pe_callP (L.oL (a, oe)) wc (hrH.mono (by decide)) (by rfl) L.gL L.FL.kp bL (pa_cons (pv 0) pa_nil)))
          (pw_or1 (pt_not (pt_val (pe_callP (L.oS (a, oe)) wc (hrH.mono (by decide)) (by rfl) L.gS L.FS.kp bS (pa_cons (pe_evF hps (pv 3)) (pa_cons (pv 0) pa_nil))))))).pt (pss_one (ps_ret pe_bl)) pss_nil)
        (pss_cons (ps_if (pt_val (pe_callB (call_isi.or (call_isEv hps)) (by rfl) B.isi boot_isinstance (pa_cons (pv 0) (pa_cons (pe_bltn (by rfl) B.lst (by decide +kernel) (v := .ty "list") rfl) pa_nil))))
          (pss_one (ps_expr (pe_bm PySem.F.plainAttrs_list PySem.F.slot_list_append PySem.F.type_list_append mt_append (pv 0) (pa_cons pe_str pa_nil)))) pss_nil)
        (pss_one (ps_ret (pe_callP (L.oS (a, oe)) wc (hrH.mono (by decide)) (by rfl) L.gS L.FS.kp bS (pa_cons (pe_evF hps (pv 3)) (pa_cons (pv 0) pa_nil))))))) fun D σ H1 h => ?_
      obtain ⟨v, s1, dd, b, told, rfl, rfl, rfl, hdd, hh, pl, nl, fin⟩ := h
      have ev : ∀ {H'}, H' dd = some (.xd [("given", v)]) → EvP [(a, oe)] H' a (He.ga K "InvalidLine") dd [("given", v)] := fun e => ⟨.inr ⟨oe, List.mem_cons_self, hz.1, hz.2.1, hv⟩, .inr e⟩
      refine ⟨_, rfl, v, s1, rfl, hh, fun H2 k2 => ⟨false, congrArg V.bl nl, iteF ?_⟩⟩
      refine ⟨_, rfl, a, _, dd, _, v, rfl, ev (k2 _ _ hdd), E1.X, E1.no, rfl, _, rfl, v, s1, rfl, hh.mono k2, pl, fun H3 k3 => ⟨true, rfl, iteF ?_⟩⟩
      refine grow_is (s := s1) rfl T (hh.mono (k2.trans k3)) pl (fin.mono (k2.trans k3)) fun H4 s4 kx h4 p4 end4 => ?_
      exact ⟨_, rfl, a, _, dd, _, v, rfl, ev (kx _ _ (k3 _ _ (k2 _ _ hdd))), E1.X, E1.no, rfl, _, rfl, v, s4, rfl, h4, p4, end4⟩
    · obtain ⟨v, s1, b, rfl, hh, pl, fin⟩ := h
      have no : ∀ {σ : L2.St} {D : Ends}, D.rt = Q → σ = [some v, some (.bl b), none, none] → lineB s1 = false → Refuses K "InvalidLine" v H fun cls d H' => wAs K (.ref (He.ga K "InvalidLine")) 3 (ReadyW K) (fun _ _ _ _ => False) D cls d σ H' := by
        intro σ D eD eσ e1 d H1 k1 h1
        subst eσ
        refine ⟨true, E1.exm, fun _ a ha => ⟨v, s1, d, b, none, rfl, rfl, rfl, h1, hh.mono k1, pl, e1, ?_⟩, fun z => nomatch z⟩
        show Fin K v s1 H1 D.rt
        rw [eD]
        exact fin.mono k1
      refine ⟨_, rfl, b, rfl, ?_⟩
      cases b with
      | true =>
        refine iteT ⟨_, rfl, v, s1, rfl, hh, no rfl rfl, fun a b2 hs e1 H1 k1 => ?_⟩
        subst hs
        exact written_tail T (hh.mono k1) e1 fun H2 k2 => (fin.mono (k1.trans k2)).done
      | false =>
        refine iteF ⟨_, rfl, v, s1, rfl, hh, no rfl rfl, fun a b2 hs e1 H1 k1 => ?_⟩
        subst hs
        exact written_tail T (hh.mono k1) e1 fun H2 k2 => (fin.mono (k1.trans k2)).done
end
end K01

namespace K01
open PySem PySem.Spec PyProof.Rows L2
/-- the state in which the refusal of a text is caught -/
def ReadyR (K : PySem.W.Frag) (a : Addr) (cls : Value) (d : Option Addr) : TS := fun D σ H =>
  ∃ (v : V) (s : Sh) (dd : Addr) (b : Bool) (told part : Option V), σ = [some v, some (.bl b), some .non, told, some (.ref a), part] ∧ cls = .ref (He.ga K "InvalidText") ∧ d = some dd ∧ H dd = some (.xd [("given", v)]) ∧
    Has K H v s ∧ plain s ∧ Fin K v s H D.rt
/-- behind the try: the text is a line's -/
theorem read_tail {K : PySem.W.Frag} {z a b : Str} {c : Bool} {pd pt : Addr} {H : Hp} {Q : VK} {e g : Option V} (T : Kit K) (rd : readS z = some (a, b)) (hd : H pd = some (.tup [.str a, .str b])) (ht : H pt = some (.tup [.str a, .str b]))
    (q : ∀ H', Same H H' → Q (.bl true) H') :
    tSeq (tIfS (tOr (tTest (tOp (fun x y H Q => y = V.non ∧ Q (.bl (decide (x = V.non))) H) (tVar 2) (tC .non))) (tOr (tNot (tB (tCB (rIsi K) (tCons (tVar 3) (tCons (tC (V.ty "tuple")) tNil))))) (tTest (tOp (rNeD K) (tVar 3) (tVar 2)))))
        (tRet (tC (V.bl false))) tNext)
      (tRet (tAndV (tOp (rEqV K) (tLc (iTup K (tVar 3)) (gName 5) (tNot (tB (tCB (rIsi K) (tCons (tVar 5) (tCons (tC (V.ty "str")) tNil))))) (tVar 5) [5]) (tLst tNil))
        (tOp rEq (tCallS (spLineText K) (fun _ _ _ _ => False) (tCons (tVar 3) tNil)) (tVar 0))))
      { nx := fun _ H' => Q .non H', rt := Q } [some (.str z), some (.bl c), some (.ref pd), some (.ref pt), e, g] H := by
  obtain ⟨na, tb, rfl⟩ := read_parts rd
  refine ⟨_, rfl, rfl, false, congrArg V.bl (decide_eq_false fun y => nomatch y), iteF ?_⟩
  refine ⟨_, rfl, _, _, _, _, true, rfl, .ty _, .base (.tup ht), T.yes (by decide) (by decide), true, rfl, iteF ?_⟩
  refine ⟨_, rfl, _, rfl, .tuple [.str a, .str b], .tuple [.str a, .str b], .tup (SqT.of ht) (.cons (.str _) (.cons (.str _) .nil)), .tup (SqT.of hd) (.cons (.str _) (.cons (.str _) .nil)), pair_shaped na tb, pair_shaped na tb,
    false, congrArg (fun b => V.bl (!b)) (pair_eqv a b), iteF ?_⟩
  refine ⟨_, rfl, _, rfl, ⟨_, SqT.of ht⟩, fun D hD => lc_it (walk_tup (K := K) (a := pt) (xs := [.str a, .str b])) (fun i H' => Same H H' ∧ H' D = some (.lst [])) ⟨upd_grow hD, upd_same⟩ (fun _ H' _ ⟨k, _⟩ => SqT.of (k _ _ ht)) ?_ ?_⟩
  · rintro i x H1 H2 hi ⟨k1, h1⟩ ⟨rfl, hx⟩
    obtain ⟨y, rfl⟩ : ∃ y, x = V.str y := match i, hi, hx with
      | 0, _, hx => ⟨a, (Option.some.inj hx).symm⟩
      | 1, _, hx => ⟨b, (Option.some.inj hx).symm⟩
    exact ⟨rfl, _, rfl, _, _, _, _, true, rfl, .ty _, .base (.str y), T.yes (by decide) (by decide), true, rfl, iteF ⟨k1, h1⟩⟩
  · rintro H1 ⟨k1, h1⟩
    refine ⟨two_ln (by show 0 ≤ 16777216; decide), fun r hr => ⟨1, by decide, .inl ⟨D, r, [], [], rfl, rfl, SqL.of (upd_grow hr _ _ h1), SqL.of upd_same, .nil⟩, true, rfl, iteT ?_⟩⟩
    have k2 := k1.trans (upd_grow (o := .lst []) hr)
    generalize upd H1 r (.lst []) = H2 at k2
    have e1 : lineB (.dat (.tuple [.str a, .str b])) = true := by
      show (nameS a && textS b) = true
      rw [na, tb] <;> rfl
    have tp : Tame (.tuple [.str a, .str b]) := by
      have z := pair_tame (line_tame na tb) (i := a.length) (by rw [line_len]; omega)
      rwa [line_cut.1, line_cut.2] at z
    refine ⟨_, rfl, _, .dat (.tuple [.str a, .str b]), rfl, ⟨.tup (k2 _ _ ht) (.cons (.str _) (.cons (.str _) .nil)), tp⟩, (fun z => ?_), fun a3 b3 e3 _ H3 k3 => ?_⟩
    · rw [e1] at z
      cases z
    · cases e3
      refine ⟨_, rfl, rfl, ?_⟩
      rw [decide_eq_true rfl]
      exact q H3 (k2.trans k3)
section
variable {P : Program} {w : World} {K : PySem.W.Frag} {mg : Str → Option Value} {base : Heap} {f fW fR fL fS fD : Addr} {fd dW dR dL dS dD : FuncData}
theorem ok_readR (F : Fd K "_law_read_right" sReadR f fd) (FD : Fd K "_law_read_due" sReadDue fD dD) (oD : ∀ p, FnP P w K mg base 3 fD dD ["value"] p (spReadDue K)) (gD : mg "_law_read_due" = some (.ref fD))
    (L : Wr P w K mg base fW fR fL fS dW dR dL dS) (E1 : Err K mg "InvalidText") (T : Kit K) (B : Blt2 mg) : FnG P w K mg base 5 f fd ["value", "by_name"] (spWR K) := by
  have bW : Binds K dW ["line"] [] := L.FW.bindsN fun _ _ _ _ _ _ us hl => match us, hl with | [_], _ => rfl
  have bR : Binds K dR ["text"] [] := L.FR.bindsN fun _ _ _ _ _ _ us hl => match us, hl with | [_], _ => rfl
  have bD : Binds K dD ["value"] [] := FD.bindsN fun _ _ _ _ _ _ us hl => match us, hl with | [_], _ => rfl
  have bS : Binds K dS ["kept", "thing"] [] := L.FS.bindsN fun _ _ _ _ _ _ us hl => match us, hl with | [_, _], _ => rfl
  have nR : KBn K dR ["text"] 0 ["text"] (fun us ws => us ++ ws) (fun vs zs => vs ++ zs) := L.FR.kbn0 0 ["text"] (fun us ws => us ++ ws) rel_app fun _ _ _ _ _ _ us ws l1 l2 => match us, ws, l1, l2 with | [], [_], _, _ => rfl
  obtain ⟨pa, po, hpo, hpc⟩ := L.pin
  have uD := (oD (pa, po)).ok hpo hpc
  refine F.okG scReadR (fun vs H Q E h => ?_) (fun cdv A outer s H vs Q hgd hr h => ?_)
  · obtain ⟨v, s, b, rfl, _⟩ := h
    rfl
  · have hu : (cxOf CX0 P w K mg base ["value", "by_name", "due", "told", "e", "part"] "_law_read_right" (defScope sReadR) f cdv A outer s H noE).A.units + 64 < cLine := by
      have z := hr.un
      show (A.deeper _).units + 64 < cLine
      omega
    refine ⟨_, pss_cons (ps_set (i := 2) scReadR.nd rfl (Or.inl rfl) (pe_callG uD hgd (hr.mono (by decide)) (by rfl) gD FD.kp bD (pa_cons (pv 0) pa_nil)))
      (pss_cons (L2N.ps_try_as (i := 4) (Wout := fun _ _ _ _ => False) (ts := ReadyR K)
        (tb := fun W => tAsg (tIf (tB (tVar 1)) (fun σ H Q => tVar 0 σ H fun v H1 => spReadLine K [v] H1 Q (L2.WE W σ)) (tCallS (spReadLine K) (L2.WE W) (tCons (tVar 0) tNil))) (gName 3))
        rfl rfl scReadR.nd rfl rfl ⟨by rfl, by decide, .inl E1.g⟩ takes_none
        (fun W pn xe tk _ => pss_one (ps_set (i := 3) scReadR.nd rfl (Or.inl rfl) (pe_ifExp (pt_val (pv 1))
          (by exact (pe_call1K (E := L2.WE W) L.oR hr (by rfl) L.gR L.FR.kp nR (fun σ => L2N.passAt tk σ) (pv 0)))
          (by exact (pe_callS L.oR hr (by rfl) L.gR L.FR.kp bR (fun σ => L2N.passAt tk σ) (pa_cons (pv 0) pa_nil))))))
        (fun a oe cls d pn hz hv => ?_))
      (pss_cons (ps_if (pw_or (pt_cmpR op_isN (pv 2) pe_non (nomark _)) (pw_or (pt_not (pt_val (pe_callB call_isi (by rfl) B.isi boot_isinstance (pa_cons (pv 3) (pa_cons (pe_bltn (by rfl) B.tup (by decide +kernel) (v := .ty "tuple") rfl) pa_nil)))))
          (pw_or1 (pt_cmpR (op_neD hu) (pv 3) (pv 2) (nomark _))))).pt (pss_one (ps_ret pe_bl)) pss_nil)
      (pss_one (ps_ret (pe_and (pe_cmpR (op_eqV hu) (pe_lc (own := [("part", 5)]) (g := gName 5) rfl scReadR.nd (pi_tup (pv 3))
          (blkOk_by (N := ["value", "by_name", "due", "told", "e", "part"]) (sc := defScope sReadR) (by decide +kernel)) (fun _ _ _ _ _ => pg_name (i := 5) scReadR.nd rfl (Or.inl rfl))
          (fun _ _ _ _ _ => pts_one (pt_not (pt_val (pe_callB (r := rIsi K) (by exact call_isi) (by rfl) B.isi boot_isinstance (pa_cons (pv 5) (pa_cons (pe_bltn (by rfl) B.str (by decide +kernel) (v := .ty "str") rfl) pa_nil)))))) (fun _ _ _ _ _ => pv 5)) (pe_lst pa_nil) (nomark _))
        (pe_one (pe_cmpR op_eq (pe_callS (E := fun _ _ _ _ => False) L.oW (hr.mono (by decide)) (by rfl) L.gW L.FW.kp bW pass_noneN (pa_cons (pv 3) pa_nil)) (pv 0) (nomark _)))))))), ?_⟩
    · -- the clause
      have wc : WarmC ((cxOf CX0 P w K mg base ["value", "by_name", "due", "told", "e", "part"] "_law_read_right" (defScope sReadR) f cdv A outer s H noE).suite a ((a, oe) :: pn)) (a, oe) := by
        obtain ⟨z1, z2, z3⟩ := hz
        obtain ⟨fv, hv⟩ := hv
        exact ⟨List.mem_cons_self, hgd, .inr ⟨rfl, fv, hv, z3 _ hv⟩⟩
      have hrH : L2H.RoomH 4 ((cxOf CX0 P w K mg base ["value", "by_name", "due", "told", "e", "part"] "_law_read_right" (defScope sReadR) f cdv A outer s H noE).suite a ((a, oe) :: pn)).A := L2H.roomH_mark hr _
      have hps : ∀ q ∈ [(a, oe)], q ∈ ((cxOf CX0 P w K mg base ["value", "by_name", "due", "told", "e", "part"] "_law_read_right" (defScope sReadR) f cdv A outer s H noE).suite a ((a, oe) :: pn)).pn := fun q hq => by
        rw [List.mem_singleton.mp hq]
        exact List.mem_cons_self
      refine pss_mono (pss_cons (ps_if (pw_or (pt_cmpR op_notN (pv 2) pe_non (nomark _))
          (pw_or1 (pt_not (pt_val (pe_callP (L.oS (a, oe)) wc (hrH.mono (by decide)) (by rfl) L.gS L.FS.kp bS (pa_cons (pe_evF hps (pv 4)) (pa_cons (pv 0) pa_nil))))))).pt (pss_one (ps_ret pe_bl)) pss_nil)
        (pss_cons (ps_if (pt_val (pe_callB (call_isi.or (call_isEv hps)) (by rfl) B.isi boot_isinstance (pa_cons (pv 0) (pa_cons (pe_bltn (by rfl) B.lst (by decide +kernel) (v := .ty "list") rfl) pa_nil))))
          (pss_one (ps_expr (pe_bm PySem.F.plainAttrs_list PySem.F.slot_list_append PySem.F.type_list_append mt_append (pv 0) (pa_cons pe_str pa_nil)))) pss_nil)
        (pss_one (ps_ret (pe_callP (L.oS (a, oe)) wc (hrH.mono (by decide)) (by rfl) L.gS L.FS.kp bS (pa_cons (pe_evF hps (pv 4)) (pa_cons (pv 0) pa_nil))))))) fun D σ H1 h => ?_
      obtain ⟨v, s1, dd, b, told, part, rfl, rfl, rfl, hdd, hh, pl, fin⟩ := h
      have ev : ∀ {H'}, H' dd = some (.xd [("given", v)]) → EvP [(a, oe)] H' a (He.ga K "InvalidText") dd [("given", v)] := fun e => ⟨.inr ⟨oe, List.mem_cons_self, hz.1, hz.2.1, hv⟩, .inr e⟩
      refine ⟨_, rfl, rfl, false, congrArg (fun b => V.bl (!b)) (decide_eq_true rfl), iteF ?_⟩
      refine ⟨_, rfl, a, _, dd, _, v, rfl, ev hdd, E1.X, E1.no, rfl, _, rfl, v, s1, rfl, hh, pl, fun H3 k3 => ⟨true, rfl, iteF ?_⟩⟩
      refine grow_is (s := s1) rfl T (hh.mono k3) pl (fin.mono k3) fun H4 s4 kx h4 p4 end4 => ?_
      exact ⟨_, rfl, a, _, dd, _, v, rfl, ev (kx _ _ (k3 _ _ hdd)), E1.X, E1.no, rfl, _, rfl, v, s4, rfl, h4, p4, end4⟩
    · obtain ⟨v, s1, b, rfl, hh, pl, fin⟩ := h
      refine ⟨_, rfl, v, s1, rfl, hh, fun e1 H1 k1 => ?_, fun a b2 e1 pd H1 k1 hd => ?_⟩
      · have no : ∀ {σ : L2.St} {D : Ends}, D.rt = Q → σ = [some v, some (.bl b), some .non, none, none, none] → Refuses K "InvalidText" v H1 fun cls d H' => wAs K (.ref (He.ga K "InvalidText")) 4 (ReadyR K) (fun _ _ _ _ => False) D cls d σ H' := by
          intro σ D eD eσ d H2 k2 h2
          subst eσ
          refine ⟨true, E1.exm, fun _ a ha => ⟨v, s1, d, b, none, none, rfl, rfl, rfl, h2, hh.mono (k1.trans k2), pl, ?_⟩, fun z => nomatch z⟩
          show Fin K v s1 H2 D.rt
          rw [eD]
          exact fin.mono (k1.trans k2)
        refine ⟨_, rfl, b, rfl, ?_⟩
        cases b with
        | true => exact iteT ⟨_, rfl, v, s1, rfl, hh.mono k1, (fun _ => no rfl rfl), fun a b2 e2 => by rw [e1] at e2; cases e2⟩
        | false => exact iteF ⟨_, rfl, v, s1, rfl, hh.mono k1, (fun _ => no rfl rfl), fun a b2 e2 => by rw [e1] at e2; cases e2⟩
      · obtain ⟨z, rfl, rfl⟩ : ∃ z, v = .str z ∧ s1 = .dat (.str z) := by
          cases s1 with
          | dat d =>
            cases d with
            | str z =>
              obtain ⟨r, _⟩ := hh
              cases r
              exact ⟨z, rfl, rfl⟩
            | _ => cases e1
          | _ => cases e1
        refine ⟨_, rfl, b, rfl, ?_⟩
        have tail : ∀ (c : Bool) (pt : Addr) (H2 : Hp), Same H1 H2 → H2 pt = some (.tup [.str a, .str b2]) → _ := fun c pt H2 k2 h2 => read_tail (c := c) (e := none) (g := none) T e1 (k2 _ _ hd) h2 fun H3 k3 => (fin.mono (k1.trans (k2.trans k3))).done
        cases b with
        | true =>
          refine iteT ⟨_, rfl, _, _, rfl, hh.mono k1, (fun e2 => by rw [e1] at e2; cases e2), fun a3 b3 e3 pt H2 k2 h2 => ?_⟩
          rw [e1] at e3
          cases e3
          exact tail true pt H2 k2 h2
        | false =>
          refine iteF ⟨_, rfl, _, _, rfl, hh.mono k1, (fun e2 => by rw [e1] at e2; cases e2), fun a3 b3 e3 pt H2 k2 h2 => ?_⟩
          rw [e1] at e3
          cases e3
          exact tail false pt H2 k2 h2
end
end K01

namespace K01
open PySem PySem.Spec PyProof.Rows L2
abbrev sCell : Stmt := top 20
abbrev sBox : Stmt := top 21
abbrev sTake : Stmt := top 22
theorem scCell : FnScope ["script", "k"] ["script", "k"] (defScope sCell) := ⟨rfl, rfl, rfl, by decide +kernel, rfl, by decide +kernel, by decide +kernel⟩
theorem scBox : FnScope ["great"] ["great"] (defScope sBox) := ⟨rfl, rfl, rfl, by decide +kernel, rfl, by decide +kernel, by decide +kernel⟩
theorem scTake : FnScope ["box", "many", "digit", "mixed"] ["box", "many"] (defScope sTake) := ⟨rfl, rfl, rfl, by decide +kernel, rfl, by decide +kernel, by decide +kernel⟩
/-- the built-in names that the text uses -/
structure BltT (mg : Str → Option Value) : Prop where
  len : mg "len" = none
  sum : mg "sum" = none
  abs : mg "abs" = none
  int : mg "int" = none
/-- the state of the draws -/
def Box (c : Nat) (xs : List V) : Prop := ∃ (g : Int) (b : Bool) (m k : Int), xs = [.int g, .bl b, .int m, .int k] ∧ 0 ≤ g ∧ 0 ≤ m ∧ m < 2147483629 ∧ 0 ≤ k ∧ k ≤ c
def spCell (K : PySem.W.Frag) : Sp := fun vs H Q _ => ∃ (l : Addr) (ns : List Int) (k : Int), vs = [.ref l, .int k] ∧ SqL K H l (ns.map V.int) ∧ 0 ≤ k ∧ k < 100 ∧
  ∀ (n : Int) H', Same H H' → Q (.int n) H'
def spBox : Sp := fun vs H Q _ => ∃ g : Int, vs = [.int g] ∧ ∀ p xs, H p = none → Box 0 xs → Q (.ref p) (upd H p (.lst xs))
def spTake : Sp := fun vs H Q _ => ∃ (p : Addr) (many : Int) (xs : List V) (c : Nat), vs = [.ref p, .int many] ∧ H p = some (.lst xs) ∧ Box c xs ∧ c < 1000 ∧ 1 ≤ many ∧ many ≤ 128 ∧
  ∀ (d : Int) ys, 0 ≤ d → d < many → Box (c + 1) ys → Q (.int d) (upd H p (.lst ys))
section
variable {P : Program} {w : World} {K : PySem.W.Frag} {mg : Str → Option Value} {base : Heap} {f : Addr} {fd : FuncData}
theorem ok_cell (F : Fd K "_law_cell" sCell f fd) (B : BltT mg) : FnOk P w K mg base CX0 1 f fd ["script", "k"] (spCell K) := by
  refine F.ok scCell (fun vs H Q E h => ?_) (fun cdv A outer s H vs Q E hr h => ?_)
  · obtain ⟨l, ns, k, rfl, _⟩ := h
    rfl
  · refine ⟨_, pss_one (ps_ret (pe_ifExp (pt_cmp (pc_lt (pv 1) (pe_callB call_len (by rfl) B.len boot_len (pa_cons (pv 0) pa_nil))))
      (pe_ix ix_seq (pv 0) (pv 1) fun _ _ => rfl)
      (pe_op op_add (pe_op op_mul pe_int (pv 1)) (pe_op op_mod (pe_callB (cr_sum rfl) (by rfl) B.sum boot_sum (pa_cons (pe_slice sl_list (pv 0) po_none (po_some pe_int)) pa_nil)) pe_int)))), ?_⟩
    obtain ⟨l, ns, k, rfl, hs, h0, h1, q⟩ := h
    refine ⟨_, rfl, _, rfl, _, _, rfl, .inl ⟨_, hs, rfl⟩, _, _, rfl, rfl, _, rfl, ?_⟩
    have el : ((List.map V.int ns).length : Int) = (ns.length : Int) := by
      rw [List.length_map]
    refine ite2 (fun c => ?_) (fun c => ?_)
    · have c := of_decide_eq_true c
      rw [el] at c
      have hk : k.toNat < ns.length := by omega
      have ha : atI (ns.map V.int) k = some (V.int ns[k.toNat]) := by
        unfold atI ixN
        rw [if_pos h0, if_pos (by rw [List.length_map]; omega)]
        show (ns.map V.int)[k.toNat]? = _
        rw [List.getElem?_map, List.getElem?_eq_getElem hk] <;> rfl
      exact ⟨_, rfl, _, rfl, .inl ⟨l, _, k, _, rfl, rfl, hs, ha, q _ H (Same.refl H)⟩⟩
    · refine ⟨_, rfl, _, _, rfl, rfl, .inl ⟨by decide, by decide⟩, _, rfl, 1, rfl, l, _, rfl, hs, fun p hp => ?_⟩
      have ec : cutV (ns.map V.int) none (some 1) = (ns.take 1).map V.int := by
        cases ns with
        | nil => rfl
        | cons a r =>
          simp [cutV, HT.sIx]
      refine ⟨p, ns.take 1, rfl, ?_, _, _, rfl, rfl, (by show (0 : Int) < 1000033; decide), _, _, rfl, rfl, q _ _ fun b o e => ?_⟩
      · rw [ec]
        exact SqL.of upd_same
      · rw [upd_ne (ne_of_none e hp)]
        exact e
/-- the bounds of the draws -/
theorem ok_box (F : Fd K "_law_box" sBox f fd) (B : BltT mg) : FnOk P w K mg base CX0 1 f fd ["great"] spBox := by
  refine F.ok scBox (fun vs H Q E h => ?_) (fun cdv A outer s H vs Q E hr h => ?_)
  · obtain ⟨g, rfl, _⟩ := h
    rfl
  · refine ⟨_, pss_one (ps_ret (pe_lst (pa_cons (pe_callB call_abs (by rfl) B.abs (by decide +kernel) (pa_cons (pv 0) pa_nil))
      (pa_cons (pe_cmpR op_ge (pe_callB call_abs (by rfl) B.abs (by decide +kernel) (pa_cons (pv 0) pa_nil)) (pe_op op_pow pe_int pe_int) (nomark _))
      (pa_cons (pe_op op_mod (pe_callTy call_int1 (by rfl) B.int (by decide +kernel) (pa_cons (pe_callB call_abs (by rfl) B.abs (by decide +kernel) (pa_cons (pv 0) pa_nil)) pa_nil)) pe_int)
      (pa_cons pe_int pa_nil)))))), ?_⟩
    obtain ⟨g, rfl, q⟩ := h
    refine ⟨_, rfl, _, rfl, _, rfl, _, rfl, _, _, rfl, rfl, ⟨by decide, by decide, by decide⟩, _, _, rfl, rfl, ?_⟩
    refine ⟨_, rfl, _, rfl, .inl ⟨_, rfl, _, _, rfl, rfl, (by show (0 : Int) < 2147483629; decide), ?_⟩⟩
    refine ⟨by show 4 ≤ sizeLine; rw [sizeLine_eq]; decide, fun p hp => q p _ hp ⟨_, _, _, _, rfl, ?_, ?_, ?_, Int.le_refl _, Int.le_refl _⟩⟩
    · split <;> omega
    · exact Int.emod_nonneg _ (by decide)
    · exact Int.emod_lt_of_pos _ (by decide)
theorem ok_take (F : Fd K "_law_take" sTake f fd) (B : BltT mg) : FnOk P w K mg base CX0 1 f fd ["box", "many"] spTake := by
  refine F.ok scTake (fun vs H Q E h => ?_) (fun cdv A outer s H vs Q E hr h => ?_)
  · obtain ⟨p, many, xs, c, rfl, _⟩ := h
    rfl
  · refine ⟨_, pss_cons (ps_if (pw_and (pt_val (pe_ix ix_seq (pv 0) pe_int fun _ _ => rfl)) (pw_and1 (pt_cmpR op_gt (pe_ix ix_seq (pv 0) pe_int fun _ _ => rfl) pe_int (nomark _)))).pt
        (pss_cons (ps_set (i := 2) scTake.nd rfl (Or.inl rfl) (pe_op op_mod (pe_callTy call_int1 (by rfl) B.int (by decide +kernel) (pa_cons (pe_ix ix_seq (pv 0) pe_int fun _ _ => rfl) pa_nil)) (pv 1)))
        (pss_cons (ps_asg (pe_op op_fdiv (pe_ix ix_seq (pv 0) pe_int fun _ _ => rfl) (pv 1)) (pg_sub (pv 0) pe_int set_list fun _ => rfl))
        (pss_one (ps_ret (pv 2))))) pss_nil)
      (pss_cons (ps_asg (pe_op op_add (pe_ix ix_seq (pv 0) pe_int fun _ _ => rfl) pe_int) (pg_sub (pv 0) pe_int set_list fun _ => rfl))
      (pss_cons (ps_set (i := 3) scTake.nd rfl (Or.inl rfl) (pe_op op_mod (pe_callTy call_int1 (by rfl) B.int (by decide +kernel) (pa_cons (pe_op op_pow (pe_op op_add (pe_op op_add (pe_ix ix_seq (pv 0) pe_int fun _ _ => rfl)
          (pe_op op_mul pe_int (pe_ix ix_seq (pv 0) pe_int fun _ _ => rfl))) pe_int) pe_int) pa_nil)) pe_int))
      (pss_one (ps_ret (pe_op op_mod (pe_op op_fdiv (pe_op op_mod (pe_callTy call_int1 (by rfl) B.int (by decide +kernel) (pa_cons (pe_op op_pow (pe_op op_add (pe_op op_mul (pv 3) pe_int)
          (pe_op op_mul pe_int (pe_ix ix_seq (pv 0) pe_int fun _ _ => rfl))) pe_int) pa_nil)) pe_int) pe_int) (pv 1)))))), ?_⟩
    obtain ⟨p, many, xs, c, rfl, hp, ⟨g, b, m, k, rfl, b1, b2, b3, b4, b5⟩, hc, m1, m2, q⟩ := h
    have big : sizeLine = 16777216 := sizeLine_eq
    -- the second way
    have last : tSeq (tAsg (tOp (rI0 fun i j => V.int (i + j)) (tOp (rIx K) (tVar 0) (tC (V.int 3))) (tC (V.int 1))) (gSub (tVar 0) (tC (V.int 3)) rSetL))
        (tSeq (tAsg (tOp (rI (fun x j => 0 < j) fun i j => V.int (i % j)) (tCB (fun xs H Q => (∃ i, xs = [V.int i] ∧ Q (V.int i) H) ∨ ∃ k, xs = [V.bl k] ∧ Q (V.int (if k = true then 1 else 0)) H)
          (tCons (tOp (rI CPow fun i j => V.int (i ^ j.toNat)) (tOp (rI0 fun i j => V.int (i + j)) (tOp (rI0 fun i j => V.int (i + j)) (tOp (rIx K) (tVar 0) (tC (V.int 2)))
            (tOp (rI CMul fun i j => V.int (i * j)) (tC (V.int 15485863)) (tOp (rIx K) (tVar 0) (tC (V.int 3))))) (tC (V.int 179424673))) (tC (V.int 5))) tNil)) (tC (V.int 2147483647))) (gName 3))
        (tRet (tOp (rI (fun x j => 0 < j) fun i j => V.int (i % j)) (tOp (rI CDiv fun i j => V.int (i / j)) (tOp (rI (fun x j => 0 < j) fun i j => V.int (i % j))
          (tCB (fun xs H Q => (∃ i, xs = [V.int i] ∧ Q (V.int i) H) ∨ ∃ k, xs = [V.bl k] ∧ Q (V.int (if k = true then 1 else 0)) H)
            (tCons (tOp (rI CPow fun i j => V.int (i ^ j.toNat)) (tOp (rI0 fun i j => V.int (i + j)) (tOp (rI CMul fun i j => V.int (i * j)) (tVar 3) (tC (V.int 48271)))
              (tOp (rI CMul fun i j => V.int (i * j)) (tC (V.int 104729)) (tOp (rIx K) (tVar 0) (tC (V.int 3))))) (tC (V.int 3))) tNil)) (tC (V.int 2147483587))) (tC (V.int 64))) (tVar 1))))
        { nx := fun _ H' => Q V.non H', rt := Q } [some (V.ref p), some (V.int many), none, none] H := by
      refine ⟨_, rfl, ixAt hp rfl ⟨_, _, rfl, rfl, _, rfl, p, _, _, 3, rfl, rfl, hp, rfl, ?_⟩⟩
      refine ⟨_, rfl, ixAt upd_same rfl ⟨_, rfl, ixAt upd_same rfl ⟨_, _, rfl, rfl, .inl ⟨by decide, by decide⟩, _, _, rfl, rfl, _, _, rfl, rfl, ?_⟩⟩⟩
      have hA : (m + 15485863 * (k + 1) + 179424673).natAbs < 2 ^ 64 := by omega
      have n1 : 0 ≤ (m + 15485863 * (k + 1) + 179424673) ^ (5 : Int).toNat % 2147483647 := Int.emod_nonneg _ (by decide)
      have n2 : (m + 15485863 * (k + 1) + 179424673) ^ (5 : Int).toNat % 2147483647 < 2147483647 := Int.emod_lt_of_pos _ (by decide)
      have hB : ((m + 15485863 * (k + 1) + 179424673) ^ (5 : Int).toNat % 2147483647 * 48271 + 104729 * (k + 1)).natAbs < 2 ^ 64 := by
        generalize (m + 15485863 * (k + 1) + 179424673) ^ (5 : Int).toNat % 2147483647 = B1 at n1 n2
        omega
      refine ⟨_, _, rfl, rfl, ⟨by decide, by decide, hA⟩, ?_⟩
      refine .inl ⟨_, rfl, _, _, rfl, rfl, (by show (0 : Int) < 2147483647; decide), ?_⟩
      refine ⟨_, rfl, _, _, rfl, rfl, .inr ⟨by decide, by decide⟩, ?_⟩
      refine ⟨_, rfl, ixAt upd_same rfl ⟨_, _, rfl, rfl, .inl ⟨by decide, by decide⟩, _, _, rfl, rfl, ?_⟩⟩
      refine ⟨_, _, rfl, rfl, ⟨by decide, by decide, hB⟩, ?_⟩
      refine .inl ⟨_, rfl, _, _, rfl, rfl, (by show (0 : Int) < 2147483587; decide), _, _, rfl, rfl, ⟨by decide, by decide⟩, _, rfl, _, _, rfl, rfl, (by show (0 : Int) < many; omega), ?_⟩
      refine q _ _ (Int.emod_nonneg _ (by omega)) (Int.emod_lt_of_pos _ (by omega)) ⟨g, b, m, k + 1, rfl, b1, b2, b3, by omega, by omega⟩
    refine ⟨_, rfl, ixAt hp rfl ⟨b, rfl, ?_⟩⟩
    cases b with
    | false => exact last
    | true =>
      refine ⟨_, rfl, ixAt hp rfl ⟨_, _, rfl, rfl, _, rfl, ?_⟩⟩
      refine ite2 (fun c => ?_) (fun _ => last)
      have c := of_decide_eq_true c
      refine ⟨_, rfl, ixAt hp rfl (.inl ⟨_, rfl, _, rfl, _, _, rfl, rfl, (by show (0 : Int) < many; omega), ?_⟩)⟩
      refine ⟨_, rfl, ixAt hp rfl ⟨_, rfl, _, _, rfl, rfl, ⟨(by show (0 : Int) < many; omega), (by show many < 1073741824; omega)⟩, _, rfl, p, _, _, 0, rfl, rfl, hp, rfl, ?_⟩⟩
      refine ⟨_, rfl, q _ _ (Int.emod_nonneg _ (by omega)) (Int.emod_lt_of_pos _ (by omega)) ⟨g / many, true, m, k, rfl, ?_, b2, b3, b4, by omega⟩⟩
      exact Int.ediv_nonneg b1 (by omega)
end
end K01

namespace K01
open PySem PySem.Spec PyProof.Rows L2
abbrev sSigns : Stmt := top 23
abbrev sSpoilt : Stmt := top 24
theorem scSigns : FnScope ["box", "alphabet", "many", "k"] ["box", "alphabet", "many"] (defScope sSigns) := ⟨rfl, rfl, rfl, by decide +kernel, rfl, by decide +kernel, by decide +kernel⟩
theorem scSpoilt : FnScope ["box", "signs", "menu", "way", "place", "sign"] ["box", "signs", "menu"] (defScope sSpoilt) := ⟨rfl, rfl, rfl, by decide +kernel, rfl, by decide +kernel, by decide +kernel⟩
/-- plain signs alone -/
def Pl (z : Str) : Prop := ∀ c ∈ z.cps.toList, c < 128
def spSigns : Sp := fun vs H Q _ => ∃ (p : Addr) (al : Str) (m : Nat) (xs : List V) (c : Nat), vs = [.ref p, .str al, .int m] ∧ H p = some (.lst xs) ∧ Box c xs ∧ c + m < 1000 ∧ 1 ≤ al.length ∧ al.length ≤ 128 ∧ Pl al ∧
  ∀ z ys H', Pl z → z.length = m → Box (c + m) ys → But p H H' → H' p = some (.lst ys) → Q (.str z) H'
def spSpoilt (K : PySem.W.Frag) : Sp := fun vs H Q _ => ∃ (p mn : Addr) (z : Str) (ms : List Str) (xs : List V) (c : Nat), vs = [.ref p, .str z, .ref mn] ∧ H p = some (.lst xs) ∧ Box c xs ∧ c + 3 < 1000 ∧ H mn = some (.lst (ms.map V.str)) ∧
  1 ≤ ms.length ∧ ms.length ≤ 100 ∧ (∀ y ∈ ms, Pl y ∧ y.length = 1) ∧ Pl z ∧ z.length ≤ 120 ∧
  ∀ u ys H', Pl u → u.length ≤ z.length + 1 → Box (c + 3) ys → But p H H' → H' p = some (.lst ys) → Q (.str u) H'
theorem pl_fold {sep : Str} (hs : sep.cps.toList = []) : ∀ (ys : List Str) (acc : Array Nat), (∀ c ∈ acc.toList, c < 128) → (∀ y ∈ ys, Pl y) →
    ∀ c ∈ (ys.foldl (fun acc p => acc ++ sep.cps ++ p.cps) acc).toList, c < 128
  | [], acc, h, _ => h
  | y :: ys, acc, h, k => by
    refine pl_fold hs ys _ (fun c hc => ?_) fun u hu => k u (List.mem_cons_of_mem _ hu)
    rw [Array.toList_append, Array.toList_append, hs, List.append_nil] at hc
    rcases List.mem_append.mp hc with hc | hc
    · exact h c hc
    · exact k y List.mem_cons_self c hc
theorem pl_join {sep : Str} (hs : sep.cps.toList = []) {ys : List Str} (h : ∀ y ∈ ys, Pl y) : Pl (Txt.join sep ys) := by
  refine pl_fold hs (ys.drop 1) _ ?_ fun y hy => h y (List.mem_of_mem_drop hy)
  cases ys with
  | nil => exact fun c hc => by cases hc
  | cons y ys => exact h y List.mem_cons_self
theorem join_len {sep : Str} (hs : sep.length = 0) {ys : List Str} (h : ∀ y ∈ ys, y.length = 1) : (ys.map (·.length)).sum = ys.length ∧ (Txt.join sep ys).length = ys.length := by
  have e : (ys.map (·.length)).sum = ys.length := by
    clear hs
    induction ys with
    | nil => rfl
    | cons y ys ih =>
      have z := h y List.mem_cons_self
      have i := ih fun u hu => h u (List.mem_cons_of_mem _ hu)
      rw [List.map_cons, List.sum_cons, i, List.length_cons]
      omega
  refine ⟨e, ?_⟩
  have z := size_glued sep ys
  show (Builtin.Str.glued sep ys).length = _
  rw [z, e, hs, Nat.mul_zero, Nat.add_zero]
section
variable {P : Program} {w : World} {K : PySem.W.Frag} {mg : Str → Option Value} {base : Heap} {f fT : Addr} {fd dT : FuncData}
theorem ok_signs (F : Fd K "_law_signs" sSigns f fd) (FT : Fd K "_law_take" sTake fT dT) (B : BltT mg) (B2 : Blt2 mg) (gT : mg "_law_take" = some (.ref fT)) : FnOk P w K mg base CX0 2 f fd ["box", "alphabet", "many"] spSigns := by
  have GT : FnOk P w K mg base CX0 1 fT dT ["box", "many"] spTake := ok_take FT B
  have bT : Binds K dT ["box", "many"] [] := FT.bindsN fun _ _ _ _ _ _ us hl => match us, hl with | [_, _], _ => rfl
  refine F.ok scSigns (fun vs H Q E h => ?_) (fun cdv A outer s H vs Q E hr h => ?_)
  · obtain ⟨p, al, m, xs, c, rfl, _⟩ := h
    rfl
  · refine ⟨_, pss_one (ps_ret (pe_join pe_str (pe_lc (own := [("k", 3)]) (g := gName 3) rfl scSigns.nd (pi_range1 (by rfl) B2.rng (pa_cons (pv 2) pa_nil))
      (blkOk_by (N := ["box", "alphabet", "many", "k"]) (sc := defScope sSigns) (by decide +kernel)) (fun _ _ _ _ _ => pg_name (i := 3) scSigns.nd rfl (Or.inl rfl)) (fun _ _ _ _ _ => pts_nil)
      (fun _ _ _ _ _ => pe_ix (r := rIx K) ix_seq (pv 1) (pe_call GT hr (by rfl) gT FT.kp bT .nil pass0 (pa_cons (pv 0) (pa_cons (pe_callB (r := fun xs H Q => ∃ x n, xs = [x] ∧ LenV K x H n ∧ Q (V.int (n : Nat)) H) (by exact call_len) (by rfl) B2.len boot_len (pa_cons (pv 1) pa_nil)) pa_nil))) fun _ _ => rfl)))), ?_⟩
    obtain ⟨p, al, m, xs, c, rfl, hp, hb, hc, l1, l2, pa, q⟩ := h
    refine ⟨⟨_, rfl⟩, _, rfl, _, rfl, by omega, by omega, fun D hD => ?_⟩
    have eN : ((m : Int)).toNat = m := Int.toNat_natCast _
    rw [eN]
    have la : al.cps.toList.length = al.length := by simp [Str.length]
    have nD : D ≠ p := (ne_of_none hp hD).symm
    refine lc_range (n := m) (fun j H' => But p H H' ∧ (∃ zs : List Str, zs.length = j ∧ (∀ y ∈ zs, Pl y ∧ y.length = 1) ∧ H' D = some (.lst (zs.map V.str))) ∧ ∃ ys, H' p = some (.lst ys) ∧ Box (c + j) ys) ⟨But.of (upd_grow hD), ⟨[], rfl, (fun y z => nomatch z), upd_same⟩, xs, ?_, hb⟩ ?_ ?_
    · rw [upd_ne nD.symm]
      exact hp
    · rintro j H1 hj ⟨k1, ⟨zs, lz, hz, h1⟩, ys, hy, hb1⟩
      refine ⟨rfl, _, rfl, _, rfl, _, rfl, _, _, rfl, ⟨two_ln (by omega), rfl⟩, p, _, ys, c + j, rfl, hy, hb1, by omega, by omega, by omega, fun d ys2 d0 d1 hb2 => ?_⟩
      have dl : d.toNat < al.cps.toList.length := by omega
      have at_ : atI al.cps.toList d = some al.cps.toList[d.toNat] := by
        have z := atI_nat (xs := al.cps.toList) (j := d.toNat) (List.getElem?_eq_getElem dl)
        rwa [Int.toNat_of_nonneg d0] at z
      refine .inr (.inr ⟨al, d, _, rfl, rfl, two_ln (by omega), at_, zs.map V.str, ?_, ?_, ?_, ⟨zs ++ [⟨#[al.cps.toList[d.toNat]]⟩], ?_, ?_, ?_⟩, ys2, ?_, hb2⟩)
      · rw [upd_ne nD]
        exact h1
      · rw [sizeLine_eq, List.length_map]
        omega
      · intro b o hbp e
        have n2 : b ≠ D := ne_of_none e hD
        rw [upd_ne n2, upd_ne hbp]
        exact k1 b o hbp e
      · rw [List.length_append, lz] <;> rfl
      · intro y hy
        rcases List.mem_append.mp hy with hy | hy
        · exact hz y hy
        · rw [List.mem_singleton.mp hy]
          refine ⟨fun c hc => ?_, rfl⟩
          have e : c = al.cps.toList[d.toNat] := by simpa using hc
          rw [e]
          exact pa _ (List.getElem_mem dl)
      · rw [upd_same, List.map_append]
        rfl
      · rw [upd_ne nD.symm]
        exact upd_same
    · rintro H1 ⟨k1, ⟨zs, lz, hz, h1⟩, ys, hy, hb1⟩
      have jl := join_len (sep := Str.ofString "") rfl fun y hy => (hz y hy).2
      refine ⟨_, D, zs, rfl, rfl, .inl (SqL.of h1), ?_, q _ ys H1 (pl_join rfl fun y hy => (hz y hy).1) (by rw [jl.2, lz]) hb1 k1 hy⟩
      rw [jl.1]
      have e0 : (Str.ofString "").length = 0 := rfl
      rw [e0]
      omega
end
end K01

namespace K01
open PySem PySem.Spec PyProof.Rows L2
theorem pl_app {a b : Str} (h1 : Pl a) (h2 : Pl b) : Pl (a ++ b) := fun c hc => by
  have e : (a ++ b).cps.toList = a.cps.toList ++ b.cps.toList := by
    show (a.cps ++ b.cps).toList = _
    rw [Array.toList_append]
  rw [e] at hc
  rcases List.mem_append.mp hc with hc | hc
  · exact h1 c hc
  · exact h2 c hc
theorem pl_cut {z : Str} {lo hi : Option Int} (h : Pl z) : Pl (cutS z lo hi) := fun c hc => h c (List.mem_of_mem_drop (List.mem_of_mem_take hc))
theorem cut_to (z : Str) (n : Nat) : (cutS z none (some (n : Int))).length ≤ n := by
  rw [cut_size, HT.sIx_none, HT.sIx_nat]
  omega
theorem cut_from (z : Str) (n : Nat) : (cutS z (some (n : Int)) none).length ≤ z.length - n := by
  rw [cut_size, HT.sIx_none, HT.sIx_nat]
  omega
theorem box_ne {K : PySem.W.Frag} {H : Hp} {p q : Addr} {xs : List V} {ms : List Str} {c : Nat} (hp : H p = some (.lst xs)) (hb : Box c xs) (hq : H q = some (.lst (ms.map V.str))) : q ≠ p := fun e => by
  rw [e, hp] at hq
  obtain ⟨g, b, m, k, rfl, _⟩ := hb
  cases ms with
  | nil => cases hq
  | cons y ms => cases hq
section
variable {P : Program} {w : World} {K : PySem.W.Frag} {mg : Str → Option Value} {base : Heap} {f fT : Addr} {fd dT : FuncData}
theorem ok_spoilt (F : Fd K "_law_spoilt" sSpoilt f fd) (FT : Fd K "_law_take" sTake fT dT) (B : BltT mg) (B2 : Blt2 mg) (gT : mg "_law_take" = some (.ref fT)) : FnOk P w K mg base CX0 2 f fd ["box", "signs", "menu"] (spSpoilt K) := by
  have GT : FnOk P w K mg base CX0 1 fT dT ["box", "many"] spTake := ok_take FT B
  have bT : Binds K dT ["box", "many"] [] := FT.bindsN fun _ _ _ _ _ _ us hl => match us, hl with | [_, _], _ => rfl
  refine F.ok scSpoilt (fun vs H Q E h => ?_) (fun cdv A outer s H vs Q E hr h => ?_)
  · obtain ⟨p, mn, z, ms, xs, c, rfl, _⟩ := h
    rfl
  · refine ⟨_, pss_cons (ps_par (i := 3) (j := 4) rfl scSpoilt.nd rfl rfl (by decide) rfl rfl (pa_cons (pe_call GT hr (by rfl) gT FT.kp bT .nil pass0 (pa_cons (pv 0) (pa_cons pe_int pa_nil)))
        (pa_cons (pe_call GT hr (by rfl) gT FT.kp bT .nil pass0 (pa_cons (pv 0) (pa_cons (pe_op op_add (pe_callB call_len (by rfl) B2.len boot_len (pa_cons (pv 1) pa_nil)) pe_int) pa_nil))) pa_nil)) rfl)
      (pss_cons (ps_set (i := 5) scSpoilt.nd rfl (Or.inl rfl) (pe_ix ix_seq (pv 2) (pe_call GT hr (by rfl) gT FT.kp bT .nil pass0 (pa_cons (pv 0) (pa_cons (pe_callB call_len (by rfl) B2.len boot_len (pa_cons (pv 2) pa_nil)) pa_nil))) fun _ _ => rfl))
      (pss_cons (ps_if (pt_cmp (pc_eqI (pv 3) pe_int)) (pss_one (ps_ret (pe_op op_add_str (pe_op op_add_str (pe_slice sl_str (pv 1) po_none (po_some (pv 4))) (pv 5)) (pe_slice sl_str (pv 1) (po_some (pe_op op_add (pv 4) pe_int)) po_none)))) pss_nil)
      (pss_cons (ps_if (pt_cmp (pc_eqI (pv 3) pe_int)) (pss_one (ps_ret (pe_op op_add_str (pe_op op_add_str (pe_slice sl_str (pv 1) po_none (po_some (pv 4))) (pv 5)) (pe_slice sl_str (pv 1) (po_some (pv 4)) po_none)))) pss_nil)
      (pss_one (ps_ret (pe_op op_add_str (pe_slice sl_str (pv 1) po_none (po_some (pv 4))) (pe_slice sl_str (pv 1) (po_some (pe_op op_add (pv 4) pe_int)) po_none))))))), ?_⟩
    obtain ⟨p, mn, z, ms, xs, c, rfl, hp, hb, hc, hm, l1, l2, pm, pz, lz, q⟩ := h
    have nm : mn ≠ p := box_ne (K := K) hp hb hm
    refine ⟨_, rfl, p, 3, xs, c, rfl, hp, hb, by omega, by decide, by decide, fun n1 ys1 n10 n11 b1 => ?_⟩
    refine ⟨_, rfl, _, rfl, _, _, rfl, ⟨two_ln (by omega), rfl⟩, _, _, rfl, rfl, p, _, ys1, c + 1, rfl, upd_same, b1, by omega, (by show (1 : Int) ≤ (z.length : Int) + 1; omega), (by show (z.length : Int) + 1 ≤ 128; omega), fun n2 ys2 n20 n21 b2 => ?_⟩
    rw [upd_upd]
    refine ⟨_, _, rfl, ?_⟩
    have hm2 : upd H p (.lst ys2) mn = some (.lst (ms.map V.str)) := by rw [upd_ne nm]; exact hm
    refine ⟨_, rfl, _, rfl, _, rfl, _, _, rfl, .inl ⟨_, SqL.of hm2, rfl⟩, p, _, ys2, c + 2, rfl, upd_same, b2, by omega, ?_, ?_, fun n3 ys3 n30 n31 b3 => ?_⟩
    · rw [List.length_map]
      omega
    · rw [List.length_map]
      omega
    rw [List.length_map] at n31
    rw [upd_upd]
    have l3 : n3.toNat < ms.length := by omega
    have a3 : atI (ms.map V.str) n3 = some (.str ms[n3.toNat]) := by
      have y := atI_nat (xs := ms.map V.str) (j := n3.toNat) (v := .str ms[n3.toNat]) (by rw [List.getElem?_map, List.getElem?_eq_getElem l3] <;> rfl)
      rwa [Int.toNat_of_nonneg n30] at y
    have hm3 : upd H p (.lst ys3) mn = some (.lst (ms.map V.str)) := by rw [upd_ne nm]; exact hm
    obtain ⟨ps, ls⟩ := pm _ (List.getElem_mem l3)
    generalize hsg : ms[n3.toNat] = sg at a3 ps ls
    refine ixAt hm3 a3 ?_
    obtain ⟨n, rfl⟩ : ∃ n : Nat, n2 = (n : Int) := ⟨n2.toNat, (Int.toNat_of_nonneg n20).symm⟩
    have fin : ∀ u, Pl u → u.length ≤ z.length + 1 → Q (.str u) (upd H p (.lst ys3)) := fun u h1 h2 => q u ys3 _ h1 h2 b3 But.upd upd_same
    have c1 := cut_to z n
    have c2 := cut_from z n
    have c3 := cut_from z (n + 1)
    have nz : n ≤ z.length := by omega
    have szl : ∀ k : Nat, k ≤ 16777216 → k ≤ sizeLine := fun k => two_ln
    have e1 : ((n : Int) + 1) = ((n + 1 : Nat) : Int) := by omega
    refine ⟨_, rfl, _, _, rfl, rfl, _, rfl, iteB (fun _ => ?_) fun _ => ⟨_, rfl, _, _, rfl, rfl, _, rfl, iteB (fun _ => ?_) fun _ => ?_⟩⟩
    · refine ⟨_, rfl, _, rfl, _, rfl, z, rfl, two_ln (by omega), _, rfl, _, _, rfl, rfl, ?_, _, rfl, _, rfl, _, _, rfl, rfl, _, rfl, z, rfl, two_ln (by omega), _, _, rfl, rfl, ?_, ?_⟩
      · exact szl _ (by omega)
      · rw [e1, strLen_append]
        exact szl _ (by omega)
      · rw [e1]
        exact fin _ (pl_app (pl_app (pl_cut pz) ps) (pl_cut pz)) (by rw [strLen_append, strLen_append]; omega)
    · refine ⟨_, rfl, _, rfl, _, rfl, z, rfl, two_ln (by omega), _, rfl, _, _, rfl, rfl, ?_, _, rfl, _, rfl, _, rfl, z, rfl, two_ln (by omega), _, _, rfl, rfl, ?_, ?_⟩
      · exact szl _ (by omega)
      · rw [strLen_append]
        exact szl _ (by omega)
      · exact fin _ (pl_app (pl_app (pl_cut pz) ps) (pl_cut pz)) (by rw [strLen_append, strLen_append]; omega)
    · refine ⟨_, rfl, _, rfl, _, rfl, z, rfl, two_ln (by omega), _, rfl, _, rfl, _, _, rfl, rfl, _, rfl, z, rfl, two_ln (by omega), _, _, rfl, rfl, ?_, ?_⟩
      · rw [e1]
        exact szl _ (by omega)
      · rw [e1]
        exact fin _ (pl_app (pl_cut pz) (pl_cut pz)) (by rw [strLen_append]; omega)
end
end K01

namespace K01
open PySem PySem.Spec PyProof.Rows L2
abbrev sDName : Stmt := top 25
abbrev sDText : Stmt := top 26
abbrev sDFig : Stmt := top 27
theorem scDName : FnScope ["box", "spoil", "many", "signs", "menu"] ["box"] (defScope sDName) := ⟨rfl, rfl, rfl, by decide +kernel, rfl, by decide +kernel, by decide +kernel⟩
theorem scDText : FnScope ["box", "alphabet", "spoil", "many", "signs"] ["box"] (defScope sDText) := ⟨rfl, rfl, rfl, by decide +kernel, rfl, by decide +kernel, by decide +kernel⟩
theorem scDFig : FnScope ["box", "spoil", "many", "word", "heads", "signs"] ["box"] (defScope sDFig) := ⟨rfl, rfl, rfl, by decide +kernel, rfl, by decide +kernel, by decide +kernel⟩
theorem Box.mono {c c' : Nat} {xs : List V} (h : Box c xs) (l : c ≤ c') : Box c' xs := by
  obtain ⟨g, b, m, k, e, h1, h2, h3, h4, h5⟩ := h
  exact ⟨g, b, m, k, e, h1, h2, h3, h4, by omega⟩
/-- a text is drawn, by n draws at most -/
def spDraw (n : Nat) : Sp := fun vs H Q _ => ∃ (p : Addr) (xs : List V) (c : Nat), vs = [.ref p] ∧ H p = some (.lst xs) ∧ Box c xs ∧ c + n < 1000 ∧
  ∀ z ys H', Pl z → z.length ≤ 100 → Box (c + n) ys → But p H H' → H' p = some (.lst ys) → Q (.str z) H'
theorem pick {ns : List Nat} {k : Nat} (b : Nat) (hl : ns.length = k) (hb : ∀ m ∈ ns, m ≤ b) {i : Int} (h0 : 0 ≤ i) (h1 : i < (k : Int)) : ∃ m, m ≤ b ∧ atI (ns.map fun n : Nat => V.int (n : Int)) i = some (.int (m : Int)) := by
  have l : i.toNat < ns.length := by omega
  refine ⟨ns[i.toNat], hb _ (List.getElem_mem l), ?_⟩
  have y := atI_nat (xs := ns.map fun n : Nat => V.int (n : Int)) (j := i.toNat) (v := .int (ns[i.toNat] : Int)) (by rw [List.getElem?_map, List.getElem?_eq_getElem l] <;> rfl)
  rwa [Int.toNat_of_nonneg h0] at y
theorem pickS {ns : List Str} {k : Nat} (hl : ns.length = k) {i : Int} (h0 : 0 ≤ i) (h1 : i < (k : Int)) : ∃ y, y ∈ ns ∧ atI (ns.map V.str) i = some (.str y) := by
  have l : i.toNat < ns.length := by omega
  refine ⟨ns[i.toNat], List.getElem_mem l, ?_⟩
  have y := atI_nat (xs := ns.map V.str) (j := i.toNat) (v := .str ns[i.toNat]) (by rw [List.getElem?_map, List.getElem?_eq_getElem l] <;> rfl)
  rwa [Int.toNat_of_nonneg h0] at y
theorem pl_of {z : Str} (h : (z.cps.toList.all fun c => decide (c < 128)) = true) : Pl z := fun c hc => of_decide_eq_true (List.all_eq_true.mp h c hc)
/-- one sign, a plain one -/
def oneB (z : Str) : Bool := (z.cps.toList.all fun c => decide (c < 128)) && decide (z.length = 1)
theorem ones_of {ns : List Str} (h : ns.all oneB = true) : ∀ y ∈ ns, Pl y ∧ y.length = 1 := fun y hy => by
  have z := List.all_eq_true.mp h y hy
  unfold oneB at z
  rw [Bool.and_eq_true] at z
  exact ⟨pl_of z.1, of_decide_eq_true z.2⟩
def menuT : List Str := ["\n", "\t", " ", "~", "A"]
def menuF : List Str := ["0", "7", " ", "-", "+", "a", "\n", "\t", "_", "."]
def wordsF : List Str := ["", "", "", "", "", "", "0", "0", "00"]
def headsF : List Str := ["round ", "round ", "round ", "round ", "Round ", "round", "round  ", "rounds "]
/-- plain signs, of few *-/
def fewB (z : Str) : Bool := (z.cps.toList.all fun c => decide (c < 128)) && decide (z.length ≤ 8)
theorem few_of {ns : List Str} (h : ns.all fewB = true) : ∀ y ∈ ns, Pl y ∧ y.length ≤ 8 := fun y hy => by
  have z := List.all_eq_true.mp h y hy
  unfold fewB at z
  rw [Bool.and_eq_true] at z
  exact ⟨pl_of z.1, of_decide_eq_true z.2⟩
def menuN : List Str := ["A", "Z", "0", "9", " ", "-", "_", "`", "{", "\n", "\t", "a", "z"]
section
variable {P : Program} {w : World} {K : PySem.W.Frag} {mg : Str → Option Value} {base : Heap} {f fT fG fP : Addr} {fd dT dG dP : FuncData}
theorem ok_dName (F : Fd K "_law_name" sDName f fd) (FT : Fd K "_law_take" sTake fT dT) (FG : Fd K "_law_signs" sSigns fG dG) (FP : Fd K "_law_spoilt" sSpoilt fP dP) (B : BltT mg) (B2 : Blt2 mg) (gT : mg "_law_take" = some (.ref fT))
    (gG : mg "_law_signs" = some (.ref fG)) (gP : mg "_law_spoilt" = some (.ref fP)) : FnOk P w K mg base CX0 3 f fd ["box"] (spDraw 14) := by
  have GT : FnOk P w K mg base CX0 1 fT dT ["box", "many"] spTake := ok_take FT B
  have GG : FnOk P w K mg base CX0 2 fG dG ["box", "alphabet", "many"] spSigns := ok_signs FG FT B B2 gT
  have GP : FnOk P w K mg base CX0 2 fP dP ["box", "signs", "menu"] (spSpoilt K) := ok_spoilt FP FT B B2 gT
  have bT : Binds K dT ["box", "many"] [] := FT.bindsN fun _ _ _ _ _ _ us hl => match us, hl with | [_, _], _ => rfl
  have bG : Binds K dG ["box", "alphabet", "many"] [] := FG.bindsN fun _ _ _ _ _ _ us hl => match us, hl with | [_, _, _], _ => rfl
  have bP : Binds K dP ["box", "signs", "menu"] [] := FP.bindsN fun _ _ _ _ _ _ us hl => match us, hl with | [_, _, _], _ => rfl
  refine F.ok scDName (fun vs H Q E h => ?_) (fun cdv A outer s H vs Q E hr h => ?_)
  · obtain ⟨p, xs, c, rfl, _⟩ := h
    rfl
  · refine ⟨_, pss_cons (ps_par (i := 1) (j := 2) rfl scDName.nd rfl rfl (by decide) rfl rfl (pa_cons (pe_call GT (hr.mono (by decide)) (by rfl) gT FT.kp bT .nil pass0 (pa_cons (pv 0) (pa_cons pe_int pa_nil)))
        (pa_cons (pe_ix ix_seq (pe_lst (pa_cons pe_int (pa_cons pe_int (pa_cons pe_int (pa_cons pe_int (pa_cons pe_int (pa_cons pe_int (pa_cons pe_int (pa_cons pe_int pa_nil)))))))))
          (pe_call GT (hr.mono (by decide)) (by rfl) gT FT.kp bT .nil pass0 (pa_cons (pv 0) (pa_cons pe_int pa_nil))) fun _ _ => rfl) pa_nil)) rfl)
      (pss_cons (ps_set (i := 3) scDName.nd rfl (Or.inl rfl) (pe_call GG hr (by rfl) gG FG.kp bG .nil pass0 (pa_cons (pv 0) (pa_cons pe_str (pa_cons (pv 2) pa_nil)))))
      (pss_cons (ps_set (i := 4) scDName.nd rfl (Or.inl rfl) (pe_lst (pa_cons pe_str (pa_cons pe_str (pa_cons pe_str (pa_cons pe_str (pa_cons pe_str (pa_cons pe_str (pa_cons pe_str (pa_cons pe_str (pa_cons pe_str (pa_cons pe_str (pa_cons pe_str (pa_cons pe_str (pa_cons pe_str pa_nil)))))))))))))))
      (pss_one (ps_ret (pe_ifExp (pt_cmp (pc_eqI (pv 1) pe_int)) (pe_call GP hr (by rfl) gP FP.kp bP .nil pass0 (pa_cons (pv 0) (pa_cons (pv 3) (pa_cons (pv 4) pa_nil)))) (pv 3)))))), ?_⟩
    obtain ⟨p, xs, c, rfl, hp, hb, hc, q⟩ := h
    refine ⟨_, rfl, p, 3, xs, c, rfl, hp, hb, by omega, by decide, by decide, fun n1 ys1 n10 n11 b1 => ?_⟩
    refine ⟨two_ln (by show 8 ≤ 16777216; decide), fun r1 hr1 => ?_⟩
    have g1 : upd (upd H p (.lst ys1)) r1 (.lst [.int 8, .int 1, .int 9, .int 0, .int 3, .int 2, .int 8, .int 5]) p = some (.lst ys1) := upd_grow hr1 _ _ upd_same
    have nr1 : p ≠ r1 := ne_of_none (upd_same (H := H) (a := p) (o := .lst ys1)) hr1
    refine ⟨_, rfl, p, 8, ys1, c + 1, rfl, g1, b1, by omega, by decide, by decide, fun n2 ys2 n20 n21 b2 => ?_⟩
    obtain ⟨m, lm, am⟩ := pick (ns := [8, 1, 9, 0, 3, 2, 8, 5]) (k := 8) 9 rfl (by decide) n20 n21
    refine ixAt (p := r1) (by rw [upd_ne nr1.symm]; exact upd_same) am ?_
    refine ⟨_, _, rfl, ?_⟩
    have k1 : But p H (upd (upd (upd H p (.lst ys1)) r1 (.lst [.int 8, .int 1, .int 9, .int 0, .int 3, .int 2, .int 8, .int 5])) p (.lst ys2)) := But.upd.trans ((But.of (upd_grow hr1)).trans But.upd)
    have h1 := upd_same (H := upd (upd H p (.lst ys1)) r1 (.lst [.int 8, .int 1, .int 9, .int 0, .int 3, .int 2, .int 8, .int 5])) (a := p) (o := .lst ys2)
    generalize upd (upd (upd H p (.lst ys1)) r1 (.lst [.int 8, .int 1, .int 9, .int 0, .int 3, .int 2, .int 8, .int 5])) p (.lst ys2) = H1 at k1 h1 ⊢
    refine ⟨_, rfl, _, rfl, p, _, m, ys2, c + 2, rfl, h1, b2, by omega, by decide, by decide, pl_of (by decide +kernel), fun z ys3 H2 pz lz b3 k2 h2 => ?_⟩
    refine ⟨two_ln (by show 13 ≤ 16777216; decide), fun mn hmn => ?_⟩
    have k3 := upd_grow (o := .lst (menuN.map V.str)) hmn
    have h3 := upd_same (H := H2) (a := mn) (o := .lst (menuN.map V.str))
    have hp3 := k3 _ _ h2
    have kk := k1.trans (k2.trans (But.of k3))
    generalize e3 : upd H2 mn (.lst (menuN.map V.str)) = H3 at k3 h3 hp3 kk
    have e3' : upd H2 mn (.lst [.str "A", .str "Z", .str "0", .str "9", .str " ", .str "-", .str "_", .str "`", .str "{", .str "\n", .str "\t", .str "a", .str "z"]) = H3 := e3
    rw [e3']
    refine ⟨_, rfl, _, _, rfl, rfl, _, rfl, iteB (fun _ => ?_) fun _ => ?_⟩
    · refine ⟨_, rfl, _, rfl, _, rfl, p, mn, z, menuN, ys3, _, rfl, hp3, b3, by omega, h3, by decide, by decide, ones_of (by decide +kernel), pz, by omega, fun u ys4 H4 pu lu b4 k4 h4 => ?_⟩
      exact q u ys4 H4 pu (by omega) (b4.mono (by omega)) (kk.trans k4) h4
    · exact ⟨_, rfl, q z ys3 H3 pz (by omega) (b3.mono (by omega)) kk hp3⟩
theorem ok_dText (F : Fd K "_law_text" sDText f fd) (FT : Fd K "_law_take" sTake fT dT) (FG : Fd K "_law_signs" sSigns fG dG) (FP : Fd K "_law_spoilt" sSpoilt fP dP) (B : BltT mg) (B2 : Blt2 mg) (gT : mg "_law_take" = some (.ref fT))
    (gG : mg "_law_signs" = some (.ref fG)) (gP : mg "_law_spoilt" = some (.ref fP)) : FnOk P w K mg base CX0 3 f fd ["box"] (spDraw 46) := by
  have GT : FnOk P w K mg base CX0 1 fT dT ["box", "many"] spTake := ok_take FT B
  have GG : FnOk P w K mg base CX0 2 fG dG ["box", "alphabet", "many"] spSigns := ok_signs FG FT B B2 gT
  have GP : FnOk P w K mg base CX0 2 fP dP ["box", "signs", "menu"] (spSpoilt K) := ok_spoilt FP FT B B2 gT
  have bT : Binds K dT ["box", "many"] [] := FT.bindsN fun _ _ _ _ _ _ us hl => match us, hl with | [_, _], _ => rfl
  have bG : Binds K dG ["box", "alphabet", "many"] [] := FG.bindsN fun _ _ _ _ _ _ us hl => match us, hl with | [_, _, _], _ => rfl
  have bP : Binds K dP ["box", "signs", "menu"] [] := FP.bindsN fun _ _ _ _ _ _ us hl => match us, hl with | [_, _, _], _ => rfl
  refine F.ok scDText (fun vs H Q E h => ?_) (fun cdv A outer s H vs Q E hr h => ?_)
  · obtain ⟨p, xs, c, rfl, _⟩ := h
    rfl
  · refine ⟨_, pss_cons (ps_set (i := 1) scDText.nd rfl (Or.inl rfl) pe_str)
      (pss_cons (ps_par (i := 2) (j := 3) rfl scDText.nd rfl rfl (by decide) rfl rfl (pa_cons (pe_call GT (hr.mono (by decide)) (by rfl) gT FT.kp bT .nil pass0 (pa_cons (pv 0) (pa_cons pe_int pa_nil)))
        (pa_cons (pe_ix ix_seq (pe_lst (pa_cons pe_int (pa_cons pe_int (pa_cons pe_int (pa_cons pe_int (pa_cons pe_int (pa_cons pe_int (pa_cons pe_int (pa_cons pe_int pa_nil)))))))))
          (pe_call GT (hr.mono (by decide)) (by rfl) gT FT.kp bT .nil pass0 (pa_cons (pv 0) (pa_cons pe_int pa_nil))) fun _ _ => rfl) pa_nil)) rfl)
      (pss_cons (ps_set (i := 4) scDText.nd rfl (Or.inl rfl) (pe_call GG hr (by rfl) gG FG.kp bG .nil pass0 (pa_cons (pv 0) (pa_cons (pv 1) (pa_cons (pv 3) pa_nil)))))
      (pss_one (ps_ret (pe_ifExp (pt_cmp (pc_eqI (pv 2) pe_int)) (pe_call GP hr (by rfl) gP FP.kp bP .nil pass0 (pa_cons (pv 0) (pa_cons (pv 4)
        (pa_cons (pe_lst (pa_cons pe_str (pa_cons pe_str (pa_cons pe_str (pa_cons pe_str (pa_cons pe_str pa_nil)))))) pa_nil)))) (pv 4)))))), ?_⟩
    obtain ⟨p, xs, c, rfl, hp, hb, hc, q⟩ := h
    refine ⟨_, rfl, p, 3, xs, c, rfl, hp, hb, by omega, by decide, by decide, fun n1 ys1 n10 n11 b1 => ?_⟩
    refine ⟨two_ln (by show 8 ≤ 16777216; decide), fun r1 hr1 => ?_⟩
    have g1 : upd (upd H p (.lst ys1)) r1 (.lst [.int 40, .int 0, .int 41, .int 1, .int 39, .int 7, .int 40, .int 12]) p = some (.lst ys1) := upd_grow hr1 _ _ upd_same
    have nr1 : p ≠ r1 := ne_of_none (upd_same (H := H) (a := p) (o := .lst ys1)) hr1
    refine ⟨_, rfl, p, 8, ys1, c + 1, rfl, g1, b1, by omega, by decide, by decide, fun n2 ys2 n20 n21 b2 => ?_⟩
    obtain ⟨m, lm, am⟩ := pick (ns := [40, 0, 41, 1, 39, 7, 40, 12]) (k := 8) 41 rfl (by decide) n20 n21
    refine ixAt (p := r1) (by rw [upd_ne nr1.symm]; exact upd_same) am ?_
    refine ⟨_, _, rfl, ?_⟩
    have k1 : But p H (upd (upd (upd H p (.lst ys1)) r1 (.lst [.int 40, .int 0, .int 41, .int 1, .int 39, .int 7, .int 40, .int 12])) p (.lst ys2)) := But.upd.trans ((But.of (upd_grow hr1)).trans But.upd)
    have h1 := upd_same (H := upd (upd H p (.lst ys1)) r1 (.lst [.int 40, .int 0, .int 41, .int 1, .int 39, .int 7, .int 40, .int 12])) (a := p) (o := .lst ys2)
    generalize upd (upd (upd H p (.lst ys1)) r1 (.lst [.int 40, .int 0, .int 41, .int 1, .int 39, .int 7, .int 40, .int 12])) p (.lst ys2) = H1 at k1 h1 ⊢
    refine ⟨_, rfl, _, rfl, _, rfl, p, _, m, ys2, c + 2, rfl, h1, b2, by omega, by decide, by decide, pl_of (by decide +kernel), fun z ys3 H2 pz lz b3 k2 h2 => ?_⟩
    have kk := k1.trans k2
    refine ⟨_, rfl, _, _, rfl, rfl, _, rfl, iteB (fun _ => ?_) fun _ => ?_⟩
    · refine ⟨_, rfl, _, rfl, two_ln (by show 5 ≤ 16777216; decide), fun mn hmn => ?_⟩
      have k3 := upd_grow (o := .lst (menuT.map V.str)) hmn
      refine ⟨p, mn, z, menuT, ys3, _, rfl, k3 _ _ h2, b3, by omega, upd_same, by decide, by decide, ones_of (by decide +kernel), pz, by omega, fun u ys4 H4 pu lu b4 k4 h4 => ?_⟩
      exact q u ys4 H4 pu (by omega) (b4.mono (by omega)) (kk.trans ((But.of k3).trans k4)) h4
    · exact ⟨_, rfl, q z ys3 H2 pz (by omega) (b3.mono (by omega)) kk h2⟩
theorem ok_dFig (F : Fd K "_law_figures" sDFig f fd) (FT : Fd K "_law_take" sTake fT dT) (FG : Fd K "_law_signs" sSigns fG dG) (FP : Fd K "_law_spoilt" sSpoilt fP dP) (B : BltT mg) (B2 : Blt2 mg) (gT : mg "_law_take" = some (.ref fT))
    (gG : mg "_law_signs" = some (.ref fG)) (gP : mg "_law_spoilt" = some (.ref fP)) : FnOk P w K mg base CX0 3 f fd ["box"] (spDraw 17) := by
  have GT : FnOk P w K mg base CX0 1 fT dT ["box", "many"] spTake := ok_take FT B
  have GG : FnOk P w K mg base CX0 2 fG dG ["box", "alphabet", "many"] spSigns := ok_signs FG FT B B2 gT
  have GP : FnOk P w K mg base CX0 2 fP dP ["box", "signs", "menu"] (spSpoilt K) := ok_spoilt FP FT B B2 gT
  have bT : Binds K dT ["box", "many"] [] := FT.bindsN fun _ _ _ _ _ _ us hl => match us, hl with | [_, _], _ => rfl
  have bG : Binds K dG ["box", "alphabet", "many"] [] := FG.bindsN fun _ _ _ _ _ _ us hl => match us, hl with | [_, _, _], _ => rfl
  have bP : Binds K dP ["box", "signs", "menu"] [] := FP.bindsN fun _ _ _ _ _ _ us hl => match us, hl with | [_, _, _], _ => rfl
  refine F.ok scDFig (fun vs H Q E h => ?_) (fun cdv A outer s H vs Q E hr h => ?_)
  · obtain ⟨p, xs, c, rfl, _⟩ := h
    rfl
  · refine ⟨_, pss_cons (ps_par (i := 1) (j := 2) rfl scDFig.nd rfl rfl (by decide) rfl rfl (pa_cons (pe_call GT (hr.mono (by decide)) (by rfl) gT FT.kp bT .nil pass0 (pa_cons (pv 0) (pa_cons pe_int pa_nil)))
        (pa_cons (pe_ix ix_seq (pe_lst (pa_cons pe_int (pa_cons pe_int (pa_cons pe_int (pa_cons pe_int (pa_cons pe_int (pa_cons pe_int (pa_cons pe_int (pa_cons pe_int pa_nil)))))))))
          (pe_call GT (hr.mono (by decide)) (by rfl) gT FT.kp bT .nil pass0 (pa_cons (pv 0) (pa_cons pe_int pa_nil))) fun _ _ => rfl) pa_nil)) rfl)
      (pss_cons (ps_set (i := 3) scDFig.nd rfl (Or.inl rfl) (pe_op op_add_str (pe_ix ix_seq (pe_lst (pa_cons pe_str (pa_cons pe_str (pa_cons pe_str (pa_cons pe_str (pa_cons pe_str (pa_cons pe_str (pa_cons pe_str (pa_cons pe_str (pa_cons pe_str pa_nil))))))))))
          (pe_call GT (hr.mono (by decide)) (by rfl) gT FT.kp bT .nil pass0 (pa_cons (pv 0) (pa_cons pe_int pa_nil))) fun _ _ => rfl) (pe_call GG hr (by rfl) gG FG.kp bG .nil pass0 (pa_cons (pv 0) (pa_cons pe_str (pa_cons (pv 2) pa_nil))))))
      (pss_cons (ps_set (i := 4) scDFig.nd rfl (Or.inl rfl) (pe_lst (pa_cons pe_str (pa_cons pe_str (pa_cons pe_str (pa_cons pe_str (pa_cons pe_str (pa_cons pe_str (pa_cons pe_str (pa_cons pe_str pa_nil))))))))))
      (pss_cons (ps_set (i := 5) scDFig.nd rfl (Or.inl rfl) (pe_op op_add_str (pe_ix ix_seq (pv 4) (pe_call GT (hr.mono (by decide)) (by rfl) gT FT.kp bT .nil pass0 (pa_cons (pv 0) (pa_cons pe_int pa_nil))) fun _ _ => rfl) (pv 3)))
      (pss_one (ps_ret (pe_ifExp (pt_cmp (pc_eqI (pv 1) pe_int)) (pe_call GP hr (by rfl) gP FP.kp bP .nil pass0 (pa_cons (pv 0) (pa_cons (pv 5)
        (pa_cons (pe_lst (pa_cons pe_str (pa_cons pe_str (pa_cons pe_str (pa_cons pe_str (pa_cons pe_str (pa_cons pe_str (pa_cons pe_str (pa_cons pe_str (pa_cons pe_str (pa_cons pe_str pa_nil))))))))))) pa_nil)))) (pv 5))))))), ?_⟩
    obtain ⟨p, xs, c, rfl, hp, hb, hc, q⟩ := h
    refine ⟨_, rfl, p, 3, xs, c, rfl, hp, hb, by omega, by decide, by decide, fun n1 ys1 n10 n11 b1 => ?_⟩
    refine ⟨two_ln (by show 8 ≤ 16777216; decide), fun r1 hr1 => ?_⟩
    have g1 : upd (upd H p (.lst ys1)) r1 (.lst [.int 1, .int 9, .int 10, .int 0, .int 2, .int 5, .int 8, .int 0]) p = some (.lst ys1) := upd_grow hr1 _ _ upd_same
    have nr1 : p ≠ r1 := ne_of_none (upd_same (H := H) (a := p) (o := .lst ys1)) hr1
    refine ⟨_, rfl, p, 8, ys1, c + 1, rfl, g1, b1, by omega, by decide, by decide, fun n2 ys2 n20 n21 b2 => ?_⟩
    obtain ⟨m, lm, am⟩ := pick (ns := [1, 9, 10, 0, 2, 5, 8, 0]) (k := 8) 10 rfl (by decide) n20 n21
    refine ixAt (p := r1) (by rw [upd_ne nr1.symm]; exact upd_same) am ?_
    refine ⟨_, _, rfl, ?_⟩
    have k1 : But p H (upd (upd (upd H p (.lst ys1)) r1 (.lst [.int 1, .int 9, .int 10, .int 0, .int 2, .int 5, .int 8, .int 0])) p (.lst ys2)) := But.upd.trans ((But.of (upd_grow hr1)).trans But.upd)
    have h1 := upd_same (H := upd (upd H p (.lst ys1)) r1 (.lst [.int 1, .int 9, .int 10, .int 0, .int 2, .int 5, .int 8, .int 0])) (a := p) (o := .lst ys2)
    generalize upd (upd (upd H p (.lst ys1)) r1 (.lst [.int 1, .int 9, .int 10, .int 0, .int 2, .int 5, .int 8, .int 0])) p (.lst ys2) = H1 at k1 h1 ⊢
    refine ⟨two_ln (by show 9 ≤ 16777216; decide), fun r2 hr2 => ?_⟩
    have g2 := upd_grow (o := .lst (wordsF.map V.str)) hr2 _ _ h1
    have nr2 : p ≠ r2 := ne_of_none h1 hr2
    refine ⟨_, rfl, p, 9, ys2, c + 2, rfl, g2, b2, by omega, by decide, by decide, fun n3 ys3 n30 n31 b3 => ?_⟩
    obtain ⟨wd, mw, aw⟩ := pickS (ns := wordsF) (k := 9) rfl n30 n31
    obtain ⟨pw, lw⟩ := few_of (ns := wordsF) (by decide +kernel) wd mw
    refine ixAt (p := r2) (xs := wordsF.map V.str) (by rw [upd_ne nr2.symm]; exact upd_same) aw ?_
    have k2 : But p H (upd (upd H1 r2 (.lst (wordsF.map V.str))) p (.lst ys3)) := k1.trans ((But.of (upd_grow hr2)).trans But.upd)
    have h2 := upd_same (H := upd H1 r2 (.lst (wordsF.map V.str))) (a := p) (o := .lst ys3)
    generalize e2 : upd (upd H1 r2 (.lst (wordsF.map V.str))) p (.lst ys3) = H2 at k2 h2
    have e2' : upd (upd H1 r2 (.lst [.str "", .str "", .str "", .str "", .str "", .str "", .str "0", .str "0", .str "00"])) p (.lst ys3) = H2 := e2
    rw [e2']
    refine ⟨_, rfl, _, rfl, p, _, m, ys3, c + 3, rfl, h2, b3, by omega, by decide, by decide, pl_of (by decide +kernel), fun z ys4 H3 pz lz b4 k3 h3 => ?_⟩
    refine ⟨_, _, rfl, rfl, two_ln (by omega), ?_⟩
    refine ⟨two_ln (by show 8 ≤ 16777216; decide), fun r3 hr3 => ?_⟩
    have k4 := upd_grow (o := .lst (headsF.map V.str)) hr3
    have h4 := upd_same (H := H3) (a := r3) (o := .lst (headsF.map V.str))
    have hp4 := k4 _ _ h3
    have kk := k2.trans (k3.trans (But.of k4))
    have nr3 : r3 ≠ p := (ne_of_none h3 hr3).symm
    generalize e4 : upd H3 r3 (.lst (headsF.map V.str)) = H4 at k4 h4 hp4 kk
    have e4' : upd H3 r3 (.lst [.str "round ", .str "round ", .str "round ", .str "round ", .str "Round ", .str "round", .str "round  ", .str "rounds "]) = H4 := e4
    rw [e4']
    refine ⟨_, rfl, _, rfl, p, 8, ys4, _, rfl, hp4, b4, by omega, by decide, by decide, fun n4 ys5 n40 n41 b5 => ?_⟩
    obtain ⟨hd, mh, ah⟩ := pickS (ns := headsF) (k := 8) rfl n40 n41
    obtain ⟨ph, lh⟩ := few_of (ns := headsF) (by decide +kernel) hd mh
    refine ixAt (p := r3) (by rw [upd_ne nr3]; exact h4) ah ?_
    have l1 : (wd ++ z).length = wd.length + z.length := strLen_append ..
    refine ⟨_, rfl, _, _, rfl, rfl, two_ln (by omega), ?_⟩
    have l2 : (hd ++ (wd ++ z)).length = hd.length + (wd.length + z.length) := by rw [strLen_append, l1]
    have py : Pl (hd ++ (wd ++ z)) := pl_app ph (pl_app pw pz)
    generalize hd ++ (wd ++ z) = y at l2 py
    have k5 := kk.trans (But.upd (p := p) (o := .lst ys5))
    have h5 := upd_same (H := H4) (a := p) (o := .lst ys5)
    generalize upd H4 p (.lst ys5) = H5 at k5 h5
    refine ⟨_, rfl, _, _, rfl, rfl, _, rfl, iteB (fun _ => ?_) fun _ => ?_⟩
    · refine ⟨_, rfl, _, rfl, two_ln (by show 10 ≤ 16777216; decide), fun mn hmn => ?_⟩
      have k6 := upd_grow (o := .lst (menuF.map V.str)) hmn
      refine ⟨p, mn, y, menuF, ys5, _, rfl, k6 _ _ h5, b5, by omega, upd_same, by decide, by decide, ones_of (by decide +kernel), py, by omega, fun u ys6 H6 pu lu b6 k7 h6 => ?_⟩
      exact q u ys6 H6 pu (by omega) (b6.mono (by omega)) (k5.trans ((But.of k6).trans k7)) h6
    · exact ⟨_, rfl, q y ys5 H5 py (by omega) (b5.mono (by omega)) k5 h5⟩
end
end K01

namespace K01
open PySem PySem.Spec PyProof.Rows L2
/-- small data, nested at most k times -/
structure Nice (k : Nat) (d : PyData) : Prop where
  a : asc d = true
  s : d.showable = true
  h : d.depth ≤ k
  w : wt d ≤ 5000 * 4 ^ k
theorem Nice.tame {k : Nat} {d : PyData} (n : Nice k d) (hk : k ≤ 2) : Tame d := by
  obtain ⟨h1, h2, h3, h4⟩ := n
  refine ⟨h1, h2, by omega, ?_⟩
  have z : 4 ^ k ≤ 4 ^ 2 := Nat.pow_le_pow_right (by decide) hk
  omega
theorem Nice.up {k : Nat} {d : PyData} (n : Nice k d) : Nice (k + 1) d := by
  obtain ⟨h1, h2, h3, h4⟩ := n
  refine ⟨h1, h2, by omega, ?_⟩
  rw [Nat.pow_succ]
  omega
theorem nice_str {z : Str} (h : Pl z) (l : z.length ≤ 400) : Nice 0 (.str z) := by
  refine ⟨?_, rfl, Nat.le_refl _, ?_⟩
  · simp only [asc]
    exact List.all_eq_true.mpr fun c hc => decide_eq_true (h c hc)
  · simp only [wt]
    omega
theorem nice_all {k : Nat} : ∀ {ds : List PyData}, (∀ d ∈ ds, Nice k d) → ascAll ds = true ∧ PyData.showableAll ds = true ∧ PyData.depthAll ds ≤ k ∧ wtAll ds ≤ ds.length * (5000 * 4 ^ k + 2)
  | [], _ => ⟨rfl, rfl, Nat.zero_le _, Nat.zero_le _⟩
  | d :: ds, h => by
    obtain ⟨h1, h2, h3, h4⟩ := h d List.mem_cons_self
    obtain ⟨i1, i2, i3, i4⟩ := nice_all fun e he => h e (List.mem_cons_of_mem _ he)
    refine ⟨?_, ?_, ?_, ?_⟩
    · simp only [ascAll]
      rw [h1, i1] <;> rfl
    · simp only [PyData.showableAll]
      rw [h2, i2] <;> rfl
    · simp only [PyData.depthAll]
      omega
    · simp only [wtAll, List.length_cons]
      rw [Nat.add_mul]
      omega
theorem pow_pos4 (k : Nat) : 1 ≤ 4 ^ k := Nat.one_le_pow _ _ (by decide)
theorem nice_tup {k : Nat} {ds : List PyData} (h : ∀ d ∈ ds, Nice k d) (l : ds.length ≤ 3) : Nice (k + 1) (.tuple ds) := by
  obtain ⟨i1, i2, i3, i4⟩ := nice_all h
  refine ⟨by simp only [asc]; exact i1, by simp only [PyData.showable]; exact i2, by simp only [PyData.depth]; omega, ?_⟩
  simp only [wt]
  have z := pow_pos4 k
  have y : ds.length * (5000 * 4 ^ k + 2) ≤ 3 * (5000 * 4 ^ k + 2) := Nat.mul_le_mul_right _ l
  rw [Nat.pow_succ]
  omega
theorem nice_lst {k : Nat} {ds : List PyData} (h : ∀ d ∈ ds, Nice k d) (l : ds.length ≤ 3) : Nice (k + 1) (.list ds) := by
  obtain ⟨i1, i2, i3, i4⟩ := nice_all h
  refine ⟨by simp only [asc]; exact i1, by simp only [PyData.showable]; exact i2, by simp only [PyData.depth]; omega, ?_⟩
  simp only [wt]
  have z := pow_pos4 k
  have y : ds.length * (5000 * 4 ^ k + 2) ≤ 3 * (5000 * 4 ^ k + 2) := Nat.mul_le_mul_right _ l
  rw [Nat.pow_succ]
  omega
theorem nice_dict {k : Nat} {a b : PyData} (h1 : Nice k a) (h2 : Nice k b) : Nice (k + 1) (.dict [(a, b)]) := by
  obtain ⟨a1, a2, a3, a4⟩ := h1
  obtain ⟨b1, b2, b3, b4⟩ := h2
  refine ⟨?_, ?_, ?_, ?_⟩
  · simp only [asc, ascKv]
    rw [a1, b1] <;> rfl
  · simp only [PyData.showable, PyData.showableKv]
    rw [a2, b2] <;> rfl
  · simp only [PyData.depth, PyData.depthKv]
    omega
  · simp only [wt, wtKv]
    have z := pow_pos4 k
    rw [Nat.pow_succ]
    omega
theorem del_new {b p : Addr} {H : Hp} {o u : HO} (hb : H b = some o) (hp : H p = none) : del (upd H p u) b p = some u := by
  rw [del_ne (ne_of_none hb hp).symm]
  exact upd_same
theorem withEv_del {H : Hp} {a C d b : Addr} {o : HO} {fs : List (Str × V)} (hb : H b = some o) (ha : H a = none) (hd : H d = none) (ne : d ≠ a) : EvP [] (del (withEv H a C d fs) b) a C d fs := by
  have e := withEv_ev (H := H) (C := C) (fs := fs) ne
  refine ⟨e.at_.imp (fun z => ?_) (fun ⟨_, z, _⟩ => nomatch z), e.tab.imp (fun z => ?_) fun z => ?_⟩
  · rw [del_ne (ne_of_none hb ha).symm]
    exact z
  · rw [del_ne (ne_of_none hb hd).symm]
    exact z
  · rw [del_ne (ne_of_none hb hd).symm]
    exact z
/-- the texts drawn, in the slots 1 to 4 -/
structure Slots (n t w u : Str) (σ : L2.St) : Prop where
  sn : σ[1]? = some (some (.str n))
  st : σ[2]? = some (some (.str t))
  sw : σ[3]? = some (some (.str w))
  su : σ[4]? = some (some (.str u))
  pn : Pl n ∧ n.length ≤ 100
  pt : Pl t ∧ t.length ≤ 100
  pw : Pl w ∧ w.length ≤ 100
  pu : Pl u ∧ u.length ≤ 100
/-- a new value, no list, that does not reach p -/
def tV (K : PySem.W.Frag) (p : Addr) : TE := fun σ H Q => (∃ n t w u, Slots n t w u σ) ∧ (∃ o, H p = some o) ∧ ∀ v s H', Same H H' → Has K (del H' p) v s → ¬ isList s → Q v H'
def Good (K : PySem.W.Frag) (p : Addr) (H : Hp) (vs : List V) : Prop := ∀ v ∈ vs, ∃ s, Has K (del H p) v s ∧ ¬ isList s
theorem Good.mono {K : PySem.W.Frag} {p : Addr} {H H' : Hp} {vs : List V} (k : Same H H') (g : Good K p H vs) : Good K p H' vs := fun v hv =>
  let ⟨s, h, n⟩ := g v hv
  ⟨s, h.mono (del_mono k), n⟩
def tVs (K : PySem.W.Frag) (p : Addr) (k : Nat) : TA := fun σ H Q => (∃ n t w u, Slots n t w u σ) ∧ (∃ o, H p = some o) ∧ ∀ vs H', Same H H' → vs.length = k → Good K p H' vs → Q vs H'
section
variable {X : Cx} {e : Expr} {es : List Expr} {k : Nat} {p : Addr}
theorem pa_v0 : PA X [] (tVs X.K p 0) := pa_nil.mono fun σ H Q ⟨_, _, q⟩ => q [] H (Same.refl H) rfl fun v z => nomatch z
theorem pa_v1 (he : PE X e (tV X.K p)) (h : PA X es (tVs X.K p k)) (hs : starEach (e :: es) X.env = (false, eval e X.env) :: starEach es X.env := by rfl) : PA X (e :: es) (tVs X.K p (k + 1)) := by
  refine (pa_cons he h hs).mono fun σ H Q ⟨S, ⟨o, ho⟩, q⟩ => ⟨S, ⟨o, ho⟩, fun v s H1 k1 t1 n1 => ⟨S, ⟨o, k1 _ _ ho⟩, fun vs H2 k2 l2 t2 => ?_⟩⟩
  refine q _ H2 (k1.trans k2) (by rw [List.length_cons, l2]) fun y hy => ?_
  rcases List.mem_cons.mp hy with rfl | hy
  · exact ⟨s, t1.mono (del_mono k2), n1⟩
  · exact t2 y hy
end
section
variable {K : PySem.W.Frag} {p : Addr}
theorem v_c {y : V} {d : PyData} (r : ∀ H, Rdd H y d) (nd : Nice 0 d) (nl : ¬ isList (.dat d)) : ∀ σ H Q, tV K p σ H Q → tC y σ H Q :=
  fun _ H _ ⟨_, _, q⟩ => q y (.dat d) H (Same.refl H) ⟨r _, nd.tame (by decide)⟩ nl
/-- a text made of those -/
theorem v_s {te : TE} (z : Str → Str → Str → Str → Str) (ht : ∀ n t w u σ H (Q : VK), Slots n t w u σ → Q (.str (z n t w u)) H → te σ H Q) (nd : ∀ n t w u σ, Slots n t w u σ → Pl (z n t w u) ∧ (z n t w u).length ≤ 400) : ∀ σ H Q, tV K p σ H Q → te σ H Q :=
  fun σ H Q ⟨⟨n, t, w, u, S⟩, _, q⟩ => ht n t w u σ H Q S (q _ (.dat (.str (z n t w u))) H (Same.refl H) ⟨.str _, (nice_str (nd n t w u σ S).1 (nd n t w u σ S).2).tame (by decide)⟩ id)
theorem v_tup {ta : TA} (xs : Str → Str → Str → Str → List V) (ds : Str → Str → Str → Str → List PyData) (ht : ∀ n t w u σ H (Q : List V → Hp → Prop), Slots n t w u σ → Q (xs n t w u) H → ta σ H Q)
    (r : ∀ n t w u H, RddAll H (xs n t w u) (ds n t w u)) (nd : ∀ n t w u σ, Slots n t w u σ → ∀ d ∈ ds n t w u, Nice 0 d) (l : ∀ n t w u, (ds n t w u).length ≤ 3) :
    ∀ σ H Q, tV K p σ H Q → tTup ta σ H Q := fun σ H Q ⟨⟨n, t, w, u, S⟩, ⟨o, ho⟩, q⟩ => ht n t w u σ H _ S ⟨two_ln (by have := rdds_len (r n t w u H); have := l n t w u; omega), fun a ha =>
    q _ (.dat (.tuple (ds n t w u))) _ (upd_grow ha) ⟨.tup (del_new ho ha) (r n t w u _), (nice_tup (nd n t w u σ S) (l n t w u)).tame (by decide)⟩ id⟩
theorem Slots.nn {n t w u : Str} {σ : L2.St} (S : Slots n t w u σ) : Nice 0 (.str n) := nice_str S.pn.1 (by have := S.pn.2; omega)
theorem Slots.nt {n t w u : Str} {σ : L2.St} (S : Slots n t w u σ) : Nice 0 (.str t) := nice_str S.pt.1 (by have := S.pt.2; omega)
theorem Slots.nw {n t w u : Str} {σ : L2.St} (S : Slots n t w u σ) : Nice 0 (.str w) := nice_str S.pw.1 (by have := S.pw.2; omega)
theorem Slots.nu {n t w u : Str} {σ : L2.St} (S : Slots n t w u σ) : Nice 0 (.str u) := nice_str S.pu.1 (by have := S.pu.2; omega)
theorem n1 {a : PyData} {k : Nat} (h1 : Nice k a) : ∀ d ∈ [a], Nice k d := fun d hd => by
  rw [List.mem_singleton.mp hd]
  exact h1
theorem n2 {a b : PyData} {k : Nat} (h1 : Nice k a) (h2 : Nice k b) : ∀ d ∈ [a, b], Nice k d := fun d hd => by
  rcases List.mem_cons.mp hd with rfl | hd
  · exact h1
  · exact n1 h2 d hd
theorem n3 {a b c : PyData} {k : Nat} (h1 : Nice k a) (h2 : Nice k b) (h3 : Nice k c) : ∀ d ∈ [a, b, c], Nice k d := fun d hd => by
  rcases List.mem_cons.mp hd with rfl | hd
  · exact h1
  · exact n2 h2 h3 d hd
theorem nice_non : Nice 0 .none := ⟨rfl, rfl, Nat.le_refl _, by simp only [wt]; decide⟩
theorem nice_bl (b : Bool) : Nice 0 (.bool b) := ⟨rfl, rfl, Nat.le_refl _, by simp only [wt]; decide⟩
theorem nice_int {i : Int} (h : (PyData.int i).showable = true) (l : (PyData.shown (.int i)).length ≤ 5000) : Nice 0 (.int i) := ⟨rfl, h, Nat.le_refl _, l⟩
theorem sz {a b : Nat} (h : a + b ≤ 1000) : a + b ≤ sizeLine := two_ln (by omega)
end
end K01

namespace K01
open PySem PySem.Spec PyProof.Rows L2
abbrev sValues : Stmt := top 38
theorem scValues : FnScope ["box", "name", "text", "word", "pure", "found"] ["box"] (defScope sValues) := ⟨rfl, rfl, rfl, by decide +kernel, rfl, by decide +kernel, by decide +kernel⟩
theorem add_len {a b : Str} {k l : Nat} (h1 : a.length ≤ k) (h2 : b.length ≤ l) (h : k + l ≤ 1000) : a.length + b.length ≤ sizeLine := two_ln (by omega)
theorem app_len {a b : Str} {k l : Nat} (h1 : a.length ≤ k) (h2 : b.length ≤ l) : (a ++ b).length ≤ k + l := by
  rw [strLen_append]
  omega
theorem putK_nil {k : Key} {v : V} : putK ([] : List (Key × V)) k v = [(k, v)] := putK_new v rfl
section
variable {K : PySem.W.Frag} {p : Addr}
theorem v_d1 : ∀ σ H Q, tV K p σ H Q → tTup (tCons (tTup (tCons (tVar 4) (tCons (tVar 3) tNil))) tNil) σ H Q := fun σ H Q ⟨⟨n, t, w, u, S⟩, ⟨o, ho⟩, q⟩ =>
  ⟨_, S.su, _, S.sw, two_ln (by show 2 ≤ 16777216; decide), fun a ha => ⟨two_ln (by show 1 ≤ 16777216; decide), fun b hb => q _ (.dat (.tuple [.tuple [.str u, .str w]])) _ ((upd_grow ha).trans (upd_grow hb))
    ⟨.tup (del_new (upd_grow ha _ _ ho) hb) (.cons (.tup (xs := [.str u, .str w]) (del_mono (upd_grow hb) _ _ (del_new ho ha)) (.cons (.str _) (.cons (.str _) .nil))) .nil), (nice_tup (n1 (nice_tup (n2 S.nu S.nw) (Nat.le_of_ble_eq_true rfl))) (Nat.le_of_ble_eq_true rfl)).tame (by decide)⟩ id⟩⟩
theorem v_d2 : ∀ σ H Q, tV K p σ H Q → tTup (tCons (tVar 4) (tCons (tTup (tCons (tVar 3) tNil)) tNil)) σ H Q := fun σ H Q ⟨⟨n, t, w, u, S⟩, ⟨o, ho⟩, q⟩ =>
  ⟨_, S.su, _, S.sw, two_ln (by show 1 ≤ 16777216; decide), fun a ha => ⟨two_ln (by show 2 ≤ 16777216; decide), fun b hb => q _ (.dat (.tuple [.str u, .tuple [.str w]])) _ ((upd_grow ha).trans (upd_grow hb))
    ⟨.tup (del_new (upd_grow ha _ _ ho) hb) (.cons (.str _) (.cons (.tup (xs := [.str w]) (del_mono (upd_grow hb) _ _ (del_new ho ha)) (.cons (.str _) .nil)) .nil)), (nice_tup (n2 S.nu.up (nice_tup (n1 S.nw) (Nat.le_of_ble_eq_true rfl))) (Nat.le_of_ble_eq_true rfl)).tame (by decide)⟩ id⟩⟩
theorem v_d3 : ∀ σ H Q, tV K p σ H Q → tTup (tCons (tVar 4) (tCons (tLst (tCons (tVar 3) tNil)) tNil)) σ H Q := fun σ H Q ⟨⟨n, t, w, u, S⟩, ⟨o, ho⟩, q⟩ =>
  ⟨_, S.su, _, S.sw, two_ln (by show 1 ≤ 16777216; decide), fun a ha => ⟨two_ln (by show 2 ≤ 16777216; decide), fun b hb => q _ (.dat (.tuple [.str u, .list [.str w]])) _ ((upd_grow ha).trans (upd_grow hb))
    ⟨.tup (del_new (upd_grow ha _ _ ho) hb) (.cons (.str _) (.cons (.lst (xs := [.str w]) (del_mono (upd_grow hb) _ _ (del_new ho ha)) (.cons (.str _) .nil)) .nil)), (nice_tup (n2 S.nu.up (nice_lst (n1 S.nw) (Nat.le_of_ble_eq_true rfl))) (Nat.le_of_ble_eq_true rfl)).tame (by decide)⟩ id⟩⟩
theorem v_d4 : ∀ σ H Q, tV K p σ H Q → tDisp [(tC (.str "a"), tVar 3)] σ H Q := fun σ H Q ⟨⟨n, t, w, u, S⟩, ⟨o, ho⟩, q⟩ a ha => by
  refine ⟨_, S.sw, ⟨upd_same, [(.inr "a", .str w)], rfl, (by show 1 ≤ 15; decide), ?_⟩⟩
  have e : mergeK [] [((.inr "a" : Key), V.str w)] = [(.inr "a", .str w)] := putK_nil
  rw [e, upd_upd]
  exact q _ (.dat (.dict [(.str "a", .str w)])) _ (upd_grow ha) ⟨.dK (del_new ho ha) (.cons (.str _) .nil) (.cons (.str _) .nil), (nice_dict (nice_str (pl_of (by decide +kernel)) (by decide)) S.nw).tame (by decide)⟩ id
theorem v_d6 : ∀ σ H Q, tV K p σ H Q → tDNewK σ H Q := fun σ H Q ⟨_, ⟨o, ho⟩, q⟩ a ha =>
  q _ (.dat (.dict [])) _ (upd_grow ha) ⟨.dK (del_new ho ha) .nil .nil, ⟨rfl, rfl, by decide, by decide⟩⟩ id
/-- X(constant): a new error that does not reach b -/
def tE1C (C : Addr) (f0 : Str) (y : V) (b : Addr) : TE := fun σ H Q => (∃ o, H b = some o) ∧ ∀ a d H', Same H H' → EvP [] (del H' b) a C d [(f0, y)] → Q (.ref a) H'
theorem pe_e1C {X : Cx} {x f0 : Str} {y : V} {v : Expr} {pp pos : Pos} {b : Addr} (O : One X.prog X.w X.K X.mg X.base x f0) (hr : Room 2 X.A) (hv : PE X v (tC y)) (hg : Gl X x) (hdb : (x == ("__debug__" : Str)) = false := by decide)
    (he : starEach [v] X.env = (false, eval v X.env) :: starEach [] X.env := by rfl) (hpl : (backTo pos (starEach [] X.env)).any (·.1) = false := by rfl) :
    PE X (.Call (.Name x pp) [v] [] pos) (tE1C (He.ga X.K x) f0 y b) := by
  obtain ⟨fd, F, b1, b2⟩ := O.ini
  refine (pe_mkEv O.T O.iC O.tI F hr b1 pass0 (by decide) hg O.mgx (pa_cons hv pa_nil he) hdb he hpl).mono fun σ H Q ⟨⟨o, ho⟩, q⟩ => ?_
  refine ⟨rfl, rfl, fun a ha => ⟨a, y, rfl, upd_same, fun dx n ne => ⟨rfl, ?_⟩⟩⟩
  rw [upd_withEv]
  have n2 : H dx = none := by rwa [upd_ne ne] at n
  exact q a dx _ (withEv_same ha n2) (withEv_del ho ha n2 ne)
theorem v_e1 : ∀ σ H Q, tV K p σ H Q → tE1C (He.ga K "InvalidText") "given" (.str "x") p σ H Q := fun σ H Q ⟨_, ho, q⟩ =>
  ⟨ho, fun a d H1 k1 e1 => q _ .exc H1 k1 ⟨a, d, rfl, e1⟩ id⟩
theorem v_e2 : ∀ σ H Q, tV K p σ H Q → tTup (tCons (tVar 4) (tCons (tE1C (He.ga K "InvalidText") "given" (.str "x") p) tNil)) σ H Q := fun σ H Q ⟨⟨n, t, w, u, S⟩, ⟨o, ho⟩, q⟩ =>
  ⟨_, S.su, ⟨o, ho⟩, fun a d H1 k1 e1 => ⟨two_ln (by show 2 ≤ 16777216; decide), fun b hb => q _ (.mix u) _ (k1.trans (upd_grow hb))
    ⟨b, _, rfl, del_new (k1 _ _ ho) hb, ⟨a, d, rfl, e1.mono (fun _ z => z) (del_mono (upd_grow hb))⟩, S.nu.tame (by decide)⟩ id⟩⟩
/-- found + [row] -/
theorem row_cat {σ : L2.St} {H : Hp} {k2 : Nat} {r : Addr} {vs : List V} {Q : VK} {o : HO} (hσ : σ[5]? = some (some (.ref r))) (S : ∃ n t w u, Slots n t w u σ) (hr : H r = some (.lst vs)) (hp : H p = some o) (g : Good K p H vs) (lv : vs.length + k2 ≤ 200)
    (next : ∀ r' vs' H', Same H H' → H' r' = some (.lst vs') → r' ≠ p → vs'.length = vs.length + k2 → Good K p H' vs' → Q (.ref r') H') : tOp rCat (tVar 5) (tLst (tVs K p k2)) σ H Q := by
  refine ⟨_, hσ, S, ⟨o, hp⟩, fun us H1 k1 l1 g1 => ⟨two_ln (by omega), fun a ha => ?_⟩⟩
  have ka := upd_grow (o := .lst us) ha
  refine ⟨r, a, vs, us, rfl, rfl, ka _ _ (k1 _ _ hr), upd_same, two_ln (by omega), fun b hb => ?_⟩
  have kb := upd_grow (o := .lst (vs ++ us)) hb
  refine next b _ _ (k1.trans (ka.trans kb)) upd_same (ne_of_none (ka _ _ (k1 _ _ hp)) hb).symm (by rw [List.length_append, l1]) fun v hv => ?_
  rcases List.mem_append.mp hv with hv | hv
  · exact g.mono (k1.trans (ka.trans kb)) v hv
  · exact g1.mono (ka.trans kb) v hv
end
/-- values are drawn -/
def spValues (K : PySem.W.Frag) : Sp := fun vs H Q _ => ∃ (p : Addr) (xs : List V) (c : Nat), vs = [.ref p] ∧ H p = some (.lst xs) ∧ Box c xs ∧ c + 86 < 1000 ∧
  ∀ r us ys H', But p H H' → H' p = some (.lst ys) → Box (c + 86) ys → H' r = some (.lst us) → r ≠ p → us.length ≤ 200 → Good K p H' us → Q (.ref r) H'
section
variable {P : Program} {w : World} {K : PySem.W.Frag} {mg : Str → Option Value} {base : Heap} {f fN fX fF fG fT : Addr} {fd dN dX dF dG dT : FuncData}
theorem ok_values (F : Fd K "_law_values" sValues f fd) (FN : Fd K "_law_name" sDName fN dN) (FX : Fd K "_law_text" sDText fX dX) (FF : Fd K "_law_figures" sDFig fF dF) (FG : Fd K "_law_signs" sSigns fG dG) (FT : Fd K "_law_take" sTake fT dT)
    (GN : FnOk P w K mg base CX0 3 fN dN ["box"] (spDraw 14)) (GX : FnOk P w K mg base CX0 3 fX dX ["box"] (spDraw 46)) (GF : FnOk P w K mg base CX0 3 fF dF ["box"] (spDraw 17)) (GG : FnOk P w K mg base CX0 2 fG dG ["box", "alphabet", "many"] spSigns)
    (B : BltT mg) (O : One P w K mg base "InvalidText" "given") (gN : mg "_law_name" = some (.ref fN)) (gX : mg "_law_text" = some (.ref fX)) (gF : mg "_law_figures" = some (.ref fF)) (gG : mg "_law_signs" = some (.ref fG)) (gT : mg "_law_take" = some (.ref fT)) :
    FnOk P w K mg base CX0 4 f fd ["box"] (spValues K) := by
  have GT : FnOk P w K mg base CX0 1 fT dT ["box", "many"] spTake := ok_take FT B
  have bT : Binds K dT ["box", "many"] [] := FT.bindsN fun _ _ _ _ _ _ us hl => match us, hl with | [_, _], _ => rfl
  have bG : Binds K dG ["box", "alphabet", "many"] [] := FG.bindsN fun _ _ _ _ _ _ us hl => match us, hl with | [_, _, _], _ => rfl
  have bN : Binds K dN ["box"] [] := FN.bindsN fun _ _ _ _ _ _ us hl => match us, hl with | [_], _ => rfl
  have bX : Binds K dX ["box"] [] := FX.bindsN fun _ _ _ _ _ _ us hl => match us, hl with | [_], _ => rfl
  have bF : Binds K dF ["box"] [] := FF.bindsN fun _ _ _ _ _ _ us hl => match us, hl with | [_], _ => rfl
  refine F.ok scValues (fun vs H Q E h => ?_) (fun cdv A outer s H vs Q E hr h => ?_)
  · obtain ⟨p, xs, c, rfl, _⟩ := h
    rfl
  · obtain ⟨p, xs, c, rfl, hp, hb, hc, q⟩ := h
    refine ⟨_, pss_cons (ps_par3 (i := 1) (j := 2) (l := 3) rfl scValues.nd rfl rfl rfl (by decide) (by decide) (by decide) rfl rfl rfl (pa_cons (pe_call GN hr (by rfl) gN FN.kp bN .nil pass0 (pa_cons (pv 0) pa_nil))
        (pa_cons (pe_call GX hr (by rfl) gX FX.kp bX .nil pass0 (pa_cons (pv 0) pa_nil)) (pa_cons (pe_call GF hr (by rfl) gF FF.kp bF .nil pass0 (pa_cons (pv 0) pa_nil)) pa_nil))) rfl)
      (pss_cons (ps_set (i := 4) scValues.nd rfl (Or.inl rfl) (pe_call GG (hr.mono (by decide)) (by rfl) gG FG.kp bG .nil pass0 (pa_cons (pv 0) (pa_cons pe_str (pa_cons (pe_op op_add pe_int
        (pe_call GT (hr.mono (by decide)) (by rfl) gT FT.kp bT .nil pass0 (pa_cons (pv 0) (pa_cons pe_int pa_nil)))) pa_nil)))))
      (pss_cons (ps_set (i := 5) scValues.nd rfl (Or.inl rfl) (pe_lst
        (pa_v1 (p := p) ((pv 1).mono (v_s (fun n t w u => n) (fun n t w u σ H Q S q => ⟨_, S.sn, q⟩) (fun n t w u σ S => ⟨S.pn.1, by have := S.pn.2; omega⟩)))
        (pa_v1 (p := p) ((pv 2).mono (v_s (fun n t w u => t) (fun n t w u σ H Q S q => ⟨_, S.st, q⟩) (fun n t w u σ S => ⟨S.pt.1, by have := S.pt.2; omega⟩)))
        (pa_v1 (p := p) ((pv 3).mono (v_s (fun n t w u => w) (fun n t w u σ H Q S q => ⟨_, S.sw, q⟩) (fun n t w u σ S => ⟨S.pw.1, by have := S.pw.2; omega⟩)))
        (pa_v1 (p := p) ((pe_tup (pa_cons (pv 1) (pa_cons (pv 2) pa_nil))).mono (v_tup (fun n t w u => [.str n, .str t]) (fun n t w u => [.str n, .str t]) (fun n t w u σ H Q S q => ⟨_, S.sn, _, S.st, q⟩) (fun _ _ _ _ _ => (.cons (.str _) (.cons (.str _) .nil))) (fun n t w u σ S => n2 S.nn S.nt) (fun _ _ _ _ => Nat.le_of_ble_eq_true rfl)))
        (pa_v1 (p := p) ((pe_tup (pa_cons (pv 4) (pa_cons (pv 2) pa_nil))).mono (v_tup (fun n t w u => [.str u, .str t]) (fun n t w u => [.str u, .str t]) (fun n t w u σ H Q S q => ⟨_, S.su, _, S.st, q⟩) (fun _ _ _ _ _ => (.cons (.str _) (.cons (.str _) .nil))) (fun n t w u σ S => n2 S.nu S.nt) (fun _ _ _ _ => Nat.le_of_ble_eq_true rfl)))
        (pa_v1 (p := p) ((pe_tup (pa_cons (pv 4) (pa_cons (pv 3) pa_nil))).mono (v_tup (fun n t w u => [.str u, .str w]) (fun n t w u => [.str u, .str w]) (fun n t w u σ H Q S q => ⟨_, S.su, _, S.sw, q⟩) (fun _ _ _ _ _ => (.cons (.str _) (.cons (.str _) .nil))) (fun n t w u σ S => n2 S.nu S.nw) (fun _ _ _ _ => Nat.le_of_ble_eq_true rfl)))
        (pa_v1 (p := p) ((pe_tup (pa_cons (pv 1) (pa_cons (pv 3) pa_nil))).mono (v_tup (fun n t w u => [.str n, .str w]) (fun n t w u => [.str n, .str w]) (fun n t w u σ H Q S q => ⟨_, S.sn, _, S.sw, q⟩) (fun _ _ _ _ _ => (.cons (.str _) (.cons (.str _) .nil))) (fun n t w u σ S => n2 S.nn S.nw) (fun _ _ _ _ => Nat.le_of_ble_eq_true rfl)))
        (pa_v1 (p := p) ((pe_op op_add_str (pe_op op_add_str (pv 1) pe_str) (pv 2)).mono (v_s (fun n t w u => ((n ++ (Str.ofString " ")) ++ t)) (fun n t w u σ H Q S q => ⟨_, S.sn, _, _, rfl, rfl, add_len S.pn.2 (by decide : (Str.ofString " ").length ≤ 2) (by decide), _, S.st, _, _, rfl, rfl, add_len (app_len S.pn.2 (by decide : (Str.ofString " ").length ≤ 2)) S.pt.2 (by decide), q⟩) (fun n t w u σ S => ⟨(pl_app (pl_app S.pn.1 (pl_of (by decide +kernel))) S.pt.1), Nat.le_trans (app_len (app_len S.pn.2 (by decide : (Str.ofString " ").length ≤ 2)) S.pt.2) (by decide)⟩)))
        (pa_v0 (p := p))))))))))))
      (pss_cons (ps_set (i := 5) scValues.nd rfl (Or.inl rfl) (pe_op op_cat (pv 5) (pe_lst
        (pa_v1 (p := p) ((pe_op op_add_str (pe_op op_add_str (pv 4) pe_str) (pv 2)).mono (v_s (fun n t w u => ((u ++ (Str.ofString " ")) ++ t)) (fun n t w u σ H Q S q => ⟨_, S.su, _, _, rfl, rfl, add_len S.pu.2 (by decide : (Str.ofString " ").length ≤ 2) (by decide), _, S.st, _, _, rfl, rfl, add_len (app_len S.pu.2 (by decide : (Str.ofString " ").length ≤ 2)) S.pt.2 (by decide), q⟩) (fun n t w u σ S => ⟨(pl_app (pl_app S.pu.1 (pl_of (by decide +kernel))) S.pt.1), Nat.le_trans (app_len (app_len S.pu.2 (by decide : (Str.ofString " ").length ≤ 2)) S.pt.2) (by decide)⟩)))
        (pa_v1 (p := p) ((pe_op op_add_str (pe_op op_add_str (pv 4) pe_str) (pv 3)).mono (v_s (fun n t w u => ((u ++ (Str.ofString "  ")) ++ w)) (fun n t w u σ H Q S q => ⟨_, S.su, _, _, rfl, rfl, add_len S.pu.2 (by decide : (Str.ofString "  ").length ≤ 2) (by decide), _, S.sw, _, _, rfl, rfl, add_len (app_len S.pu.2 (by decide : (Str.ofString "  ").length ≤ 2)) S.pw.2 (by decide), q⟩) (fun n t w u σ S => ⟨(pl_app (pl_app S.pu.1 (pl_of (by decide +kernel))) S.pw.1), Nat.le_trans (app_len (app_len S.pu.2 (by decide : (Str.ofString "  ").length ≤ 2)) S.pw.2) (by decide)⟩)))
        (pa_v1 (p := p) ((pe_op op_add_str (pv 4) (pv 2)).mono (v_s (fun n t w u => (u ++ t)) (fun n t w u σ H Q S q => ⟨_, S.su, _, S.st, _, _, rfl, rfl, add_len S.pu.2 S.pt.2 (by decide), q⟩) (fun n t w u σ S => ⟨(pl_app S.pu.1 S.pt.1), Nat.le_trans (app_len S.pu.2 S.pt.2) (by decide)⟩)))
        (pa_v1 (p := p) ((pe_op op_add_str (pe_op op_add_str (pe_op op_add_str pe_str (pv 4)) pe_str) (pv 3)).mono (v_s (fun n t w u => ((((Str.ofString " ") ++ u) ++ (Str.ofString " ")) ++ w)) (fun n t w u σ H Q S q => ⟨_, S.su, _, _, rfl, rfl, add_len (by decide : (Str.ofString " ").length ≤ 2) S.pu.2 (by decide), _, _, rfl, rfl, add_len (app_len (by decide : (Str.ofString " ").length ≤ 2) S.pu.2) (by decide : (Str.ofString " ").length ≤ 2) (by decide), _, S.sw, _, _, rfl, rfl, add_len (app_len (app_len (by decide : (Str.ofString " ").length ≤ 2) S.pu.2) (by decide : (Str.ofString " ").length ≤ 2)) S.pw.2 (by decide), q⟩) (fun n t w u σ S => ⟨(pl_app (pl_app (pl_app (pl_of (by decide +kernel)) S.pu.1) (pl_of (by decide +kernel))) S.pw.1), Nat.le_trans (app_len (app_len (app_len (by decide : (Str.ofString " ").length ≤ 2) S.pu.2) (by decide : (Str.ofString " ").length ≤ 2)) S.pw.2) (by decide)⟩)))
        (pa_v1 (p := p) ((pv 4).mono (v_s (fun n t w u => u) (fun n t w u σ H Q S q => ⟨_, S.su, q⟩) (fun n t w u σ S => ⟨S.pu.1, by have := S.pu.2; omega⟩)))
        (pa_v1 (p := p) ((pe_op op_add_str (pv 4) pe_str).mono (v_s (fun n t w u => (u ++ (Str.ofString " "))) (fun n t w u σ H Q S q => ⟨_, S.su, _, _, rfl, rfl, add_len S.pu.2 (by decide : (Str.ofString " ").length ≤ 2) (by decide), q⟩) (fun n t w u σ S => ⟨(pl_app S.pu.1 (pl_of (by decide +kernel))), Nat.le_trans (app_len S.pu.2 (by decide : (Str.ofString " ").length ≤ 2)) (by decide)⟩)))
        (pa_v0 (p := p)))))))))))
      (pss_cons (ps_set (i := 5) scValues.nd rfl (Or.inl rfl) (pe_op op_cat (pv 5) (pe_lst
        (pa_v1 (p := p) ((pe_tup (pa_cons (pv 4) (pa_cons pe_str pa_nil))).mono (v_tup (fun n t w u => [.str u, .str ""]) (fun n t w u => [.str u, .str ""]) (fun n t w u σ H Q S q => ⟨_, S.su, q⟩) (fun _ _ _ _ _ => (.cons (.str _) (.cons (.str _) .nil))) (fun n t w u σ S => n2 S.nu (nice_str (pl_of (by decide +kernel)) (by decide))) (fun _ _ _ _ => Nat.le_of_ble_eq_true rfl)))
        (pa_v1 (p := p) ((pe_tup (pa_cons (pv 4) (pa_cons (pv 2) (pa_cons (pv 2) pa_nil)))).mono (v_tup (fun n t w u => [.str u, .str t, .str t]) (fun n t w u => [.str u, .str t, .str t]) (fun n t w u σ H Q S q => ⟨_, S.su, _, S.st, _, S.st, q⟩) (fun _ _ _ _ _ => (.cons (.str _) (.cons (.str _) (.cons (.str _) .nil)))) (fun n t w u σ S => n3 S.nu S.nt S.nt) (fun _ _ _ _ => Nat.le_of_ble_eq_true rfl)))
        (pa_v1 (p := p) ((pe_tup (pa_cons (pv 4) pa_nil)).mono (v_tup (fun n t w u => [.str u]) (fun n t w u => [.str u]) (fun n t w u σ H Q S q => ⟨_, S.su, q⟩) (fun _ _ _ _ _ => (.cons (.str _) .nil)) (fun n t w u σ S => n1 S.nu) (fun _ _ _ _ => Nat.le_of_ble_eq_true rfl)))
        (pa_v1 (p := p) ((pe_tup (pa_cons (pv 2) (pa_cons (pv 4) pa_nil))).mono (v_tup (fun n t w u => [.str t, .str u]) (fun n t w u => [.str t, .str u]) (fun n t w u σ H Q S q => ⟨_, S.st, _, S.su, q⟩) (fun _ _ _ _ _ => (.cons (.str _) (.cons (.str _) .nil))) (fun n t w u σ S => n2 S.nt S.nu) (fun _ _ _ _ => Nat.le_of_ble_eq_true rfl)))
        (pa_v1 (p := p) ((pe_tup (pa_cons (pv 4) (pa_cons pe_non pa_nil))).mono (v_tup (fun n t w u => [.str u, .non]) (fun n t w u => [.str u, .none]) (fun n t w u σ H Q S q => ⟨_, S.su, q⟩) (fun _ _ _ _ _ => (.cons (.str _) (.cons .non .nil))) (fun n t w u σ S => n2 S.nu nice_non) (fun _ _ _ _ => Nat.le_of_ble_eq_true rfl)))
        (pa_v1 (p := p) ((pe_tup (pa_cons pe_non (pa_cons (pv 3) pa_nil))).mono (v_tup (fun n t w u => [.non, .str w]) (fun n t w u => [.none, .str w]) (fun n t w u σ H Q S q => ⟨_, S.sw, q⟩) (fun _ _ _ _ _ => (.cons .non (.cons (.str _) .nil))) (fun n t w u σ S => n2 nice_non S.nw) (fun _ _ _ _ => Nat.le_of_ble_eq_true rfl)))
        (pa_v1 (p := p) ((pe_tup (pa_cons (pv 4) (pa_cons pe_int pa_nil))).mono (v_tup (fun n t w u => [.str u, .int 7]) (fun n t w u => [.str u, .int 7]) (fun n t w u σ H Q S q => ⟨_, S.su, q⟩) (fun _ _ _ _ _ => (.cons (.str _) (.cons (.int _) .nil))) (fun n t w u σ S => n2 S.nu (nice_int (by decide +kernel) (by decide +kernel))) (fun _ _ _ _ => Nat.le_of_ble_eq_true rfl)))
        (pa_v0 (p := p))))))))))))
      (pss_cons (ps_set (i := 5) scValues.nd rfl (Or.inl rfl) (pe_op op_cat (pv 5) (pe_lst
        (pa_v1 (p := p) ((pe_tup (pa_cons (pe_tup (pa_cons (pv 4) (pa_cons (pv 3) pa_nil))) pa_nil)).mono v_d1)
        (pa_v1 (p := p) ((pe_tup (pa_cons (pv 4) (pa_cons (pe_tup (pa_cons (pv 3) pa_nil)) pa_nil))).mono v_d2)
        (pa_v1 (p := p) ((pe_tup (pa_cons (pv 4) (pa_cons (pe_lst (pa_cons (pv 3) pa_nil)) pa_nil))).mono v_d3)
        (pa_v1 (p := p) ((pe_disp (pps_cons pe_str (pv 3) pps_nil) rfl rfl (by simp) (by decide)).mono v_d4)
        (pa_v1 (p := p) ((pe_tup pa_nil).mono (v_tup (fun n t w u => []) (fun n t w u => []) (fun n t w u σ H Q S q => q) (fun _ _ _ _ _ => .nil) (fun n t w u σ S => fun d z => nomatch z) (fun _ _ _ _ => Nat.le_of_ble_eq_true rfl)))
        (pa_v1 (p := p) (pe_dnewK.mono v_d6)
        (pa_v1 (p := p) (pe_non.mono (v_c (d := .none) (fun _ => .non) nice_non id))
        (pa_v1 (p := p) (pe_bl.mono (v_c (d := .bool true) (fun _ => (.bl _)) (nice_bl true) id))
        (pa_v1 (p := p) (pe_bl.mono (v_c (d := .bool false) (fun _ => (.bl _)) (nice_bl false) id))
        (pa_v1 (p := p) (pe_int.mono (v_c (d := .int 0) (fun _ => (.int _)) (nice_int (by decide +kernel) (by decide +kernel)) id))
        (pa_v1 (p := p) (pe_int.mono (v_c (d := .int 7) (fun _ => (.int _)) (nice_int (by decide +kernel) (by decide +kernel)) id))
        (pa_v0 (p := p))))))))))))))))
      (pss_cons (ps_set (i := 5) scValues.nd rfl (Or.inl rfl) (pe_op op_cat (pv 5) (pe_lst
        (pa_v1 (p := p) (pe_str.mono (v_c (d := .str "round 0") (fun _ => (.str _)) (nice_str (pl_of (by decide +kernel)) (by decide)) id))
        (pa_v1 (p := p) (pe_str.mono (v_c (d := .str "round 00") (fun _ => (.str _)) (nice_str (pl_of (by decide +kernel)) (by decide)) id))
        (pa_v1 (p := p) (pe_str.mono (v_c (d := .str "round 123456789") (fun _ => (.str _)) (nice_str (pl_of (by decide +kernel)) (by decide)) id))
        (pa_v1 (p := p) (pe_str.mono (v_c (d := .str "round 1234567890") (fun _ => (.str _)) (nice_str (pl_of (by decide +kernel)) (by decide)) id))
        (pa_v1 (p := p) (pe_str.mono (v_c (d := .str "round 07") (fun _ => (.str _)) (nice_str (pl_of (by decide +kernel)) (by decide)) id))
        (pa_v1 (p := p) (pe_str.mono (v_c (d := .str "round ") (fun _ => (.str _)) (nice_str (pl_of (by decide +kernel)) (by decide)) id))
        (pa_v1 (p := p) (pe_str.mono (v_c (d := .str "round -1") (fun _ => (.str _)) (nice_str (pl_of (by decide +kernel)) (by decide)) id))
        (pa_v0 (p := p))))))))))))
      (pss_one (ps_ret (pe_op op_cat (pv 5) (pe_lst
        (pa_v1 (p := p) ((pe_op op_pow pe_int pe_int).mono fun σ H Q (h : tV K p σ H Q) => ⟨_, _, rfl, rfl, ⟨by decide, by decide, by decide⟩, h.2.2 _ (.dat (.int (10 ^ 19))) H (Same.refl H) ⟨.int _, (nice_int (by decide +kernel) (by decide +kernel)).tame (by decide)⟩ id⟩)
        (pa_v1 (p := p) ((pe_un un_neg pe_int).mono fun σ H Q (h : tV K p σ H Q) => ⟨_, rfl, h.2.2 _ (.dat (.int (-1))) H (Same.refl H) ⟨.int _, (nice_int (by decide +kernel) (by decide +kernel)).tame (by decide)⟩ id⟩)
        (pa_v1 (p := p) ((pe_tup (pa_cons pe_bl (pa_cons (pv 3) pa_nil))).mono (v_tup (fun n t w u => [.bl true, .str w]) (fun n t w u => [.bool true, .str w]) (fun n t w u σ H Q S q => ⟨_, S.sw, q⟩) (fun _ _ _ _ _ => (.cons (.bl _) (.cons (.str _) .nil))) (fun n t w u σ S => n2 (nice_bl true) S.nw) (fun _ _ _ _ => Nat.le_of_ble_eq_true rfl)))
        (pa_v1 (p := p) ((pe_tup (pa_cons pe_int (pa_cons pe_int pa_nil))).mono (v_tup (fun n t w u => [.int 1, .int 1]) (fun n t w u => [.int 1, .int 1]) (fun n t w u σ H Q S q => q) (fun _ _ _ _ _ => (.cons (.int _) (.cons (.int _) .nil))) (fun n t w u σ S => n2 (nice_int (by decide +kernel) (by decide +kernel)) (nice_int (by decide +kernel) (by decide +kernel))) (fun _ _ _ _ => Nat.le_of_ble_eq_true rfl)))
        (pa_v1 (p := p) ((pe_tup (pa_cons (pv 4) (pa_cons pe_bl pa_nil))).mono (v_tup (fun n t w u => [.str u, .bl true]) (fun n t w u => [.str u, .bool true]) (fun n t w u σ H Q S q => ⟨_, S.su, q⟩) (fun _ _ _ _ _ => (.cons (.str _) (.cons (.bl _) .nil))) (fun n t w u σ S => n2 S.nu (nice_bl true)) (fun _ _ _ _ => Nat.le_of_ble_eq_true rfl)))
        (pa_v1 (p := p) ((pe_e1C (b := p) O (hr.mono (by decide)) pe_str (by rfl)).mono v_e1)
        (pa_v1 (p := p) ((pe_tup (pa_cons (pv 4) (pa_cons (pe_e1C (b := p) O (hr.mono (by decide)) pe_str (by rfl)) pa_nil))).mono v_e2)
        (pa_v0 (p := p))))))))))))))))))), ?_⟩
    refine ⟨_, rfl, p, xs, c, rfl, hp, hb, by omega, fun n ys1 H1 pn ln b1 k1 h1 => ⟨_, rfl, p, ys1, c + 14, rfl, h1, b1, by omega, fun t ys2 H2 pt lt b2 k2 h2 => ⟨_, rfl, p, ys2, c + 14 + 46, rfl, h2, b2, by omega, fun w ys3 H3 pw lw b3 k3 h3 => ?_⟩⟩⟩
    refine ⟨_, _, _, rfl, ?_⟩
    refine ⟨_, rfl, _, rfl, p, 8, ys3, _, rfl, h3, b3, by omega, by decide, by decide, fun d ys4 d0 d1 b4 => ?_⟩
    obtain ⟨k, rfl⟩ : ∃ k : Nat, d = (k : Int) := ⟨d.toNat, (Int.toNat_of_nonneg d0).symm⟩
    refine ⟨_, _, rfl, rfl, p, _, 1 + k, ys4, _, by rw [Int.natCast_add] <;> rfl, upd_same, b4, by omega, by decide, by decide, pl_of (by decide +kernel), fun u ys5 H5 pu lu b5 k5 h5 => ?_⟩
    have S : ∀ x : Option V, ∃ n1 t1 w1 u1, Slots n1 t1 w1 u1 [some (.ref p), some (.str n), some (.str t), some (.str w), some (.str u), x] := fun x => ⟨n, t, w, u, rfl, rfl, rfl, rfl, ⟨pn, ln⟩, ⟨pt, lt⟩, ⟨pw, lw⟩, ⟨pu, by omega⟩⟩
    have kk : But p H H5 := k1.trans (k2.trans (k3.trans (But.upd.trans k5)))
    have bb := b5.mono (show _ ≤ c + 86 by omega)
    refine ⟨S _, ⟨_, h5⟩, fun v0 H6 k6 l6 g6 => ⟨two_ln (by omega), fun r0 hr0 => ?_⟩⟩
    have ka := upd_grow (o := .lst v0) hr0
    have hr := upd_same (H := H6) (a := r0) (o := .lst v0)
    have hpa := ka _ _ (k6 _ _ h5)
    have g0 := g6.mono ka
    have kb := kk.trans (But.of (k6.trans ka))
    generalize upd H6 r0 (.lst v0) = G0 at ka hr hpa g0 kb ⊢
    refine row_cat (p := p) rfl (S _) hr hpa g0 (by omega) fun r1 v1 G1 m1 e1 x1 l1 g1 => ?_
    have hp1 := m1 _ _ hpa
    refine row_cat (p := p) rfl (S _) e1 hp1 g1 (by omega) fun r2 v2 G2 m2 e2 x2 l2 g2 => ?_
    have hp2 := m2 _ _ hp1
    refine row_cat (p := p) rfl (S _) e2 hp2 g2 (by omega) fun r3 v3 G3 m3 e3 x3 l3 g3 => ?_
    have hp3 := m3 _ _ hp2
    refine row_cat (p := p) rfl (S _) e3 hp3 g3 (by omega) fun r4 v4 G4 m4 e4 x4 l4 g4 => ?_
    have hp4 := m4 _ _ hp3
    refine row_cat (p := p) rfl (S _) e4 hp4 g4 (by omega) fun r5 v5 G5 m5 e5 x5 l5 g5 => ?_
    exact q r5 v5 ys5 G5 (kb.trans (But.of (m1.trans (m2.trans (m3.trans (m4.trans m5)))))) (m5 _ _ hp4) bb e5 x5 (by omega) g5
end
end K01

namespace K01
open PySem PySem.Spec PyProof.Rows L2
abbrev sLists : Stmt := top 39
theorem scLists : FnScope ["box", "name", "word"] ["box"] (defScope sLists) := ⟨rfl, rfl, rfl, by decide +kernel, rfl, by decide +kernel, by decide +kernel⟩
theorem tame_list {ds : List PyData} (h : ∀ d ∈ ds, Nice 1 d) (l : ds.length ≤ 5) : Tame (.list ds) := by
  obtain ⟨i1, i2, i3, i4⟩ := nice_all h
  refine ⟨by simp only [asc]; exact i1, by simp only [PyData.showable]; exact i2, by simp only [PyData.depth]; omega, ?_⟩
  simp only [wt]
  have y : ds.length * (5000 * 4 ^ 1 + 2) ≤ 5 * (5000 * 4 ^ 1 + 2) := Nat.mul_le_mul_right _ l
  omega
/-- a list of small data, which do not reach p -/
def LV (p : Addr) (H : Hp) (v : V) : Prop := ∃ q xs ds, v = .ref q ∧ del H p q = some (.lst xs) ∧ RddAll (del H p) xs ds ∧ (∀ d ∈ ds, Nice 1 d) ∧ ds.length ≤ 3
theorem LV.mono {p : Addr} {H H' : Hp} {v : V} (k : Same H H') (h : LV p H v) : LV p H' v :=
  let ⟨q, xs, ds, e, h1, r, n, l⟩ := h
  ⟨q, xs, ds, e, del_mono k _ _ h1, r.mono (del_mono k), n, l⟩
structure Sl (n w : Str) (σ : L2.St) : Prop where
  sn : σ[1]? = some (some (.str n))
  sw : σ[2]? = some (some (.str w))
  pn : Nice 0 (.str n)
  pw : Nice 0 (.str w)
def tL (p : Addr) : TE := fun σ H Q => (∃ n w, Sl n w σ) ∧ (∃ o, H p = some o) ∧ ∀ v H', Same H H' → LV p H' v → Q v H'
def tLs (p : Addr) (k : Nat) : TA := fun σ H Q => (∃ n w, Sl n w σ) ∧ (∃ o, H p = some o) ∧ ∀ vs H', Same H H' → vs.length = k → (∀ v ∈ vs, LV p H' v) → Q vs H'
section
variable {X : Cx} {e : Expr} {es : List Expr} {k : Nat} {p : Addr}
theorem pa_l0 : PA X [] (tLs p 0) := pa_nil.mono fun σ H Q ⟨_, _, q⟩ => q [] H (Same.refl H) rfl fun v z => nomatch z
theorem pa_l1 (he : PE X e (tL p)) (h : PA X es (tLs p k)) (hs : starEach (e :: es) X.env = (false, eval e X.env) :: starEach es X.env := by rfl) : PA X (e :: es) (tLs p (k + 1)) := by
  refine (pa_cons he h hs).mono fun σ H Q ⟨S, ⟨o, ho⟩, q⟩ => ⟨S, ⟨o, ho⟩, fun v H1 k1 t1 => ⟨S, ⟨o, k1 _ _ ho⟩, fun vs H2 k2 l2 t2 => ?_⟩⟩
  refine q _ H2 (k1.trans k2) (by rw [List.length_cons, l2]) fun y hy => ?_
  rcases List.mem_cons.mp hy with rfl | hy
  · exact t1.mono k2
  · exact t2 y hy
theorem l_of {ta : TA} (xs : Str → Str → List V) (ds : Str → Str → List PyData) (ht : ∀ n w σ H (Q : List V → Hp → Prop), Sl n w σ → Q (xs n w) H → ta σ H Q)
    (r : ∀ n w H, RddAll H (xs n w) (ds n w)) (nd : ∀ n w σ, Sl n w σ → ∀ d ∈ ds n w, Nice 0 d) (l : ∀ n w, (ds n w).length ≤ 3) :
    ∀ σ H Q, tL p σ H Q → tLst ta σ H Q := fun σ H Q ⟨⟨n, w, S⟩, ⟨o, ho⟩, q⟩ => ht n w σ H _ S ⟨two_ln (by have := rdds_len (r n w H); have := l n w; omega), fun a ha =>
    q _ _ (upd_grow ha) ⟨a, xs n w, ds n w, rfl, del_new ho ha, r n w _, fun d hd => (nd n w σ S d hd).up, l n w⟩⟩
theorem l_tup : ∀ σ H Q, tL p σ H Q → tLst (tCons (tTup (tCons (tC (.str "ann")) (tCons (tC (.str "x")) tNil))) tNil) σ H Q := fun σ H Q ⟨_, ⟨o, ho⟩, q⟩ =>
  ⟨two_ln (by show 2 ≤ 16777216; decide), fun a ha => ⟨two_ln (by show 1 ≤ 16777216; decide), fun b hb => q _ _ ((upd_grow ha).trans (upd_grow hb))
    ⟨b, [.ref a], [.tuple [.str "ann", .str "x"]], rfl, del_new (upd_grow ha _ _ ho) hb, .cons (.tup (xs := [.str "ann", .str "x"]) (del_mono (upd_grow hb) _ _ (del_new ho ha)) (.cons (.str _) (.cons (.str _) .nil))) .nil,
      n1 (nice_tup (n2 (nice_str (pl_of (by decide +kernel)) (by decide)) (nice_str (pl_of (by decide +kernel)) (by decide))) (by decide)), by decide⟩⟩⟩
end
def spLists : Sp := fun vs H Q _ => ∃ (p : Addr) (xs : List V) (c : Nat), vs = [.ref p] ∧ H p = some (.lst xs) ∧ Box c xs ∧ c + 31 < 1000 ∧
  ∀ r us ys H', But p H H' → H' p = some (.lst ys) → Box (c + 31) ys → H' r = some (.lst us) → us.length = 7 → (∀ v ∈ us, LV p H' v) → Q (.ref r) H'
section
variable {P : Program} {w : World} {K : PySem.W.Frag} {mg : Str → Option Value} {base : Heap} {f fN fF : Addr} {fd dN dF : FuncData}
theorem ok_lists (F : Fd K "_law_lists" sLists f fd) (FN : Fd K "_law_name" sDName fN dN) (FF : Fd K "_law_figures" sDFig fF dF) (GN : FnOk P w K mg base CX0 3 fN dN ["box"] (spDraw 14)) (GF : FnOk P w K mg base CX0 3 fF dF ["box"] (spDraw 17))
    (gN : mg "_law_name" = some (.ref fN)) (gF : mg "_law_figures" = some (.ref fF)) : FnOk P w K mg base CX0 4 f fd ["box"] spLists := by
  have bN : Binds K dN ["box"] [] := FN.bindsN fun _ _ _ _ _ _ us hl => match us, hl with | [_], _ => rfl
  have bF : Binds K dF ["box"] [] := FF.bindsN fun _ _ _ _ _ _ us hl => match us, hl with | [_], _ => rfl
  refine F.ok scLists (fun vs H Q E h => ?_) (fun cdv A outer s H vs Q E hr h => ?_)
  · obtain ⟨p, xs, c, rfl, _⟩ := h
    rfl
  · obtain ⟨p, xs, c, rfl, hp, hb, hc, q⟩ := h
    refine ⟨_, pss_cons (ps_par (i := 1) (j := 2) rfl scLists.nd rfl rfl (by decide) rfl rfl (pa_cons (pe_call GN hr (by rfl) gN FN.kp bN .nil pass0 (pa_cons (pv 0) pa_nil)) (pa_cons (pe_call GF hr (by rfl) gF FF.kp bF .nil pass0 (pa_cons (pv 0) pa_nil)) pa_nil)) rfl)
      (pss_one (ps_ret (pe_lst
        (pa_l1 (p := p) ((pe_lst (pa_cons (pv 1) (pa_cons (pv 2) pa_nil))).mono (l_of (fun n w => [.str n, .str w]) (fun n w => [.str n, .str w]) (fun n w σ H Q S q => ⟨_, S.sn, _, S.sw, q⟩) (fun _ _ _ => .cons (.str _) (.cons (.str _) .nil)) (fun n w σ S => n2 S.pn S.pw) (fun _ _ => Nat.le_of_ble_eq_true rfl)))
        (pa_l1 (p := p) ((pe_lst pa_nil).mono (l_of (fun n w => []) (fun n w => []) (fun n w σ H Q S q => q) (fun _ _ _ => .nil) (fun n w σ S d z => nomatch z) (fun _ _ => Nat.le_of_ble_eq_true rfl)))
        (pa_l1 (p := p) ((pe_lst (pa_cons (pv 2) pa_nil)).mono (l_of (fun n w => [.str w]) (fun n w => [.str w]) (fun n w σ H Q S q => ⟨_, S.sw, q⟩) (fun _ _ _ => .cons (.str _) .nil) (fun n w σ S => n1 S.pw) (fun _ _ => Nat.le_of_ble_eq_true rfl)))
        (pa_l1 (p := p) ((pe_lst (pa_cons pe_str (pa_cons pe_str pa_nil))).mono (l_of (fun n w => [.str "ann", .str "x"]) (fun n w => [.str "ann", .str "x"]) (fun n w σ H Q S q => q) (fun _ _ _ => .cons (.str _) (.cons (.str _) .nil)) (fun n w σ S => n2 (nice_str (pl_of (by decide +kernel)) (by decide)) (nice_str (pl_of (by decide +kernel)) (by decide))) (fun _ _ => Nat.le_of_ble_eq_true rfl)))
        (pa_l1 (p := p) ((pe_lst (pa_cons (pe_tup (pa_cons pe_str (pa_cons pe_str pa_nil))) pa_nil)).mono l_tup)
        (pa_l1 (p := p) ((pe_lst (pa_cons (pv 1) (pa_cons (pv 2) (pa_cons (pv 1) pa_nil)))).mono (l_of (fun n w => [.str n, .str w, .str n]) (fun n w => [.str n, .str w, .str n]) (fun n w σ H Q S q => ⟨_, S.sn, _, S.sw, _, S.sn, q⟩) (fun _ _ _ => .cons (.str _) (.cons (.str _) (.cons (.str _) .nil))) (fun n w σ S => n3 S.pn S.pw S.pn) (fun _ _ => Nat.le_of_ble_eq_true rfl)))
        (pa_l1 (p := p) ((pe_lst (pa_cons pe_non pa_nil)).mono (l_of (fun n w => [.non]) (fun n w => [.none]) (fun n w σ H Q S q => q) (fun _ _ _ => .cons .non .nil) (fun n w σ S => n1 nice_non) (fun _ _ => Nat.le_of_ble_eq_true rfl)))
        (pa_l0 (p := p)))))))))))), ?_⟩
    refine ⟨_, rfl, p, xs, c, rfl, hp, hb, by omega, fun n ys1 H1 pn ln b1 k1 h1 => ⟨_, rfl, p, ys1, c + 14, rfl, h1, b1, by omega, fun t ys2 H2 pt lt b2 k2 h2 => ?_⟩⟩
    refine ⟨_, _, rfl, ⟨n, t, rfl, rfl, nice_str pn (by omega), nice_str pt (by omega)⟩, ⟨_, h2⟩, fun us H3 k3 l3 g3 => ⟨two_ln (by omega), fun r hr => ?_⟩⟩
    have k4 := upd_grow (o := .lst us) hr
    exact q r us ys2 _ (k1.trans (k2.trans (But.of (k3.trans k4)))) (k4 _ _ (k3 _ _ h2)) (b2.mono (by omega)) upd_same (by omega) fun v hv => (g3 v hv).mono k4
end
end K01

namespace K01
open PySem PySem.Spec PyProof.Rows L2
abbrev sCellR : Stmt := top 40
abbrev sLaw : Stmt := top 41
theorem scCellR : FnScope ["box", "by_name", "values", "value"] ["box"] (defScope sCellR) := ⟨rfl, rfl, rfl, by decide +kernel, rfl, by decide +kernel, by decide +kernel⟩
theorem scLaw : FnScope ["script", "k"] ["script"] (defScope sLaw) := ⟨rfl, rfl, rfl, by decide +kernel, rfl, by decide +kernel, by decide +kernel⟩
/-- what cell_right calls -/
structure Cr (P : Program) (w : World) (K : PySem.W.Frag) (mg : Str → Option Value) (base : Heap) (fT fV fL fA fW fR : Addr) (dT dV dL dA dW dR : FuncData) : Prop where
  gT : mg "_law_take" = some (.ref fT)
  gV : mg "_law_values" = some (.ref fV)
  gL : mg "_law_lists" = some (.ref fL)
  gA : mg "_law_asks_right" = some (.ref fA)
  gW : mg "_law_written_right" = some (.ref fW)
  gR : mg "_law_read_right" = some (.ref fR)
  FT : Fd K "_law_take" sTake fT dT
  FV : Fd K "_law_values" sValues fV dV
  FL : Fd K "_law_lists" sLists fL dL
  FA : Fd K "_law_asks_right" sAsks fA dA
  FW : Fd K "_law_written_right" sWritten fW dW
  FR : Fd K "_law_read_right" sReadR fR dR
  oT : FnOk P w K mg base CX0 1 fT dT ["box", "many"] spTake
  oV : FnOk P w K mg base CX0 4 fV dV ["box"] (spValues K)
  oL : FnOk P w K mg base CX0 4 fL dL ["box"] spLists
  oA : FnG P w K mg base 3 fA dA ["value", "by_name"] (spAsks K)
  oW : FnG P w K mg base 5 fW dW ["value", "by_name"] (spWR K)
  oR : FnG P w K mg base 5 fR dR ["value", "by_name"] (spWR K)
def spCellR : Sp := fun vs H Q _ => ∃ (p : Addr) (xs : List V), vs = [.ref p] ∧ H p = some (.lst xs) ∧ Box 0 xs ∧ ∀ H', But p H H' → Q (.bl true) H'
theorem del_le {p : Addr} {H : Hp} : Same (del H p) H := fun b o e => by
  by_cases z : b = p
  · rw [z, del_same] at e
    cases e
  · rwa [del_ne z] at e
theorem but_del {p : Addr} {H H' : Hp} (k : But p H H') : Same (del H p) (del H' p) := fun b o e => by
  by_cases z : b = p
  · rw [z, del_same] at e
    cases e
  · rw [del_ne z] at e ⊢
    exact k b o z e
theorem fresh_same {l : Addr} {H H' : Hp} {o : HO} (hl : H l = none) (k : But l (upd H l o) H') : Same H H' := fun b u e => k b u (ne_of_none e hl) (by rw [upd_ne (ne_of_none e hl)]; exact e)
theorem third_is {K : PySem.W.Frag} {v : V} {s : Sh} {bn : Bool} {D : Ends} {σ : L2.St} {H : Hp} (h3 : σ[3]? = some (some v)) (h1 : σ[1]? = some (some (.bl bn))) (hv : Has K H v s) (pl : plain s) (nl : ¬ isList s) (next : ∀ H', Same H H' → D.nx σ H') :
    tIfS (tOr (tNot (tB (tCall (spWR K) [] noE (tCons (tVar 3) (tCons (tVar 1) tNil))))) (tNot (tB (tCall (spWR K) [] noE (tCons (tVar 3) (tCons (tVar 1) tNil)))))) (tRet (tC (.bl false))) tNext D σ H :=
  ⟨_, h3, _, h1, v, s, bn, rfl, hv, pl, .inl ⟨nl, fun H1 k1 => ⟨true, rfl, iteF ⟨_, h3, _, h1, v, s, bn, rfl, hv.mono k1, pl, .inl ⟨nl, fun H2 k2 => ⟨true, rfl, iteF (next H2 (k1.trans k2))⟩⟩⟩⟩⟩⟩
abbrev rLs (K : PySem.W.Frag) : List V → Hp → VK → Prop := fun xs H Q => ∃ p ys, xs = [.ref p] ∧ (SqL K H p ys ∨ SqT K H p ys) ∧ ∀ l, H l = none → Q (.ref l) (upd H l (.lst ys))
/-- a list's copy is written and read -/
theorem copy_is {K : PySem.W.Frag} {q : Addr} {xs : List V} {ds : List PyData} {bn : Bool} {σ : L2.St} {H : Hp} {Q : VK} (h3 : σ[3]? = some (some (.ref q))) (h1 : σ[1]? = some (some (.bl bn))) (hq : H q = some (.lst xs)) (r : RddAll H xs ds) (nd : ∀ d ∈ ds, Nice 1 d) (l : ds.length ≤ 3)
    (next : ∀ H', Same H H' → Q (.bl true) H') : tCall (spWR K) [] noE (tCons (tCB (rLs K) (tCons (tVar 3) tNil)) (tCons (tVar 1) tNil)) σ H Q := by
  refine ⟨_, h3, q, xs, rfl, .inl (SqL.of hq), fun a ha => ⟨_, h1, .ref a, .dat (.list ds), bn, rfl, ⟨.lst upd_same (r.mono (upd_grow ha)), tame_list nd (by omega)⟩, True.intro, .inr ⟨a, xs, ds, rfl, rfl, upd_same, ?_, ?_, fun H1 k1 => next H1 (fresh_same ha k1)⟩⟩⟩
  · refine r.mono fun b o e => ?_
    have n := ne_of_none e ha
    rw [del_ne n, upd_ne n]
    exact e
  · refine tame_list (fun d hd => ?_) (by rw [List.length_append]; show ds.length + 1 ≤ 5; omega)
    rcases List.mem_append.mp hd with hd | hd
    · exact nd d hd
    · rw [List.mem_singleton.mp hd]
      exact (nice_str (pl_of (by decide +kernel)) (by decide)).up
section
variable {P : Program} {w : World} {K : PySem.W.Frag} {mg : Str → Option Value} {base : Heap} {f fT fV fL fA fW fR : Addr} {fd dT dV dL dA dW dR : FuncData}
theorem ok_cellR (F : Fd K "_law_cell_right" sCellR f fd) (C : Cr P w K mg base fT fV fL fA fW fR dT dV dL dA dW dR) (T : Kit K) (T2 : Kit2 K mg) (B : Blt2 mg) : FnG P w K mg base 6 f fd ["box"] spCellR := by
  have bT : Binds K dT ["box", "many"] [] := C.FT.bindsN fun _ _ _ _ _ _ us hl => match us, hl with | [_, _], _ => rfl
  have bV : Binds K dV ["box"] [] := C.FV.bindsN fun _ _ _ _ _ _ us hl => match us, hl with | [_], _ => rfl
  have bL : Binds K dL ["box"] [] := C.FL.bindsN fun _ _ _ _ _ _ us hl => match us, hl with | [_], _ => rfl
  have bA : Binds K dA ["value", "by_name"] [] := C.FA.bindsN fun _ _ _ _ _ _ us hl => match us, hl with | [_, _], _ => rfl
  have bW : Binds K dW ["value", "by_name"] [] := C.FW.bindsN fun _ _ _ _ _ _ us hl => match us, hl with | [_, _], _ => rfl
  have bR : Binds K dR ["value", "by_name"] [] := C.FR.bindsN fun _ _ _ _ _ _ us hl => match us, hl with | [_, _], _ => rfl
  refine F.okG scCellR (fun vs H Q E h => ?_) (fun cdv A outer s H vs Q hgd hr h => ?_)
  · obtain ⟨p, xs, rfl, _⟩ := h
    rfl
  · have hu : (cxOf CX0 P w K mg base ["box", "by_name", "values", "value"] "_law_cell_right" (defScope sCellR) f cdv A outer s H noE).A.units + 64 < cLine := by
      have z := hr.un
      show (A.deeper _).units + 64 < cLine
      omega
    refine ⟨_, pss_cons (ps_set (i := 1) scCellR.nd rfl (Or.inr rfl) (pe_cmpR op_eq (pe_call C.oT (hr.mono (by decide)) (by rfl) C.gT C.FT.kp bT .nil pass0 (pa_cons (pv 0) (pa_cons pe_int pa_nil))) pe_int (nomark _)))
      (pss_cons (ps_set (i := 2) scCellR.nd rfl (Or.inl rfl) (pe_call C.oV (hr.mono (by decide)) (by rfl) C.gV C.FV.kp bV .nil pass0 (pa_cons (pv 0) pa_nil)))
      (pss_cons (ps_for (passes_of rfl) rfl (pi_list (pv 2)) (pg_name (i := 3) scCellR.nd rfl (Or.inl rfl))
        (pss_cons (ps_if (pt_not (pt_val (pe_callG C.oA hgd (hr.mono (by decide)) (by rfl) C.gA C.FA.kp bA (pa_cons (pv 3) (pa_cons (pv 1) pa_nil))))) (pss_one (ps_ret pe_bl)) pss_nil)
        (pss_cons (ps_if (pw_and (pt_val (pe_callB (call_isi.or (call_isEv (ps := []) fun _ z => nomatch z)) (by rfl) B.isi boot_isinstance (pa_cons (pv 3) (pa_cons (pe_bltn (by rfl) B.tup (by decide +kernel) (v := .ty "tuple") rfl) pa_nil))))
            (pw_and (pt_cmpR op_eq (pe_callB call_len (by rfl) B.len boot_len (pa_cons (pv 3) pa_nil)) pe_int (nomark _))
            (pw_and1 (pt_val (pe_callB (call_isi.or (call_isEv (ps := []) fun _ z => nomatch z)) (by rfl) B.isi boot_isinstance (pa_cons (pe_ix ix_seq (pv 3) pe_int fun _ _ => rfl) (pa_cons (pe_glob (by rfl) T2.gT (v := .ref (He.ga K "InvalidText")) rfl) pa_nil))))))).pt
          (pss_one ps_continue) pss_nil)
        (pss_one (ps_if (pw_or (pt_not (pt_val (pe_callG C.oW hgd hr (by rfl) C.gW C.FW.kp bW (pa_cons (pv 3) (pa_cons (pv 1) pa_nil)))))
            (pw_or1 (pt_not (pt_val (pe_callG C.oR hgd hr (by rfl) C.gR C.FR.kp bR (pa_cons (pv 3) (pa_cons (pv 1) pa_nil))))))).pt (pss_one (ps_ret pe_bl)) pss_nil)))))
      (pss_cons (ps_for (passes_of rfl) rfl (pi_list (pe_call C.oL (hr.mono (by decide)) (by rfl) C.gL C.FL.kp bL .nil pass0 (pa_cons (pv 0) pa_nil))) (pg_name (i := 3) scCellR.nd rfl (Or.inl rfl))
        (pss_cons (ps_if (pw_or (pt_not (pt_val (pe_callG C.oA hgd (hr.mono (by decide)) (by rfl) C.gA C.FA.kp bA (pa_cons (pv 3) (pa_cons (pv 1) pa_nil)))))
            (pw_or1 (pt_not (pt_val (pe_callG C.oW hgd hr (by rfl) C.gW C.FW.kp bW (pa_cons (pe_callTy call_list_of (by rfl) B.lst (by decide +kernel) (pa_cons (pv 3) pa_nil)) (pa_cons (pv 1) pa_nil))))))).pt (pss_one (ps_ret pe_bl)) pss_nil)
        (pss_one (ps_if (pt_not (pt_val (pe_callG C.oR hgd hr (by rfl) C.gR C.FR.kp bR (pa_cons (pe_callTy call_list_of (by rfl) B.lst (by decide +kernel) (pa_cons (pv 3) pa_nil)) (pa_cons (pv 1) pa_nil))))) (pss_one (ps_ret pe_bl)) pss_nil))))
      (pss_one (ps_ret (pe_cmpR (op_eqV hu) (pe_lc (own := [("value", 3)]) (g := gName 3) rfl scCellR.nd (pi_list (pv 2))
        (blkOk_by (N := ["box", "by_name", "values", "value"]) (sc := defScope sCellR) (by decide +kernel)) (fun _ _ _ _ _ => pg_name (i := 3) scCellR.nd rfl (Or.inl rfl))
        (fun _ _ _ _ _ => pts_one (pt_not (pt_val (pe_callG C.oA hgd (hr.mono (by decide)) (by rfl) C.gA C.FA.kp bA (pa_cons (pv 3) (pa_cons (pe_not (pv 1)) pa_nil)))))) (fun _ _ _ _ _ => pv 3)) (pe_lst pa_nil) (nomark _))))))), ?_⟩
    obtain ⟨p, xs, rfl, hp, hb, q⟩ := h
    refine ⟨_, rfl, p, 2, xs, 0, rfl, hp, hb, by decide, by decide, by decide, fun d ys1 d0 d1 b1 => ⟨rfl, ?_⟩⟩
    generalize decide (V.int d = V.int 1) = bn
    refine ⟨_, rfl, p, ys1, 1, rfl, upd_same, b1, by decide, fun r us ys2 H2 k2 h2 b2 hr nr lu g2 => ?_⟩
    have k02 : But p H H2 := But.upd.trans k2
    refine ⟨_, rfl, _, rfl, ⟨_, SqL.of hr⟩, for_it (walk_list (K := K) (a := r) (xs := us)) (fun i σ H' => Same H2 H' ∧ ∃ x : Option V, σ = [some (.ref p), some (.bl bn), some (.ref r), x]) ⟨Same.refl _, _, rfl⟩ (fun _ _ H' _ ⟨k, _⟩ => SqL.of (k _ _ hr)) ?_ ?_⟩
    · rintro i v σ H3 H3' hi ⟨k3, x, rfl⟩ ⟨rfl, hx⟩
      obtain ⟨s, hs, nl⟩ := g2 v (List.mem_of_getElem? hx)
      have hv := hs.mono (del_le.trans k3)
      refine ⟨_, rfl, _, rfl, v, s, bn, rfl, hv, fun H4 k4 => ⟨true, rfl, iteF ?_⟩⟩
      have hv4 := hv.mono k4
      have third : ∀ {D : Ends}, plain s → (∀ H', Same H4 H' → D.nx [some (.ref p), some (.bl bn), some (.ref r), some v] H') → _ := fun {D} pl next => third_is (D := D) (σ := [some (.ref p), some (.bl bn), some (.ref r), some v]) rfl rfl hv4 pl nl next
      rcases hv4.viewT with ⟨pp, ws, rfl, h, e⟩ | ⟨U, t, x, m, n1, e⟩ | ⟨a, d, rfl, ev, rfl⟩
      · refine ⟨_, rfl, .inl ⟨_, _, _, _, true, rfl, .ty _, .base (.tup h), T.yes (by decide) (by decide), true, rfl, iteT ?_⟩⟩
        refine ⟨_, rfl, _, _, rfl, .inr ⟨_, SqT.of h, rfl⟩, rfl, _, rfl, iteB (fun e2 => ?_) fun e2 => iteF ?_⟩
        · have l : ws.length = 2 := by
            have z := of_decide_eq_true e2
            injection z with z
            omega
          rw [l] at e
          cases s with
          | dat d =>
            obtain ⟨rr, tm⟩ := hv4
            cases rr with
            | tup h2 r2 =>
              rename_i ys ds
              obtain rfl : ys = ws := by
                have z := h2.symm.trans h
                cases z
                rfl
              have ld : ds.length = 2 := Option.some.inj e
              obtain ⟨dx, dy, rfl⟩ : ∃ dx dy, ds = [dx, dy] := match ds, ld with
                | [a, b], _ => ⟨a, b, rfl⟩
              obtain ⟨x, y, rfl, r1, r2⟩ := rdds_two r2
              obtain ⟨U, m, ty⟩ := rdd_ty (K := K) r2
              refine ⟨_, rfl, .inr (.inl ⟨pp, _, 1, y, rfl, rfl, SqT.of h, rfl, .inl ⟨_, _, _, _, false, rfl, .own _, ty, T2.txt U m, false, rfl, iteF ?_⟩⟩)⟩
              exact third True.intro fun H5 k5 => ⟨k3.trans (k4.trans k5), _, rfl⟩
            | _ => cases e
          | exc => cases e
          | mix a =>
            obtain ⟨p2, y, e3, h2, ⟨ea, ed, rfl, ev⟩, tm⟩ := hv4
            cases e3
            obtain rfl : [V.str a, .ref ea] = ws := by
              have z := h2.symm.trans h
              cases z
              rfl
            refine ⟨_, rfl, .inr (.inl ⟨pp, _, 1, .ref ea, rfl, rfl, SqT.of h, rfl, .inr ⟨ea, _, ed, _, _, _, true, rfl, ev, T.E, .own _, T2.self, true, rfl, iteT ?_⟩⟩)⟩
            exact ⟨k3.trans k4, _, rfl⟩
        · have pl : plain s := by
            cases s with
            | mix a =>
              have l2 : ws.length = 2 := (Option.some.inj e).symm
              have e3 : decide (V.int (ws.length : Int) = V.int 2) = true := by
                apply decide_eq_true
                rw [l2] <;> rfl
              rw [e3] at e2
              cases e2
            | _ => exact True.intro
          exact third pl fun H5 k5 => ⟨k3.trans (k4.trans k5), _, rfl⟩
      · have pl : plain s := by
          cases s with
          | mix a => cases e
          | _ => exact True.intro
        exact ⟨_, rfl, .inl ⟨_, _, _, _, false, rfl, .ty _, x, T.no m (by decide) n1, false, rfl, iteF (iteF (third pl fun H5 k5 => ⟨k3.trans (k4.trans k5), _, rfl⟩))⟩⟩
      · exact ⟨_, rfl, .inr ⟨a, _, d, _, _, _, false, rfl, ev, T.E, .ty _, T.te "tuple" (by decide), false, rfl, iteF (iteF (third True.intro fun H5 k5 => ⟨k3.trans (k4.trans k5), _, rfl⟩))⟩⟩
    · rintro σ H3 ⟨k3, x, rfl⟩
      have hp3 := k3 _ _ h2
      refine ⟨_, rfl, p, ys2, 1 + 86, rfl, hp3, b2, by decide, fun r2 us2 ys3 H4 k4 h4 b4 hr2 l2 g4 => ?_⟩
      refine ⟨_, rfl, ⟨_, SqL.of hr2⟩, for_it (walk_list (K := K) (a := r2) (xs := us2)) (fun i σ H' => Same H4 H' ∧ ∃ x : Option V, σ = [some (.ref p), some (.bl bn), some (.ref r), x]) ⟨Same.refl _, _, rfl⟩ (fun _ _ H' _ ⟨k, _⟩ => SqL.of (k _ _ hr2)) ?_ ?_⟩
      · rintro i v σ H5 H5' hi ⟨k5, x, rfl⟩ ⟨rfl, hx⟩
        obtain ⟨q2, zs, ds, rfl, hq, rr, nd, ld⟩ := (g4 v (List.mem_of_getElem? hx)).mono k5
        have hq5 := del_le _ _ hq
        have rr5 := rr.mono (del_le (p := p))
        refine ⟨_, rfl, _, rfl, _, .dat (.list ds), bn, rfl, ⟨.lst hq5 rr5, tame_list nd (by omega)⟩, fun H6 k6 => ⟨true, rfl, iteF ?_⟩⟩
        refine copy_is (K := K) (σ := [some (.ref p), some (.bl bn), some (.ref r), some (.ref q2)]) rfl rfl (k6 _ _ hq5) (rr5.mono k6) nd ld fun H7 k7 => ⟨true, rfl, iteF ?_⟩
        refine copy_is (K := K) (σ := [some (.ref p), some (.bl bn), some (.ref r), some (.ref q2)]) rfl rfl (k7 _ _ (k6 _ _ hq5)) (rr5.mono (k6.trans k7)) nd ld fun H8 k8 => ⟨true, rfl, iteF ?_⟩
        exact ⟨k5.trans (k6.trans (k7.trans k8)), _, rfl⟩
      · rintro σ H5 ⟨k5, x5, rfl⟩
        have b25 : But p H2 H5 := (But.of k3).trans (k4.trans (But.of k5))
        have hr5 := b25 _ _ nr hr
        refine ⟨_, rfl, _, rfl, ⟨_, SqL.of hr5⟩, fun D hD => lc_it (walk_list (K := K) (a := r) (xs := us)) (fun i H' => Same H5 H' ∧ H' D = some (.lst [])) ⟨upd_grow hD, upd_same⟩ (fun _ H' _ ⟨k, _⟩ => SqL.of (k _ _ hr5)) ?_ ?_⟩
        · rintro i v H6 H6' hi ⟨k6, h6⟩ ⟨rfl, hx⟩
          obtain ⟨s, hs, nl⟩ := g2 v (List.mem_of_getElem? hx)
          have hv := hs.mono ((but_del b25).trans (del_le.trans k6))
          exact ⟨rfl, _, rfl, _, rfl, bn, rfl, v, s, !bn, rfl, hv, fun H7 k7 => ⟨true, rfl, iteF ⟨k6.trans k7, k7 _ _ h6⟩⟩⟩
        · rintro H6 ⟨k6, h6⟩
          refine ⟨two_ln (by show 0 ≤ 16777216; decide), fun a ha => ⟨1, by decide, .inl ⟨D, a, [], [], rfl, rfl, SqL.of (upd_grow ha _ _ h6), SqL.of upd_same, .nil⟩, ?_⟩⟩
          exact q _ (k02.trans (b25.trans (But.of (k6.trans (upd_grow ha)))))
end
end K01

namespace K01
open PySem PySem.Spec PyProof.Rows L2
def spLaw (K : PySem.W.Frag) : Sp := fun vs H Q _ => ∃ (l : Addr) (ns : List Int), vs = [.ref l] ∧ SqL K H l (ns.map V.int) ∧ ∀ H', Q (.bl true) H'
structure BltL (mg : Str → Option Value) : Prop where
  mx : mg "max" = none
  mn : mg "min" = none
theorem sql_same {K : PySem.W.Frag} {H H' : Hp} {l : Addr} {xs : List V} (h : SqL K H l xs) (k : Same H H') : SqL K H' l xs := by
  rcases h with h | h
  · exact .inl (h.imp (k _ _) fun ⟨o, z⟩ => ⟨o, k _ _ z⟩)
  · exact .inr h
section
variable {P : Program} {w : World} {K : PySem.W.Frag} {mg : Str → Option Value} {base : Heap} {f fC fB fR : Addr} {fd dC dB dR : FuncData}
theorem ok_law (F : Fd K "law" sLaw f fd) (FC : Fd K "_law_cell" sCell fC dC) (FB : Fd K "_law_box" sBox fB dB) (FR : Fd K "_law_cell_right" sCellR fR dR) (GC : FnOk P w K mg base CX0 1 fC dC ["script", "k"] (spCell K))
    (GB : FnOk P w K mg base CX0 1 fB dB ["great"] spBox) (GR : FnG P w K mg base 6 fR dR ["box"] spCellR) (B : Blt2 mg) (B4 : BltL mg)
    (gC : mg "_law_cell" = some (.ref fC)) (gB : mg "_law_box" = some (.ref fB)) (gR : mg "_law_cell_right" = some (.ref fR)) : FnG P w K mg base 7 f fd ["script"] (spLaw K) := by
  have bC : Binds K dC ["script", "k"] [] := FC.bindsN fun _ _ _ _ _ _ us hl => match us, hl with | [_, _], _ => rfl
  have bB : Binds K dB ["great"] [] := FB.bindsN fun _ _ _ _ _ _ us hl => match us, hl with | [_], _ => rfl
  have bR : Binds K dR ["box"] [] := FR.bindsN fun _ _ _ _ _ _ us hl => match us, hl with | [_], _ => rfl
  refine F.okG scLaw (fun vs H Q E h => ?_) (fun cdv A outer s H vs Q hgd hr h => ?_)
  · obtain ⟨l, ns, rfl, _⟩ := h
    rfl
  · refine ⟨_, pss_cons (ps_for (passes_of rfl) rfl (pi_range1 (by rfl) B.rng (pa_cons (pe_callB (call_max2 rfl) (by rfl) B4.mx (by decide +kernel) (pa_cons pe_int (pa_cons (pe_callB (call_min2 rfl) (by rfl) B4.mn (by decide +kernel) (pa_cons pe_int (pa_cons (pe_callB call_len (by rfl) B.len boot_len (pa_cons (pv 0) pa_nil)) pa_nil))) pa_nil))) pa_nil)) (pg_name (i := 1) scLaw.nd rfl (Or.inl rfl))
        (pss_one (ps_if (pt_not (pt_val (pe_callG GR hgd hr (by rfl) gR FR.kp bR (pa_cons (pe_call GB (hr.mono (by decide)) (by rfl) gB FB.kp bB .nil pass0 (pa_cons (pe_call GC (hr.mono (by decide)) (by rfl) gC FC.kp bC .nil pass0 (pa_cons (pv 0) (pa_cons (pv 1) pa_nil))) pa_nil)) pa_nil))))
          (pss_one (ps_ret pe_bl)) pss_nil)))
      (pss_one (ps_ret pe_bl)), ?_⟩
    obtain ⟨l, ns, rfl, hl, q⟩ := h
    refine ⟨_, rfl, _, _, rfl, .inl ⟨_, hl, rfl⟩, _, _, rfl, _, _, rfl, _, rfl, ?_⟩
    generalize hJ : (if (if ((List.map V.int ns).length : Int) < 6 then ((List.map V.int ns).length : Int) else 6) > 2 then (if ((List.map V.int ns).length : Int) < 6 then ((List.map V.int ns).length : Int) else 6) else (2 : Int)) = J
    have j0 : 2 ≤ J := by rw [← hJ]; split <;> omega
    have j1 : J ≤ 6 := by rw [← hJ]; split <;> (try split) <;> omega
    refine ⟨by omega, by omega, for_range (n := J.toNat) (fun i σ H' => Same H H' ∧ ∃ a : Option V, σ = [some (.ref l), a]) ⟨Same.refl _, none, rfl⟩ ?_ ?_⟩
    · rintro i σ H1 hi ⟨k1, a, rfl⟩
      refine ⟨_, rfl, _, rfl, l, ns, 0 + (i : Int), rfl, sql_same hl k1, by omega, by omega, fun n H2 k2 => ⟨n, rfl, fun p xs hp hb => ?_⟩⟩
      refine ⟨p, xs, rfl, upd_same, hb, fun H3 k3 => ⟨true, rfl, iteF ⟨k1.trans (k2.trans (fresh_same hp k3)), _, rfl⟩⟩⟩
    · rintro σ H1 ⟨k1, a, rfl⟩
      exact q H1
end
end K01

/-! the law's call, its def one that is called where no repr is under way -/
namespace L2
open PySem PySem.Spec PyProof.Rows
/-- the script's object -/
def scriptO (vs : List Value) : Obj := { cls := .type "list", data := .seq vs.toArray }
/-- what is tracked at the call: at most the script, at a -/
structure Entry (P : Program) (w : World) (K : PySem.W.Frag) (a : Addr) (H : Hp) (h : Heap) : Prop where
  only : Only H
  ok : HOk P w H h
  at_ : ∀ b, H b ≠ none → b = a
  own : H a ≠ none → K.lookup a = none
section
variable {P : Program} {w : World} {K : PySem.W.Frag} {mg mb : Str → Option Value} {k : Nat} {fa a : Addr} {fd : FuncData} {x : Str}
variable {sp : Sp} {z : Shared} {vs : List Value} {ns : List Int} {H : Hp}
theorem Entry.free (e : Entry P w K a H z.heap) (ha : z.heap.get? a = some (scriptO vs)) {b : Addr} (hb : b ≠ a) : H b = none := by
  cases q : H b with
  | none => rfl
  | some u => exact absurd (e.at_ b (by rw [q]; exact fun y => nomatch y)) hb
theorem Entry.base (e : Entry P w K a H z.heap) (KX : K.In z.heap) : K.In (hidT z.heap H) := by
  intro b o h
  refine hidT_get (KX b o h) ?_
  cases q : H b with
  | none => rfl
  | some u =>
    have y : H b ≠ none := by
      rw [q]
      exact fun y => nomatch y
    have i := e.at_ b y
    subst i
    rw [e.own y] at h
    cases h
theorem Entry.keepNs (e : Entry P w K a H z.heap) (ha : z.heap.get? a = some (scriptO vs)) {b : Addr} {m : Str → Option Value} (n : z.heap.Ns b m) : (hidT z.heap H).Ns b m := by
  obtain ⟨o, es, ep, g, d, r⟩ := n
  refine ⟨o, es, ep, hidT_get g (e.free ha fun i => ?_), d, r⟩
  rw [i, ha] at g
  cases g
  cases d
theorem law_coreG (e : Entry P w K a H z.heap) (KX : K.In z.heap) (hns : z.heap.Ns mainGlobals mg) (hb : z.heap.Ns builtinsNs mb)
    (hbb : ∀ y : Str, y ≠ "__name__" → mb y = bootBuiltins y) (hlim : z.heap.NoLimit) (hg : z.gens = #[])
    (ha : z.heap.get? a = some (scriptO vs)) (hr : Room k callerA)
    (F : ∀ base : Heap, K.In base → base.Ns mainGlobals mg → FnG P w K mg base k fa fd [x] sp)
    (hbind : ∀ (s : Shared) (u : Value), BindsTo s fd ⟨[u], []⟩ [(x, u)])
    (hsp : sp [.ref a] H (fun v _ => v = .bl true) noE) :
    codeAny (model P w) callerA (.call (.ref fa) ⟨[.ref a], []⟩)
      (fun r t => r = .ok (.ret (.bool true)) ∧ OldK z.heap t.heap ∧ t.os = z.os ∧ AllBare t.gens) z := by
  have kb := e.base KX
  have main := e.keepNs ha hns
  obtain ⟨mc, c1, c2⟩ := hlim
  have env : Env0 P w K mg (hidT z.heap H) callerA [] z H := by
    refine ⟨rfl, ⟨kb, main, ⟨mb, e.keepNs ha hb, hbb⟩, ⟨mc, e.keepNs ha c1, c2⟩⟩, fun b o y => of_hidT y, ?_, trivial, (fun b y => nomatch y), e.ok, .of_eq hg⟩
    exact Nat.le_of_eq (hidT_size _ _)
  have run := (F _ kb main).run callerA [] z H ⟨[.ref a], []⟩ [.ref a] [.ref a] _ hr rfl env (hbind z (.ref a)) (.cons rfl .nil) hsp
  refine codeAny_mono run fun r t h => ?_
  rcases r with er | fl
  · exact h.elim
  · cases fl with
    | ret u =>
      obtain ⟨v, H2, os, bare, un, ok2, ru, rfl⟩ := h
      have eu : u = Value.bool true := ru
      refine ⟨by rw [eu], OldK.of_keep fun b o y => ?_, os, bare⟩
      by_cases i : H b = none
      · exact un.keep b o y i (fun m => nomatch m) fun m => nomatch m
      · rcases e.only b with j | ⟨ob, ys, j⟩
        · exact absurd j i
        · have o1 := (e.ok b _ j).1
          rw [o1] at y
          cases y
          exact (ok2 b _ (un.frzs b _ _ j)).1
    | next => exact h.elim
    | brk => exact h.elim
    | cont => exact h.elim
/-- the script as one that is tracked -/
def trackO (a : Addr) (vs : List Value) (ns : List Int) : Hp := upd (fun _ => none) a (.frz (scriptO vs) (.lst (ns.map V.int)))
theorem law_callG (KX : K.In z.heap) (hns : z.heap.Ns mainGlobals mg) (hb : z.heap.Ns builtinsNs mb)
    (hbb : ∀ y : Str, y ≠ "__name__" → mb y = bootBuiltins y) (hlim : z.heap.NoLimit) (hg : z.gens = #[])
    (ha : z.heap.get? a = some (scriptO vs)) (hi : IntsAre vs ns) (hl : ns.length ≤ sizeLine) (hr : Room k callerA)
    (F : ∀ base : Heap, K.In base → base.Ns mainGlobals mg → FnG P w K mg base k fa fd [x] sp)
    (hbind : ∀ (s : Shared) (u : Value), BindsTo s fd ⟨[u], []⟩ [(x, u)])
    (hsp : ∀ H : Hp, SqL K H a (ns.map V.int) → sp [.ref a] H (fun v _ => v = .bl true) noE) :
    codeAny (model P w) callerA (.call (.ref fa) ⟨[.ref a], []⟩)
      (fun r t => r = .ok (.ret (.bool true)) ∧ OldK z.heap t.heap ∧ t.os = z.os ∧ AllBare t.gens) z := by
  have rel := vals_ints hi
  cases q : K.lookup a with
  | some o =>
    have g := KX a o q
    rw [ha] at g
    cases g
    have e : Entry P w K a (fun _ => none) z.heap := ⟨fun _ => .inl rfl, (fun b u y => nomatch y), fun b y => absurd rfl y, fun y => absurd rfl y⟩
    refine law_coreG e KX hns hb hbb hlim hg ha hr F hbind (hsp _ (.inr ⟨_, vs.toArray, _, q, rfl, rfl, rfl, ?_, by simpa using rel⟩))
    rw [List.size_toArray, hi.length]
    exact hl
  | none =>
    have e : Entry P w K a (trackO a vs ns) z.heap := by
      refine Entry.mk (fun b => ?_) (fun b u y => ?_) (fun b y => ?_) fun _ => q
      · by_cases i : b = a
        · exact .inr ⟨_, _, by rw [i]; exact upd_same⟩
        · exact .inl (upd_ne i)
      · by_cases i : b = a
        · subst i
          have y2 : some (HO.frz (scriptO vs) (.lst (ns.map V.int))) = some u := upd_same.symm.trans y
          cases y2
          refine ⟨ha, ?_, vs, _, rel, ha⟩
          rw [List.length_map]
          exact hl
        · have y2 : (none : Option HO) = some u := (upd_ne i).symm.trans y
          cases y2
      · by_cases i : b = a
        · exact i
        · exact absurd (upd_ne i) y
    exact law_coreG e KX hns hb hbb hlim hg ha hr F hbind (hsp _ (.inl (.inr ⟨scriptO vs, upd_same⟩)))
end
/-- the end of a law whose def is called where no repr is under way -/
theorem walk_G {l : PySem.W.OpenLaw} {n k : Nat} {q : Program} {loose : List Str} {XP : (Str → Option Value) → Heap → Prop} {YP : World → Heap → Prop} {d : DefRec} {x : Str}
    (hn : l.most = some n) (hn2 : n ≤ sizeLine) (hdf : d.params.defaults = []) (hr : Room k callerA)
    (F : ∀ (w : World) (mg : Str → Option Value) (fa : Addr) (h : Heap), YP w h → h.Ns mainGlobals mg → mg d.name = some (.ref fa) →
      ∃ (K : PySem.W.Frag) (fd : FuncData) (sp : Sp), K.In h ∧ (∀ (s : Shared) (u : Value), BindsTo s fd ⟨[u], []⟩ [(x, u)]) ∧
        (∀ (H : Hp) (a : Addr) (ns : List Int), SqL K H a (ns.map V.int) → sp [.ref a] H (fun v _ => v = .bl true) noE) ∧
        ∀ base : Heap, K.In base → base.Ns mainGlobals mg → FnG l.prog w K mg base k fa fd [x] sp) :
    PySem.W.WalkO q loose XP YP l.row.toRowW d [] (fun f vs => PySem.call f vs) := by
  refine Att.attach_call hn hdf fun w s0 z mg mb fa o pm cd doc a vs ns G Y ho hd hcd hmg hobj hints hlen hg => ?_
  obtain ⟨K, fd, sp, KX, hb, hsp, hF⟩ := F w mg fa _ Y G.T.g hmg
  exact law_callG KX G.T.g G.T.b G.T.builtins G.T.nolimit hg hobj hints (Nat.le_trans hlen hn2) hr hF hb fun H => hsp H a ns
end L2

/-! a head's facts: a check of one's own, the classes of exceptions, sys -/
namespace Ml
open PySem PySem.Spec PyProof.Rows L2 He
/-- the written part: what the module's names reach in n steps, and sys.modules -/
def partG (g : Addr → Option Obj) (n : Nat) : PySem.W.Frag := frG g (sysModules :: asD g n)
def seeM (ck : PySem.W.Frag → Bool) (fa : List Fa) (fn : List DefD) (K : PySem.W.Frag) : AlD := ((obsD fa fn K).1 && ck K, (obsD fa fn K).2)
def hookM (n : Nat) (fa : List Fa) (fn : List DefD) (ck : PySem.W.Frag → Bool) : PySem.W.Hook where
  α := AlD
  obs := fun s => seeM ck fa fn (partG s.heap.get? n)
  val := fun _ => valD fn
  says := fun _ h => ∃ K : PySem.W.Frag, K.In h ∧ seeM ck fa fn K = valD fn
  of := fun _ _ e => ⟨_, frG_in, e⟩
  keeps := fun _ _ _ ⟨K, hK, c⟩ k => ⟨K, PySem.W.Frag.In.keeps hK k, c⟩
theorem see_eq {n : Nat} {fa : List Fa} {fn : List DefD} {ck : PySem.W.Frag → Bool} {g : Addr → Option Obj} {s : Shared} (h : ∀ a, g a = s.heap.get? a) : seeM ck fa fn (partG g n) = (hookM n fa fn ck).obs s := by
  have e : g = s.heap.get? := funext h
  rw [e] <;> rfl
theorem see_ok {ck : PySem.W.Frag → Bool} {fa : List Fa} {fn : List DefD} {K : PySem.W.Frag} (h : seeM ck fa fn K = valD fn) : SaysD fa fn K ∧ ck K = true := by
  have e1 : ((obsD fa fn K).1 && ck K) = true := congrArg (fun z : AlD => z.1) h
  have e2 : (obsD fa fn K).2 = fn.map DefD.val := congrArg (fun z : AlD => z.2) h
  obtain ⟨c1, c2⟩ := ba e1
  exact ⟨Prod.ext c1 e2, c2⟩
/-! ### a class of exceptions with an __init__ of its own -/
def oexB (K : PySem.W.Frag) (C : Addr) : Bool := match K.lookup C with
  | some ⟨.type "type", _, .cls cd, sl⟩ => (match cd.mro, sl.toList with
    | .ref C' :: bm, [_, _, _, _, some (.builtin n), _] => C' == C && (n == "ValueError.__new__" && (!cd.hasDel && (cd.hasDict && PySem.HandSPX.refsVE bm)))
    | _, _ => false)
  | _ => false
theorem oexB_ok {K : PySem.W.Frag} {C : Addr} (q : oexB K C = true) :
    ∃ nm qn N bs bm sn sub ab col dd k0 k1 k2 k3 k5, K.lookup C = some (excClassObj nm qn C N bs bm true sn sub ab col dd k0 k1 k2 k3 k5 "ValueError.__new__") ∧ PySem.HandSPX.refsVE bm = true := by
  unfold oexB at q
  split at q
  case h_2 => cases q
  rename_i dd cd sl ho
  split at q
  case h_2 => cases q
  rename_i C' bm k0 k1 k2 k3 n k5 hm hs
  obtain ⟨q1, q⟩ := ba q
  obtain ⟨q2, q⟩ := ba q
  obtain ⟨q3, q⟩ := ba q
  obtain ⟨q4, q5⟩ := ba q
  have e1 : C' = C := eq_of_beq q1
  have e2 : n = "ValueError.__new__" := eq_of_beq q2
  obtain ⟨nm, bs, mro, ns, qn, hd, sn, sub, ab, col, del⟩ := cd
  have e3 : del = false := by
    cases del with
    | false => rfl
    | true => cases q3
  have e4 : hd = true := q4
  have e5 : mro = .ref C' :: bm := hm
  subst e1 e2 e3 e4 e5
  have e6 : sl = #[k0, k1, k2, k3, some (.builtin "ValueError.__new__"), k5] := by
    obtain ⟨l⟩ := sl
    exact congrArg Array.mk hs
  subst e6
  exact ⟨nm, qn, ns, bs, bm, sn, sub, ab, col, dd, k0, k1, k2, k3, k5, ho, q5⟩
def bO (K : PySem.W.Frag) (C : Addr) (m : Str) (b : String) : Bool := decide (PySem.W.findIn K (.ref C) m = some (some (.builtin b)))
/-- all of it -/
def clsB (K : PySem.W.Frag) (C L : Addr) : Bool :=
  oexB K C && (bO K C "__setattr__" "object.__setattr__" && (decide (PySem.W.subIn K (.ref C) (.type "BaseException") = some true) && (decide (PySem.W.typeIn K (.ref C) = some (.type "type")) && (PySem.W.keepIn K (.ref C) &&
  (bO K C "__getattribute__" "BaseException.__getattribute__" && (decide (PySem.W.findIn K (.ref C) "__getattr__" = some none) && (PySem.W.hasDictIn K C && (bO K C "__class__" "object.__class__" && (decide (PySem.W.mroIn K C (.type "object") = some true) &&
  (decide (PySem.W.findIn K (.ref C) "__init__" = some (some (.ref (ma K C "__init__")))) && (decide (PySem.W.typeIn K (.ref (ma K C "__init__")) = some (.type "function")) && (decide (PySem.W.kitOne K (.ref C) (.ref L) = some true) &&
  (decide (PySem.W.kitOne K (.ref C) (.type "ValueError") = some true) && decide (PySem.W.exmOne K (.ref C) (.ref L) = some true))))))))))))))
/-- what all exceptions rest on -/
def gsB (K : PySem.W.Frag) : Bool := decide (PySem.W.specialIn K (.builtin "object.__class__") "__get__" = some (some (.builtin "getset_descriptor.__get__"))) && decide (PySem.W.takesIn K (.builtin "object.__class__") = some true)
structure ClsI (K : PySem.W.Frag) (C L : Addr) : Prop where
  T : OexC K C
  E : ExcC K C
  X : XfC K C
  iC : PySem.W.findIn K (.ref C) "__init__" = some (some (.ref (ma K C "__init__")))
  tI : PySem.W.typeIn K (.ref (ma K C "__init__")) = some (.type "function")
  lost : PySem.W.kitOne K (.ref C) (.ref L) = some true
  val : PySem.W.kitOne K (.ref C) (.type "ValueError") = some true
  exm : PySem.W.exmOne K (.ref C) (.ref L) = some true
theorem clsB_ok {K : PySem.W.Frag} {C L : Addr} (g : gsB K = true) (h : clsB K C L = true) : ClsI K C L := by
  obtain ⟨g1, g2⟩ := ba g
  obtain ⟨h1, h⟩ := ba h
  obtain ⟨h2, h⟩ := ba h
  obtain ⟨h3, h⟩ := ba h
  obtain ⟨h4, h⟩ := ba h
  obtain ⟨h5, h⟩ := ba h
  obtain ⟨h6, h⟩ := ba h
  obtain ⟨h7, h⟩ := ba h
  obtain ⟨h8, h⟩ := ba h
  obtain ⟨h9, h⟩ := ba h
  obtain ⟨h10, h⟩ := ba h
  obtain ⟨h11, h⟩ := ba h
  obtain ⟨h12, h⟩ := ba h
  obtain ⟨h13, h⟩ := ba h
  obtain ⟨h14, h15⟩ := ba h
  have e3 := of_decide_eq_true h3
  exact ⟨⟨oexB_ok h1, of_decide_eq_true h2, e3, of_decide_eq_true h4, h5⟩,
    ⟨of_decide_eq_true h6, of_decide_eq_true h7, e3, h8, of_decide_eq_true h9, of_decide_eq_true g1, of_decide_eq_true g2, of_decide_eq_true h10⟩,
    ⟨of_decide_eq_true h6, of_decide_eq_true h7, e3, h8⟩, of_decide_eq_true h11, of_decide_eq_true h12, of_decide_eq_true h13, of_decide_eq_true h14, of_decide_eq_true h15⟩
end Ml

namespace K01
open PySem PySem.Spec PyProof.Rows L2 Ml
/-- the __init__ of the class at i -/
def ini (i : Nat) : Stmt := match top i with
  | .ClassDef _ _ _ (s :: _) _ _ _ _ _ _ _ => s
  | s => s
def dC (i : Nat) (x qual : Str) : He.DefD := ⟨(x, some "__init__"), "__init__", qual, defArgs (ini i), defBody (ini i), defScope (ini i), [], []⟩
def dF (i : Nat) (x : Str) : He.DefD := ⟨(x, none), x, x, defArgs (top i), defBody (top i), defScope (top i), [], []⟩
abbrev Fi (K : PySem.W.Frag) (i : Nat) (x qual : Str) (fd : FuncData) : Prop := FunD K "__init__" qual (defArgs (ini i)) (defBody (ini i)) (defScope (ini i)) [] [] (He.ma K (He.ga K x) "__init__") fd
theorem pin_of {K : PySem.W.Frag} {x : Str} {st : Stmt} {f : Addr} {fd : FuncData} (F : Fd K x st f fd) : ∃ o : Obj, K.lookup f = some o ∧ ∀ v, o.data ≠ .cell v := by
  obtain ⟨oc, od, dV, kV, doc, pm, an, cdv, ct, osl, rfl, lk, _⟩ := F.ex
  exact ⟨_, lk, fun v z => by cases z⟩
section
variable {P : Program} {w : World} {K : PySem.W.Frag} {mg : Str → Option Value} {base : Heap} {fd : FuncData} {x f qual : Str} {i : Nat}
theorem one_of {q1 q2 q3 q4 : Pos} (F : Fi K i x qual fd) (G : mg x = some (.ref (He.ga K x))) (B : ClsI K (He.ga K x) (He.ga K "LostError")) (no : PySem.W.findIn K (.ref (He.ga K x)) f = some none)
    (S : FnScope ["self", f] ["self", f] (defScope (ini i))) (hb : defBody (ini i) = iB1 f q1 q2 q3 q4) (pf : Plain f) (b1 : KBn K fd ["self", f] 2 [] (fun us _ => us) (fun vs _ => vs))
    (b2 : KBn K fd ["self", f] 1 [f] (fun us ws => us ++ ws) (fun vs zs => vs ++ zs)) : One P w K mg base x f :=
  ⟨G, B.T, B.iC, B.tI, fd, ok_init1 F S hb B.T no pf, b1, b2⟩
theorem o2 (F : Fi K 2 "InvalidLine" "InvalidLine.__init__" fd) (G : mg "InvalidLine" = some (.ref (He.ga K "InvalidLine"))) (B : ClsI K (He.ga K "InvalidLine") (He.ga K "LostError")) (no : PySem.W.findIn K (.ref (He.ga K "InvalidLine")) "given" = some none) : One P w K mg base "InvalidLine" "given" :=
  one_of F G B no ⟨rfl, rfl, rfl, by decide +kernel, rfl, by decide +kernel, by decide +kernel⟩ rfl ⟨by decide, by decide⟩
    (F.kbn0 2 [] (fun us _ => us) (fun r _ => r) fun _ _ _ _ _ _ us ws l1 l2 => match us, ws, l1, l2 with | [_, _], [], _, _ => rfl)
    (F.kbn0 1 ["given"] (fun us ws => us ++ ws) rel_app fun _ _ _ _ _ _ us ws l1 l2 => match us, ws, l1, l2 with | [_], [_], _, _ => rfl)
theorem o3 (F : Fi K 3 "InvalidText" "InvalidText.__init__" fd) (G : mg "InvalidText" = some (.ref (He.ga K "InvalidText"))) (B : ClsI K (He.ga K "InvalidText") (He.ga K "LostError")) (no : PySem.W.findIn K (.ref (He.ga K "InvalidText")) "given" = some none) : One P w K mg base "InvalidText" "given" :=
  one_of F G B no ⟨rfl, rfl, rfl, by decide +kernel, rfl, by decide +kernel, by decide +kernel⟩ rfl ⟨by decide, by decide⟩
    (F.kbn0 2 [] (fun us _ => us) (fun r _ => r) fun _ _ _ _ _ _ us ws l1 l2 => match us, ws, l1, l2 with | [_, _], [], _, _ => rfl)
    (F.kbn0 1 ["given"] (fun us ws => us ++ ws) rel_app fun _ _ _ _ _ _ us ws l1 l2 => match us, ws, l1, l2 with | [_], [_], _, _ => rfl)
end
def fnA : List He.DefD := [dC 2 "InvalidLine" "InvalidLine.__init__", dC 3 "InvalidText" "InvalidText.__init__", dF 5 "is_tuple", dF 6 "is_number", dF 12 "is_name", dF 13 "is_text", dF 14 "is_line", dF 15 "line_text", dF 16 "read_line", dF 17 "line_in", dF 18 "is_round", dF 20 "_law_cell", dF 21 "_law_box", dF 22 "_law_take", dF 23 "_law_signs", dF 24 "_law_spoilt"]
def fnB : List He.DefD := [dF 25 "_law_name", dF 26 "_law_text", dF 27 "_law_figures", dF 28 "_law_name_due", dF 29 "_law_text_due", dF 30 "_law_line_due", dF 31 "_law_round_due", dF 32 "_law_read_due", dF 33 "_law_yes", dF 34 "_law_asks_right", dF 35 "_law_same", dF 36 "_law_written_right", dF 37 "_law_read_right", dF 38 "_law_values", dF 39 "_law_lists", dF 40 "_law_cell_right", dF 41 "law"]
def fn : List He.DefD := fnA ++ fnB
def globA : List Str := ["LostError", "InvalidLine", "InvalidText", "is_tuple", "is_number", "is_name", "is_text", "is_line", "line_text", "read_line", "line_in", "is_round", "_law_cell", "_law_box", "_law_take", "_law_signs", "_law_spoilt"]
def globB : List Str := ["_law_name", "_law_text", "_law_figures", "_law_name_due", "_law_text_due", "_law_line_due", "_law_round_due", "_law_read_due", "_law_yes", "_law_asks_right", "_law_same", "_law_written_right", "_law_read_right", "_law_values", "_law_lists", "_law_cell_right", "law"]
def glob : List Str := globA ++ globB
def free : List Str := ["type", "str", "len", "all", "tuple", "isinstance", "list", "ord", "range", "repr", "sum", "abs", "int", "max", "min"]
def fa : List He.Fa := .int "NAME_LENGTH" 8 :: .int "TEXT_LENGTH" 40 :: .int "ROUND_FIGURES" 9 :: .str "ROUND_WORD" "round " :: (glob.map He.Fa.glo ++ free.map He.Fa.free)
def errs : List Str := ["InvalidLine", "InvalidText"]
/-- what else the head is asked -/
def ck (K : PySem.W.Frag) : Bool := gsB K && (errs.all (fun x => clsB K (He.ga K x) (He.ga K "LostError")) && (errs.all (fun x => decide (PySem.W.findIn K (.ref (He.ga K x)) "given" = some none)) &&
  (errs.all (fun x => decide (PySem.W.exmOne K (.ref (He.ga K x)) (.ref (He.ga K x)) = some true)) && (tys.all (fun t => kinds.all fun u => decide (PySem.W.kitOne K (.type t) (.type u) = some (decide (t = u)))) &&
  (kinds.all (fun u => decide (PySem.W.kitOne K (.ref (He.ga K "InvalidText")) (.type u) = some false)) &&
  (tys.all (fun t => decide (PySem.W.kitOne K (.type t) (.ref (He.ga K "InvalidText")) = some false) && decide (PySem.W.kitOne K (.type t) (.ref (He.ga K "LostError")) = some false)) &&
  (decide (PySem.W.kitOne K (.ref (He.ga K "InvalidText")) (.ref (He.ga K "InvalidText")) = some true) && (K.lookup sysModules).isSome)))))))
theorem fact_of {fa : List He.Fa} {fn : List He.DefD} {K : PySem.W.Frag} (c : He.SaysD fa fn K) {f : He.Fa} (h : f ∈ fa) : f.ok K = true := by
  obtain ⟨i, e⟩ := List.mem_iff_getElem?.mp h
  exact c.fact i e
section
variable {P : Program} {w : World} {K : PySem.W.Frag} {h : Heap} {mg : Str → Option Value}
theorem facts {f : Addr} (X : K.In h) (G : h.Ns mainGlobals mg) (hfa : mg ("law" : Str) = some (.ref f)) (c : He.SaysD fa fn K) (k : ck K = true) :
    ∃ fd : FuncData, (∀ (s : Shared) (v : Value), BindsTo s fd ⟨[v], []⟩ [("script", v)]) ∧ ∀ base : Heap, K.In base → base.Ns mainGlobals mg → FnG P w K mg base 7 f fd ["script"] (spLaw K) := by
  obtain ⟨k1, k⟩ := He.ba k
  obtain ⟨k2, k⟩ := He.ba k
  obtain ⟨k3, k⟩ := He.ba k
  obtain ⟨k4, k⟩ := He.ba k
  obtain ⟨k5, k⟩ := He.ba k
  obtain ⟨k6, k⟩ := He.ba k
  obtain ⟨k7, k⟩ := He.ba k
  obtain ⟨k8, k9⟩ := He.ba k
  have D : ∀ {x : Str}, x ∈ glob → mg x = some (.ref (He.ga K x)) := fun hx =>
    He.glo_ok X G (fact_of c (List.mem_cons_of_mem _ (List.mem_cons_of_mem _ (List.mem_cons_of_mem _ (List.mem_cons_of_mem _ (List.mem_append_left _ (List.mem_map_of_mem hx)))))))
  have U : ∀ {x : Str}, x ∈ free → mg x = none := fun hx =>
    He.free_ok X G (fact_of c (List.mem_cons_of_mem _ (List.mem_cons_of_mem _ (List.mem_cons_of_mem _ (List.mem_cons_of_mem _ (List.mem_append_right _ (List.mem_map_of_mem hx)))))))
  have B : ∀ {x : Str}, x ∈ errs → ClsI K (He.ga K x) (He.ga K "LostError") := fun hx => clsB_ok k1 (List.all_eq_true.mp k2 _ hx)
  have N : ∀ {x : Str}, x ∈ errs → PySem.W.findIn K (.ref (He.ga K x)) "given" = some none := fun hx => of_decide_eq_true (List.all_eq_true.mp k3 _ hx)
  have M : ∀ {x : Str}, x ∈ errs → PySem.W.exmOne K (.ref (He.ga K x)) (.ref (He.ga K x)) = some true := fun hx => of_decide_eq_true (List.all_eq_true.mp k4 _ hx)
  have eL : ("InvalidLine" : Str) ∈ errs := by decide +kernel
  have eT : ("InvalidText" : Str) ∈ errs := by decide +kernel
  have T : Kit K := ⟨fun t ht u hu => of_decide_eq_true (List.all_eq_true.mp (List.all_eq_true.mp k5 _ ht) _ hu), fun u hu => of_decide_eq_true (List.all_eq_true.mp k6 _ hu), (B eT).E⟩
  have T2 : Kit2 K mg := ⟨D (by decide +kernel), D (by decide +kernel), (B eT).X, N eT, fun t ht => of_decide_eq_true (He.ba (List.all_eq_true.mp k7 _ ht)).1, fun t ht => of_decide_eq_true (He.ba (List.all_eq_true.mp k7 _ ht)).2,
    of_decide_eq_true k8, Option.isSome_iff_exists.mp k9⟩
  have Bt : Blt mg := ⟨U (by decide +kernel), U (by decide +kernel), U (by decide +kernel), U (by decide +kernel), U (by decide +kernel)⟩
  have B2 : Blt2 mg := ⟨U (by decide +kernel), U (by decide +kernel), U (by decide +kernel), U (by decide +kernel), U (by decide +kernel), U (by decide +kernel), U (by decide +kernel), U (by decide +kernel)⟩
  have BT : BltT mg := ⟨U (by decide +kernel), U (by decide +kernel), U (by decide +kernel), U (by decide +kernel)⟩
  have BL : BltL mg := ⟨U (by decide +kernel), U (by decide +kernel)⟩
  have I : Ints mg := ⟨He.int_ok X G (c.fact 0 (f := .int "NAME_LENGTH" 8) rfl), He.int_ok X G (c.fact 1 (f := .int "TEXT_LENGTH" 40) rfl), He.int_ok X G (c.fact 2 (f := .int "ROUND_FIGURES" 9) rfl), He.str_ok X G (c.fact 3 (f := .str "ROUND_WORD" "round ") rfl)⟩
  have E1 : Err K mg "InvalidLine" := ⟨D (by decide +kernel), M eL, (B eL).X, N eL⟩
  have E2 : Err K mg "InvalidText" := ⟨D (by decide +kernel), M eT, (B eT).X, N eT⟩
  obtain ⟨dI2, FI2⟩ := c.def_ 0 (d := dC 2 "InvalidLine" "InvalidLine.__init__") rfl
  obtain ⟨dI3, FI3⟩ := c.def_ 1 (d := dC 3 "InvalidText" "InvalidText.__init__") rfl
  obtain ⟨d5, (F5 : Fd K "is_tuple" (top 5) (He.ga K "is_tuple") d5)⟩ := c.def_ 2 (d := dF 5 "is_tuple") rfl
  have g5 : mg "is_tuple" = some (.ref (He.ga K "is_tuple")) := D (by decide +kernel)
  obtain ⟨d6, (F6 : Fd K "is_number" (top 6) (He.ga K "is_number") d6)⟩ := c.def_ 3 (d := dF 6 "is_number") rfl
  have g6 : mg "is_number" = some (.ref (He.ga K "is_number")) := D (by decide +kernel)
  obtain ⟨d12, (F12 : Fd K "is_name" (top 12) (He.ga K "is_name") d12)⟩ := c.def_ 4 (d := dF 12 "is_name") rfl
  have g12 : mg "is_name" = some (.ref (He.ga K "is_name")) := D (by decide +kernel)
  obtain ⟨d13, (F13 : Fd K "is_text" (top 13) (He.ga K "is_text") d13)⟩ := c.def_ 5 (d := dF 13 "is_text") rfl
  have g13 : mg "is_text" = some (.ref (He.ga K "is_text")) := D (by decide +kernel)
  obtain ⟨d14, (F14 : Fd K "is_line" (top 14) (He.ga K "is_line") d14)⟩ := c.def_ 6 (d := dF 14 "is_line") rfl
  have g14 : mg "is_line" = some (.ref (He.ga K "is_line")) := D (by decide +kernel)
  obtain ⟨d15, (F15 : Fd K "line_text" (top 15) (He.ga K "line_text") d15)⟩ := c.def_ 7 (d := dF 15 "line_text") rfl
  have g15 : mg "line_text" = some (.ref (He.ga K "line_text")) := D (by decide +kernel)
  obtain ⟨d16, (F16 : Fd K "read_line" (top 16) (He.ga K "read_line") d16)⟩ := c.def_ 8 (d := dF 16 "read_line") rfl
  have g16 : mg "read_line" = some (.ref (He.ga K "read_line")) := D (by decide +kernel)
  obtain ⟨d17, (F17 : Fd K "line_in" (top 17) (He.ga K "line_in") d17)⟩ := c.def_ 9 (d := dF 17 "line_in") rfl
  have g17 : mg "line_in" = some (.ref (He.ga K "line_in")) := D (by decide +kernel)
  obtain ⟨d18, (F18 : Fd K "is_round" (top 18) (He.ga K "is_round") d18)⟩ := c.def_ 10 (d := dF 18 "is_round") rfl
  have g18 : mg "is_round" = some (.ref (He.ga K "is_round")) := D (by decide +kernel)
  obtain ⟨d20, (F20 : Fd K "_law_cell" (top 20) (He.ga K "_law_cell") d20)⟩ := c.def_ 11 (d := dF 20 "_law_cell") rfl
  have g20 : mg "_law_cell" = some (.ref (He.ga K "_law_cell")) := D (by decide +kernel)
  obtain ⟨d21, (F21 : Fd K "_law_box" (top 21) (He.ga K "_law_box") d21)⟩ := c.def_ 12 (d := dF 21 "_law_box") rfl
  have g21 : mg "_law_box" = some (.ref (He.ga K "_law_box")) := D (by decide +kernel)
  obtain ⟨d22, (F22 : Fd K "_law_take" (top 22) (He.ga K "_law_take") d22)⟩ := c.def_ 13 (d := dF 22 "_law_take") rfl
  have g22 : mg "_law_take" = some (.ref (He.ga K "_law_take")) := D (by decide +kernel)
  obtain ⟨d23, (F23 : Fd K "_law_signs" (top 23) (He.ga K "_law_signs") d23)⟩ := c.def_ 14 (d := dF 23 "_law_signs") rfl
  have g23 : mg "_law_signs" = some (.ref (He.ga K "_law_signs")) := D (by decide +kernel)
  obtain ⟨d24, (F24 : Fd K "_law_spoilt" (top 24) (He.ga K "_law_spoilt") d24)⟩ := c.def_ 15 (d := dF 24 "_law_spoilt") rfl
  have g24 : mg "_law_spoilt" = some (.ref (He.ga K "_law_spoilt")) := D (by decide +kernel)
  obtain ⟨d25, (F25 : Fd K "_law_name" (top 25) (He.ga K "_law_name") d25)⟩ := c.def_ 16 (d := dF 25 "_law_name") rfl
  have g25 : mg "_law_name" = some (.ref (He.ga K "_law_name")) := D (by decide +kernel)
  obtain ⟨d26, (F26 : Fd K "_law_text" (top 26) (He.ga K "_law_text") d26)⟩ := c.def_ 17 (d := dF 26 "_law_text") rfl
  have g26 : mg "_law_text" = some (.ref (He.ga K "_law_text")) := D (by decide +kernel)
  obtain ⟨d27, (F27 : Fd K "_law_figures" (top 27) (He.ga K "_law_figures") d27)⟩ := c.def_ 18 (d := dF 27 "_law_figures") rfl
  have g27 : mg "_law_figures" = some (.ref (He.ga K "_law_figures")) := D (by decide +kernel)
  obtain ⟨d28, (F28 : Fd K "_law_name_due" (top 28) (He.ga K "_law_name_due") d28)⟩ := c.def_ 19 (d := dF 28 "_law_name_due") rfl
  have g28 : mg "_law_name_due" = some (.ref (He.ga K "_law_name_due")) := D (by decide +kernel)
  obtain ⟨d29, (F29 : Fd K "_law_text_due" (top 29) (He.ga K "_law_text_due") d29)⟩ := c.def_ 20 (d := dF 29 "_law_text_due") rfl
  have g29 : mg "_law_text_due" = some (.ref (He.ga K "_law_text_due")) := D (by decide +kernel)
  obtain ⟨d30, (F30 : Fd K "_law_line_due" (top 30) (He.ga K "_law_line_due") d30)⟩ := c.def_ 21 (d := dF 30 "_law_line_due") rfl
  have g30 : mg "_law_line_due" = some (.ref (He.ga K "_law_line_due")) := D (by decide +kernel)
  obtain ⟨d31, (F31 : Fd K "_law_round_due" (top 31) (He.ga K "_law_round_due") d31)⟩ := c.def_ 22 (d := dF 31 "_law_round_due") rfl
  have g31 : mg "_law_round_due" = some (.ref (He.ga K "_law_round_due")) := D (by decide +kernel)
  obtain ⟨d32, (F32 : Fd K "_law_read_due" (top 32) (He.ga K "_law_read_due") d32)⟩ := c.def_ 23 (d := dF 32 "_law_read_due") rfl
  have g32 : mg "_law_read_due" = some (.ref (He.ga K "_law_read_due")) := D (by decide +kernel)
  obtain ⟨d33, (F33 : Fd K "_law_yes" (top 33) (He.ga K "_law_yes") d33)⟩ := c.def_ 24 (d := dF 33 "_law_yes") rfl
  have g33 : mg "_law_yes" = some (.ref (He.ga K "_law_yes")) := D (by decide +kernel)
  obtain ⟨d34, (F34 : Fd K "_law_asks_right" (top 34) (He.ga K "_law_asks_right") d34)⟩ := c.def_ 25 (d := dF 34 "_law_asks_right") rfl
  have g34 : mg "_law_asks_right" = some (.ref (He.ga K "_law_asks_right")) := D (by decide +kernel)
  obtain ⟨d35, (F35 : Fd K "_law_same" (top 35) (He.ga K "_law_same") d35)⟩ := c.def_ 26 (d := dF 35 "_law_same") rfl
  have g35 : mg "_law_same" = some (.ref (He.ga K "_law_same")) := D (by decide +kernel)
  obtain ⟨d36, (F36 : Fd K "_law_written_right" (top 36) (He.ga K "_law_written_right") d36)⟩ := c.def_ 27 (d := dF 36 "_law_written_right") rfl
  have g36 : mg "_law_written_right" = some (.ref (He.ga K "_law_written_right")) := D (by decide +kernel)
  obtain ⟨d37, (F37 : Fd K "_law_read_right" (top 37) (He.ga K "_law_read_right") d37)⟩ := c.def_ 28 (d := dF 37 "_law_read_right") rfl
  have g37 : mg "_law_read_right" = some (.ref (He.ga K "_law_read_right")) := D (by decide +kernel)
  obtain ⟨d38, (F38 : Fd K "_law_values" (top 38) (He.ga K "_law_values") d38)⟩ := c.def_ 29 (d := dF 38 "_law_values") rfl
  have g38 : mg "_law_values" = some (.ref (He.ga K "_law_values")) := D (by decide +kernel)
  obtain ⟨d39, (F39 : Fd K "_law_lists" (top 39) (He.ga K "_law_lists") d39)⟩ := c.def_ 30 (d := dF 39 "_law_lists") rfl
  have g39 : mg "_law_lists" = some (.ref (He.ga K "_law_lists")) := D (by decide +kernel)
  obtain ⟨d40, (F40 : Fd K "_law_cell_right" (top 40) (He.ga K "_law_cell_right") d40)⟩ := c.def_ 31 (d := dF 40 "_law_cell_right") rfl
  have g40 : mg "_law_cell_right" = some (.ref (He.ga K "_law_cell_right")) := D (by decide +kernel)
  obtain ⟨d41, (F41 : Fd K "law" (top 41) (He.ga K "law") d41)⟩ := c.def_ 32 (d := dF 41 "law") rfl
  have g41 : mg "law" = some (.ref (He.ga K "law")) := D (by decide +kernel)
  have e := hfa.symm.trans g41
  cases e
  have b := FunD.bindsA (ps := ["script"]) F41 fun _ _ _ _ _ _ us hl => match us, hl with | [_], _ => rfl
  refine ⟨d41, fun s v => b s [v] rfl, fun base _ _ => ?_⟩
  have O2 : One P w K mg base "InvalidLine" "given" := o2 FI2 (D (by decide +kernel)) (B eL) (N eL)
  have O3 : One P w K mg base "InvalidText" "given" := o3 FI3 (D (by decide +kernel)) (B eT) (N eT)
  have oL : FnOk P w K mg base CX0 2 (He.ga K "is_line") d14 ["value"] (spJ K lineB) := ok_isLine F14 F5 F12 F13 Bt I g5 g12 g13
  have pin : ∃ (a : Addr) (o : Obj), K.lookup a = some o ∧ ∀ v, o.data ≠ .cell v := ⟨_, pin_of F41⟩
  have uL : ∀ p, FnP P w K mg base 2 (He.ga K "_law_line_due") d30 ["value"] p (spJ K lineB) := fun _ => ok_lineDue F30 F28 F29 B2 T g28 g29
  have J : Judges P w K mg base (He.ga K "is_name") (He.ga K "is_text") (He.ga K "is_line") (He.ga K "is_round") (He.ga K "_law_name_due") (He.ga K "_law_text_due") (He.ga K "_law_line_due") (He.ga K "_law_round_due") d12 d13 d14 d18 d28 d29 d30 d31 :=
    ⟨g12, g13, g14, g18, g28, g29, g30, g31, F12, F13, F14, F18, F28, F29, F30, F31, ok_isName F12 Bt I, ok_isText F13 Bt I, oL, ok_isRound F18 F6 Bt I g6, fun _ => ok_nameDue F28 B2 T, fun _ => ok_textDue F29 B2 T, uL, fun _ => ok_roundDue F31 B2 T, pin⟩
  have W : Wr P w K mg base (He.ga K "line_text") (He.ga K "read_line") (He.ga K "_law_line_due") (He.ga K "_law_same") d15 d16 d30 d35 :=
    ⟨g15, g16, g30, g35, F15, F16, F30, F35, ok_lineText F15 F14 oL O2 g14, ok_readLine F16 F17 (ok_lineIn F17 F14 oL Bt g14) O3 g17, uL, fun _ => ok_same F35 T T2 B2, pin⟩
  have GN := ok_dName (P := P) (w := w) (base := base) F25 F22 F23 F24 BT B2 g22 g23 g24
  have GX := ok_dText (P := P) (w := w) (base := base) F26 F22 F23 F24 BT B2 g22 g23 g24
  have GF := ok_dFig (P := P) (w := w) (base := base) F27 F22 F23 F24 BT B2 g22 g23 g24
  have GG := ok_signs (P := P) (w := w) (base := base) F23 F22 BT B2 g22
  have C : Cr P w K mg base (He.ga K "_law_take") (He.ga K "_law_values") (He.ga K "_law_lists") (He.ga K "_law_asks_right") (He.ga K "_law_written_right") (He.ga K "_law_read_right") d22 d38 d39 d34 d36 d37 :=
    ⟨g22, g38, g39, g34, g36, g37, F22, F38, F39, F34, F36, F37, ok_take F22 BT, ok_values F38 F25 F26 F27 F23 F22 GN GX GF GG BT O3 g25 g26 g27 g23 g22, ok_lists F39 F25 F27 GN GF g25 g27, ok_asks F34 F33 J B2 g33,
      ok_written F36 W E1 T B2, ok_readR F37 F32 (fun _ => ok_readDue F32 F30 (uL _) B2 T g30) g32 W E2 T B2⟩
  exact ok_law F41 F20 F21 F40 (ok_cell F20 BT) (ok_box F21 BT) (ok_cellR F40 C T T2 B2) B2 BL g20 g21 g40
end
end K01

namespace K01
open PySem PySem.Spec PyProof.Rows L2 Ml
abbrev R : PySem.W.OpenRow := PySem.W.OpenLaw.row PySem.Challenge.rw_maplost_k01_names_lines_and_rounds
abbrev hk : PySem.W.Hook := hookM 4 fa fn ck
def ob (s : PySem.W.SharedT) : He.AlD := seeM ck fa fn (partG (HandSHeadRun.getT s) 4)
theorem ob_eq (s : PySem.W.SharedT) : ob s = hk.obs s.abs := see_eq (HandSHeadRun.getT_eq s)
def looseA : List Str := ["LostError", "InvalidLine", "InvalidText", "NAME_LENGTH", "TEXT_LENGTH", "ROUND_WORD", "ROUND_FIGURES", "is_tuple", "is_number", "is_name", "is_text", "is_line", "line_text", "read_line", "line_in", "is_round", "_law_cell", "_law_box"]
def looseB : List Str := ["_law_take", "_law_signs", "_law_spoilt", "_law_name", "_law_text", "_law_figures", "_law_name_due", "_law_text_due", "_law_line_due", "_law_round_due", "_law_read_due", "_law_yes", "_law_asks_right", "_law_same", "_law_written_right", "_law_read_right", "_law_values", "_law_lists", "_law_cell_right"]
abbrev looseN : List Str := looseA ++ looseB
theorem run (w : World) : HandSHeadRun.RunEq R (PySem.W.view R.prog [41]) hk ob 20000 looseN w := by
  intro os
  kernel_rfl
end K01

open PySem PySem.W PySem.Calls PyProof.Rows
theorem PySem.Challenge.cw_maplost_k01_names_lines_and_rounds_holds : PySem.Challenge.rw_maplost_k01_names_lines_and_rounds.Holds := by
  w_on; o_law
  refine HandSHeadRun.head_any (r := OpenLaw.row PySem.Challenge.rw_maplost_k01_names_lines_and_rounds) (q := view (OpenLaw.row PySem.Challenge.rw_maplost_k01_names_lines_and_rounds).prog [41]) (H := K01.hk) (ob := K01.ob) (M := 20000) (loose := K01.looseN)
    (d := HandSHeadRun.topDef (OpenLaw.row PySem.Challenge.rw_maplost_k01_names_lines_and_rounds).prog 41) (kwd := []) K01.ob_eq
    (by kernel_rfl) (fun s => by kernel_rfl) K01.run (by kernel_rfl) (by kernel_rfl) (by kernel_rfl) (by rfl) (by first | assumption | decide +kernel) (by decide +kernel) ⟨rfl, rfl, rfl, rfl, rfl, by decide +kernel⟩ ?hw ?hc
  case hw => w_witness2
  case hc =>
    refine L2.walk_G (l := PySem.Challenge.rw_maplost_k01_names_lines_and_rounds) (n := 63) (k := 7) (x := "script") rfl (by decide) (by kernel_rfl) ⟨by decide, by decide, by decide⟩ ?_
    intro w mg fx h Y G hmg0
    obtain ⟨K, KX, c⟩ := Y
    obtain ⟨c, ck⟩ := Ml.see_ok c
    have hmg : mg ("law" : PySem.Str) = some (.ref fx) := by
      have e : (HandSHeadRun.topDef (OpenLaw.row PySem.Challenge.rw_maplost_k01_names_lines_and_rounds).prog 41).name = ("law" : PySem.Str) := by kernel_rfl
      rw [← e]
      exact hmg0
    obtain ⟨fd, hb, hF⟩ := K01.facts (P := (PySem.Challenge.rw_maplost_k01_names_lines_and_rounds).prog) (w := w) KX G hmg c ck
    exact ⟨K, fd, K01.spLaw K, KX, hb, fun H a ns hS => ⟨a, ns, rfl, hS, fun _ => rfl⟩, hF⟩

