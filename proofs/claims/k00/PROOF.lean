import PyProof.Rows.All
import Wide.All
import OpenK.AllK
import Wide.FinOn
import PyProof.EqAt
import PyProof.EqKinds
import PyProof.TupleCall
import HandS.ForMost
import HandS.Exc
import HandS.ExcInit
import HandS.Defaults
import KE.KIsAll
import KE.KTryMore
import HandS.ExcIs
import HandS.ExcField
import HandS.IsInst
import HandS.MakeKwOnly
import HandS.HotCalls
import HandS.Comp
import PyProof.ReprRoads
import HandS.DeepEq
import HandS.ForExc
import HandS.ListEq
import HandS.DictComp
import HandS.WordsList
import HandS.HeadHook1
import HandS.Dict
import HandS.Small
import HandS.ExcInitHot
import HandS.Ends
import HandS.Head0
import HandS.Head1
import HandS.Head2
import HandS.HeadHook2
import KE.KStateDown
import HandS.HeadEnd
import PySem.Challenge.RW_maplost_k00_errors
set_option Elab.async false
set_option linter.all false
set_option maxRecDepth 100000
set_option maxHeartbeats 0
/-! exceptions with an own __init__, made by values and by keywords -/
namespace PySem
namespace MlE
open Builtin Builtin.ObjectAttr PySem.HandSPX
section
variable {M : Model} {A : Around} {E : Value → Shared → Prop} {hp : Heap} {gs : Array GenState} {dr : Drawn} {tk : Nat} {os : OsState}
variable {nm q : Str} {C N : Addr} {bs bm base : List Value} {hdct : Bool} {sn : List Str} {sub : List Value} {ab : Bool} {col : Option Bool} {dd : Option Addr}
variable {k0 k1 k2 k3 k5 : Option Value} {B nid iid : String}
theorem newCheckK (F : ExcBaseFacts B nid iid base) (hT : ∀ Y : String, bm.contains (.type Y) = base.contains (.type Y))
    {xs : List Value} {kw : List (Str × Value)} {Q : Unit → Shared → Prop}
    (hC : hp.get? C = some (excClassObj nm q C N bs bm hdct sn sub ab col dd k0 k1 k2 k3 k5 nid))
    (hq : Q () ⟨hp, gs, dr, tk, os⟩) :
    wpAny M A (checkBuiltinCall nid { pos := .ref C :: xs, kw := kw }) Q E ⟨hp, gs, dr, tk, os⟩ := by
  have inB : (Value.ref C :: bm).contains (.type B) = true := by
    rw [List.contains_cons, hT, F.hasB, Bool.or_true]
  have st := F.noStar
  simp only [checkBuiltinCall, F.newKind, F.newSplit, F.newRow]
  repeat (first
    | refine wpAny_loadPart_at hC ?_
    | (refine wpAny_isSubtype_exc hC ?_; rw [inB])
    | refine wpAny_staticBase_exc hC ?_
    | refine wpAny_madeBy_exc hC ?_
    | simp only [bne_self_eq_false, Bool.false_eq_true, if_false]
    | wp_step)
  exact hq
end
section
variable {P : Program} {w : World} {A : Around} {E : Value → Shared → Prop} {R : Result → Shared → Prop} {hp : Heap} {gs : Array GenState} {dr : Drawn} {tk : Nat} {os : OsState}
variable {nm q : Str} {C N : Addr} {bs bm base : List Value} {hdct : Bool} {sn : List Str} {sub : List Value} {ab : Bool} {col : Option Bool} {dd : Option Addr}
variable {k0 k1 k2 k3 k5 : Option Value} {B nid iid : String}
/-- the heap behind BaseException.__new__ -/
abbrev withNew (hp : Heap) (C : Addr) (xs : List Value) : Heap := (hp.push (PySem.W.kdv_tup xs)).push (excO C hp.objs.size)
theorem newK (F : ExcBaseFacts B nid iid base) (hT : ∀ Y : String, bm.contains (.type Y) = base.contains (.type Y))
    {xs : List Value} {kw : List (Str × Value)}
    (hC : hp.get? C = some (excClassObj nm q C N bs bm hdct sn sub ab col dd k0 k1 k2 k3 k5 nid)) (hl : xs.length ≤ sizeLine)
    (hq : R (.ok (.ret (.ref (hp.objs.size + 1)))) ⟨withNew hp C xs, gs, dr, tk, os⟩) :
    codeAny (model P w) A (.builtin nid { pos := .ref C :: xs, kw := kw }) R ⟨hp, gs, dr, tk, os⟩ := by
  have en := F.ends
  have inB : (Value.ref C :: bm).contains (.type B) = true := by
    rw [List.contains_cons, hT, F.hasB, Bool.or_true]
  have inA : (Value.ref C :: bm).contains (.type "AttributeError") = false := by
    rw [List.contains_cons, hT, F.noAttr] <;> rfl
  have inN : (Value.ref C :: bm).contains (.type "NameError") = false := by
    rw [List.contains_cons, hT, F.noName] <;> rfl
  refine codeAny_builtinAt F.entry ?_
  unfold Builtin.«BaseException.__new__»
  refine wpAt_bind ?_
  show wpAt _ _ _ (stack >>= _) _ _ _
  refine wpAt_bind (wpAt_stack fun p below => wpAt_of_wpAny ?_)
  wp_walk
  refine wpAt_of_wpAny ?_
  rw [F.owner]
  repeat (first
    | with_reducible refine wpAny_madeHere_exc F.canon hC ?_
    | with_reducible refine wpAny_loadPart_at hC ?_
    | (with_reducible refine wpAny_isSubtype_exc hC ?_; first | rw [inB] | rw [inA] | rw [inN])
    | wp_step)
  show R _ _
  rw [Heap.size_push]
  exact hq
/-- type.__call__ on such a class, with keywords -/
theorem typeCallK (F : ExcBaseFacts B nid iid base) (hT : ∀ Y : String, bm.contains (.type Y) = base.contains (.type Y))
    {xs : List Value} {kw : List (Str × Value)} {fI : Addr} {Q : Fin → Shared → Prop}
    (hC : hp.get? C = some (excClassObj nm q C N bs bm hdct sn sub ab col dd k0 k1 k2 k3 k5 nid))
    (hi : W.Looks (model P w) hp (typeLookup (.ref C) "__init__") (some (.ref fI)))
    (hb : ∀ self, W.Looks (model P w) hp (bindSpecial (.ref fI) self) (.ref fI, [self])) (hl : xs.length ≤ sizeLine)
    (hq : codeAny (model P w) A (.call (.ref fI) ⟨.ref (hp.objs.size + 1) :: xs, kw⟩)
      (fun r z => match r with
        | .ok (.ret v) => v = .none ∧ Q (.done (.ret (.ref (hp.objs.size + 1)))) z
        | .ok _ => False
        | .error e => E e z) ⟨withNew hp C xs, gs, dr, tk, os⟩) :
    wpAny (model P w) A (Builtin.«type.__call__» { pos := .ref C :: xs, kw := kw }) Q E ⟨hp, gs, dr, tk, os⟩ := by
  repeat (first
    | with_reducible refine wpAny_loadPart_at hC ?_
    | with_reducible refine wpAny_madeBy_exc hC ?_
    | wp_step)
  refine codeAny_call_builtin_code (Code.quiet_builtin _ F.quiet) (newCheckK F hT hC ?_)
  refine newK F hT hC hl ?_
  show wpAny _ _ _ _ _ _
  have up : ∀ b o, hp.get? b = some o → (withNew hp C xs).get? b = some o :=
    fun b o e => Heap.get?_push_of_some _ (Heap.get?_push_of_some _ e)
  have atC := up _ _ hC
  have atE : (withNew hp C xs).get? (hp.objs.size + 1) = some (excO C hp.objs.size) := by heap_get
  have self : (Value.ref C :: bm).contains (.ref C) = true := by simp
  have iK := hi.keeps up
  have bK := (hb (.ref (hp.objs.size + 1))).keeps up
  unfold isInstance
  repeat (first
    | with_reducible refine wpAny_loadPart_at atE ?_
    | (with_reducible refine wpAny_isSubtype_exc atC ?_; rw [self])
    | wp_step)
  show wpAny _ _ (typeLookup (.ref C) _) _ _ _
  refine iK.at ?_
  refine wpAny_holding (wpAny_bind (bK.at ?_))
  refine wpAny_bind (wpAny_call (codeAny_mono hq fun r z hz => ?_))
  cases r with
  | error e => exact hz
  | ok fl =>
    cases fl with
    | ret v =>
      obtain ⟨rfl, hz⟩ := hz
      first
        | exact wpAny_pure (wpAny_pure hz)
        | (wp_walk; exact hz)
    | next => exact hz.elim
    | brk => exact hz.elim
    | cont => exact hz.elim
theorem callK (F : ExcBaseFacts B nid iid base) (hT : ∀ Y : String, bm.contains (.type Y) = base.contains (.type Y))
    {xs : List Value} {kw : List (Str × Value)} {fI : Addr}
    (hC : hp.get? C = some (excClassObj nm q C N bs bm hdct sn sub ab col dd k0 k1 k2 k3 k5 nid))
    (hi : W.Looks (model P w) hp (typeLookup (.ref C) "__init__") (some (.ref fI)))
    (hb : ∀ self, W.Looks (model P w) hp (bindSpecial (.ref fI) self) (.ref fI, [self])) (hl : xs.length ≤ sizeLine)
    (hq : codeAny (model P w) (A.under (.builtin "type.__call__" ⟨.ref C :: xs, kw⟩))
      (.call (.ref fI) ⟨.ref (hp.objs.size + 1) :: xs, kw⟩) (W.InitBack (hp.objs.size + 1) R) ⟨withNew hp C xs, gs, dr, tk, os⟩) :
    codeAny (model P w) A (.call (.ref C) { pos := xs, kw := kw }) R ⟨hp, gs, dr, tk, os⟩ := by
  have g1 := tc_lookup
  have g2 := tc_bind (.ref C)
  have gT : (⟨hp, gs, dr, tk, os⟩ : Shared).TypeIs (.ref C) "type" := ⟨_, hC, rfl⟩
  refine codeAny_of_tree ?_
  show wpAny _ _ (callAny (.ref C) _) _ _ _
  repeat (any_goals (first
    | assumption
    | with_reducible refine wpAny_loadPart_at hC ?_
    | wp_step))
  refine ⟨rfl, ?_⟩
  refine codeAny_call_builtin_at (Code.quiet_builtin _ (by decide +kernel)) entry_typeCall ?_
  refine wpAny_check_type_call_sub hC (typeCallK F hT hC hi hb hl ?_)
  refine codeAny_mono hq fun r z hz => ?_
  cases r with
  | error e => exact hz
  | ok fl => cases fl <;> exact hz
end
end MlE
end PySem

/-! exceptions as values: isinstance, fields, whatever their dict -/
namespace PySem
namespace MlE
open PySem.W PySem.Spec PySem.Calls PyProof.Rows
section
variable {prog : Program} {w : World} {A : Around} {E : Value → Shared → Prop} {s : Shared} {K : Frag} {x D : Addr} {ox : Obj} {od : Option Obj}
theorem findObj_class {C : Addr} {name : Str} {a g : Value} (hc : (clsIn K C).isSome = true)
    (ha : findIn K (.ref C) name = some (some a)) (hg : specialIn K a "__get__" = some (some g)) (ht : takesIn K a = some true) :
    findObj K C od name = some (.bind g a) := by
  obtain ⟨cd, hcd⟩ := Option.isSome_iff_exists.mp hc
  unfold findObj
  simp [hcd, ha, hg, ht]
theorem class_of_exc {Q : Option Value → Shared → Prop} (T : L2.ExcC K D) (X : K.In s.heap) (I : InstAt s.heap x ox D od)
    (h : Q (some (.ref D)) { s with toks := s.toks + 1 }) : wpAny (model prog w) A (getAttr? (.ref x) "__class__") Q E s := by
  obtain ⟨hg, hk, hs, hd, ha, hn, ht, hm⟩ := T
  have cl : (clsIn K D).isSome = true := by
    obtain ⟨cd, hc, _⟩ := any_some hd
    rw [hc] <;> rfl
  have hf : findObj K D od "__class__" = some (.bind (.builtin "getset_descriptor.__get__") (.builtin "object.__class__")) :=
    findObj_class cl ha hn ht
  obtain ⟨hp, gs, dr, tk, os⟩ := s
  have l0 := I.type (M := model prog w)
  have l1 := looks_findIn (M := model prog w) X hg
  have l2 := looks_findIn (M := model prog w) X hk
  have l3 := looks_find (M := model prog w) X I hf
  have lb : Looks (model prog w) hp (isInstance (.ref x) (.type "BaseException")) true :=
    l0.andThen (looks_subIn X hs)
  have n0 : (false && onTheHeap (Value.builtin "BaseException.__getattribute__")) = false := rfl
  have n2 : (Value.builtin "BaseException.__getattribute__" == Value.builtin "object.__getattribute__") = false := by
    decide +kernel
  have n1 : (onTheHeap (Value.ref D) && Value.builtin "BaseException.__getattribute__" == Value.builtin "object.__getattribute__") = false := by
    rw [n2] <;> rfl
  unfold getAttr? getAttrBy? getAttrBy
  refine wpAny_bind (wpAny_mkText (wpAny_bind (wpAny_attempt ?_)))
  refine wpAny_holding (wpAny_bind (l0.at (wpAny_bind (l1.at ?_))))
  show wpAny _ _ (if (onTheHeap (Value.ref D) && Value.builtin "BaseException.__getattribute__" == Value.builtin "object.__getattribute__") = true then _
    else _) _ _ _
  rw [n1, if_neg Bool.false_ne_true]
  unfold getAttrByItsOwn hookBefore
  refine wpAny_bind ?_
  rw [if_pos (show onTheHeap (Value.ref D) = true from rfl)]
  refine l2.at ?_
  refine wpAny_bind (wpAny_attempt ?_)
  refine wpAny_holding ?_
  unfold callGetattribute
  rw [n0, if_neg Bool.false_ne_true]
  unfold boundAndCalled
  rw [PySem.F.excAttr_ValueError.ga.bind (.ref x)]
  refine wpAny_bind (wpAny_pure ?_)
  show wpAny _ _ (call (.builtin "BaseException.__getattribute__") [.ref x, .str "__class__" tk]) _ _ _
  refine wpAny_call ?_
  refine codeAny_call_builtin PySem.F.excAttr_ValueError.ga.plain PySem.F.entry_bexc_ga ?_
  refine @check_slot (model prog w) _ _ ⟨hp, gs, dr, tk + 1, os⟩ "BaseException.__getattribute__" "BaseException" "__getattribute__"
    (.ref x) [.str "__class__" tk] [] _ (by decide +kernel) (by decide +kernel) lb (PySem.F.args_bexc_ga (.ref x) (.str "__class__" tk)) ?_
  unfold Builtin.«object.__getattribute__»
  refine wpAny_bind ?_
  refine wpAny_of_eq (a := ((Value.ref x : Value), [Value.str "__class__" tk])) (by first | rfl | (simp only [slotArgs]; rfl)) ?_
  refine wpAny_bind (wpAny_pure ?_)
  refine wpAny_bind (l0.at (wpAny_bind (l3.at ?_)))
  show wpAny _ _ (holding [Value.builtin "object.__class__"] (call (.builtin "getset_descriptor.__get__")
    [.builtin "object.__class__", .ref x, .ref D]) >>= ret) _ _ _
  refine wpAny_bind (wpAny_holding (wpAny_call ?_))
  refine class_get (s := ⟨hp, gs, dr, tk + 1, os⟩) (ox := ox) (od := od) X I hm ?_
  refine wpAny_pure ?_
  show wpAny _ _ (handedOut (.ref D)) _ _ _
  rw [handedOut_of (v := .ref D) rfl]
  first
    | exact wpAny_pure (wpAny_pure h)
    | exact wpAny_pure h
    | exact wpAny_pure (wpAny_bind (wpAny_pure (wpAny_pure h)))
theorem kitx_excD (T : L2.ExcC K D) : KitX K (.ref x) (.ref D) (fun h => InstAt h x ox D od) where
  ty := fun _ _ _ I => I.type
  it := fun M h X _ => by
    obtain ⟨cd, hc, _⟩ := any_some T.hd
    unfold clsIn at hc
    split at hc
    · rename_i c1 d1 cd1 sl1 ho
      intro A1 Q1 E1 s1 k q
      unfold isType loadHead
      refine wpAny_bind ?_
      exact wpAny_loadPart (k _ _ (X _ _ ho)) (wpAny_pure q)
    · cases hc
  ne := fun h tp dd its n sl X htp => by
    obtain ⟨cd, hc, _⟩ := any_some T.hd
    rw [Bool.eq_false_iff]
    intro q
    obtain rfl : D = tp := Value.ref.inj (beq_iff_eq.mp q)
    unfold clsIn at hc
    split at hc
    · rename_i c1 d1 cd1 sl1 ho
      have z := (X _ _ ho).symm.trans htp
      cases z
    · cases hc
  ca := fun X I k => class_of_exc T X I k
end
end MlE
end PySem

namespace L2
open PySem PySem.Spec PyProof.Rows
/-! ### an exception that is held: tracked, or one of the pins ps -/
abbrev Pin := Addr × Obj
/-- the field table of an exception stands at d -/
def XdAt (H : Hp) (d : Addr) (fs : List (Str × V)) : Prop := H d = some (exd d fs) ∨ H d = some (.xd fs)
/-- at a: an exception of the class at C, its table at d with the fields fs -/
structure EvP (ps : List Pin) (H : Hp) (a C d : Addr) (fs : List (Str × V)) : Prop where
  at_ : H a = some (exo a C (some d)) ∨ ∃ oe : Obj, (a, oe) ∈ ps ∧ oe.cls = .ref C ∧ oe.dict = some d ∧ ∃ vs, oe.data = .fields vs
  tab : XdAt H d fs
theorem EvP.mono {ps qs : List Pin} {H H' : Hp} {a C d : Addr} {fs : List (Str × V)} (e : EvP ps H a C d fs)
    (hp : ∀ p ∈ ps, p ∈ qs) (k : ∀ b o, H b = some o → H' b = some o) : EvP qs H' a C d fs where
  at_ := e.at_.imp (k _ _) fun ⟨oe, h1, h2⟩ => ⟨oe, hp _ h1, h2⟩
  tab := e.tab.imp (k _ _) (k _ _)
section
variable {X : Cx} {pins : List Pin} {σ : St} {H : Hp} {s : Shared}
theorem XdAt.look (I : Inv X pins σ H s) {d : Addr} {fs : List (Str × V)} (x : XdAt H d fs) :
    ∃ mA, s.heap.Ns1 d mA ∧ ∀ f, RelO (fs.lookup f) (mA f) := by
  rcases x with x | x
  · exact exd_at I.hok x
  · exact I.hok d _ x
theorem EvP.look (I : Inv X pins σ H s) {ps : List Pin} (hps : ∀ p ∈ ps, p ∈ X.pn) {a C d : Addr} {fs : List (Str × V)} (e : EvP ps H a C d fs) :
    ∃ oe od mA, PySem.W.InstAt s.heap a oe C (some od) ∧ s.heap.Ns1 d mA ∧ (∀ f, RelO (fs.lookup f) (mA f)) ∧
      ∀ name, PySem.W.lookIn name od = some (mA name) := by
  obtain ⟨mA, hn, hr⟩ := e.tab.look I
  obtain ⟨od, ho, hl⟩ := lookIn_ns hn
  have key : ∃ oe : Obj, s.heap.get? a = some oe ∧ oe.cls = .ref C ∧ oe.dict = some d ∧ ∃ vs, oe.data = .fields vs := by
    rcases e.at_ with h | ⟨oe, hm, h1, h2, h3⟩
    · obtain ⟨t1, z⟩ := exo_at I.hok h
      exact ⟨_, z, rfl, rfl, _, rfl⟩
    · exact ⟨oe, (I.pin (a, oe) (List.mem_append_left _ (hps _ hm))).1, h1, h2, h3⟩
  obtain ⟨oe, z, hc, hd, vs, hv⟩ := key
  refine ⟨oe, od, mA, ⟨z, hc, ?_, ?_⟩, hn, hr, hl⟩
  · unfold PySem.W.notCls
    rw [hv] <;> rfl
  · rw [hd]
    exact ho
end

/-! ### isinstance -/
def rIsEv (K : PySem.W.Frag) (ps : List Pin) : List V → Hp → VK → Prop := fun xs H Q =>
  ∃ (a D d : Addr) (fs : List (Str × V)) (c : V) (u : Value) (b : Bool), xs = [.ref a, c] ∧ EvP ps H a D d fs ∧ ExcC K D ∧
    ClsV c u ∧ PySem.W.kitOne K (.ref D) u = some b ∧ Q (.bl b) H
def rIsEvT (K : PySem.W.Frag) (ps : List Pin) : List V → Hp → VK → Prop := fun xs H Q =>
  ∃ (a D d tp : Addr) (fs : List (Str × V)) (cs : List V) (us : List Value) (b : Bool), xs = [.ref a, .ref tp] ∧ EvP ps H a D d fs ∧
    ExcC K D ∧ H tp = some (.tup cs) ∧ Paired ClsV cs us ∧ PySem.W.kitAny K (.ref D) us = some b ∧ Q (.bl b) H
section
variable {X : Cx} {ps : List Pin}
theorem call_isEv (hps : ∀ p ∈ ps, p ∈ X.pn) : CallR X (.builtin "isinstance") (rIsEv X.K ps) := by
  intro pins s σ H xs us Q I r h
  obtain ⟨a, D, d, fs, c, u, b, rfl, ev, C, k, e, q⟩ := h
  obtain ⟨u1, u2, rfl, r1, r2⟩ := vals2 r
  have e2 := k.eq r2
  subst e2
  obtain rfl : u1 = Value.ref a := r1
  obtain ⟨oe, od, mA, J, _⟩ := ev.look I hps
  exact PySem.W.kia_one (PySem.MlE.kitx_excD C) I.kIn J e (fun z => nomatch z)
    fun tk => ⟨.bl b, H, I.tok tk, rfl, q⟩
theorem call_isEvT (hps : ∀ p ∈ ps, p ∈ X.pn) : CallR X (.builtin "isinstance") (rIsEvT X.K ps) := by
  intro pins s σ H xs us Q I r h
  obtain ⟨a, D, d, tp, fs, cs, ws, b, rfl, ev, C, hT, k, e, q⟩ := h
  obtain ⟨u1, u2, rfl, r1, r2⟩ := vals2 r
  obtain rfl : u2 = Value.ref tp := r2
  obtain rfl : u1 = Value.ref a := r1
  obtain ⟨oe, od, mA, J, _⟩ := ev.look I hps
  obtain ⟨_, its, rv, o, h1, h2, n, h3⟩ := (show ObjOk X.prog X.w H s.heap tp (.tup cs) from I.hok tp _ hT)
  have e3 := ClsV.all k rv
  subst e3
  obtain ⟨oc, od2, dt, sl⟩ := o
  simp only at h2 h3
  subst h2 h3
  exact PySem.W.kia_tup (PySem.MlE.kitx_excD C) I.kIn J h1 e (fun z => nomatch z)
    fun tk => ⟨.bl b, H, I.tok tk, rfl, q⟩
end

/-! ### a field -/
def tEvF (K : PySem.W.Frag) (ps : List Pin) (f : Str) (te : TE) : TE := fun σ H Q => te σ H fun x H1 =>
  ∃ (a D d : Addr) (fs : List (Str × V)) (v : V), x = .ref a ∧ EvP ps H1 a D d fs ∧ XfC K D ∧
    PySem.W.findIn K (.ref D) f = some none ∧ fs.lookup f = some v ∧ Q v H1
theorem pe_evF {X : Cx} {ps : List Pin} {e : Expr} {te : TE} {f : Str} {pos : Pos} (hps : ∀ p ∈ ps, p ∈ X.pn) (he : PE X e te)
    (hb : attributeBase e f X.env (eval e X.env) = eval e X.env := by rfl) : PE X (.Attribute e f pos) (tEvF X.K ps f te) := by
  refine ⟨fun pins s σ H Q I h => ?_⟩
  refine attr_of hb (thn (he.run pins s σ H _ I h) fun u s1 hh => ?_)
  obtain ⟨x, H1, I1, rx, a, D, d, fs, v, rfl, ev, T, hno, l, q⟩ := hh
  obtain rfl : u = Value.ref a := rx
  obtain ⟨oe, od, mA, J, _, hr, hl⟩ := ev.look I1 hps
  obtain ⟨y, hu, ru⟩ := RelO.some_of (v := v) (o := mA f) (by rw [← l]; exact hr f)
  exact HandSPX.exc_get I1.kIn J T.ga T.gg T.exC (PySem.W.findObj_own T.hdC hno rfl (by rw [hl, hu]))
    (handed_of ru) ⟨v, H1, I1.tok _, ru, q⟩

/-! ### C(e, .., k = v, ..) as a value -/
def tMkEv (C : Addr) (n m : Nat) (sp : Sp) (gV : List V → List V → List V) (t tk : TA) : TE := fun σ H Q =>
  t σ H fun vs H1 => tk σ H1 fun zs H2 => vs.length = n ∧ zs.length = m ∧
    ∀ a, H2 a = none → sp (gV (.ref a :: vs) zs) (upd H2 a (exo a C none)) (fun v H3 => v = .non ∧ Q (.ref a) H3) fun _ _ _ => False
section
variable {X : Cx} {CX : CXT} {k n : Nat} {C fI : Addr} {fd : FuncData} {ps ks : List Str} {sp : Sp} {x : Str} {p pos : Pos}
variable {e : Expr} {es : List Expr} {kws : List Keyword} {t tk : TA} {g : List Value → List Value → List Value} {gV : List V → List V → List V}
theorem run_mkEv {pins : List Pin} {σ : St} {H : Hp} {s : Shared} {Q : VK} {us ws : List Value} {vs zs : List V} (T : OexC X.K C)
    (iC : PySem.W.findIn X.K (.ref C) "__init__" = some (some (.ref fI))) (tI : PySem.W.typeIn X.K (.ref fI) = some (.type "function"))
    (F : FnOk X.prog X.w X.K X.mg X.base CX k fI fd ps sp) (hr : Room (k + 1) X.A) (hb : KBn X.K fd ps (n + 1) ks g gV)
    (hx : Passes CX X fun _ _ _ => False) (I : Inv X pins σ H s) (r : Vals vs us) (rz : Vals zs ws) (l1 : vs.length = n)
    (l2 : zs.length = ks.length) (hn : n ≤ 1000)
    (h : ∀ a, H a = none → sp (gV (.ref a :: vs) zs) (upd H a (exo a C none)) (fun v H2 => v = .non ∧ Q (.ref a) H2) fun _ _ _ => False) :
    wpAny (model X.prog X.w) X.A (call (.ref C) us (ks.zip ws)) (EP X pins σ Q) X.xe s := by
  obtain ⟨nm, q, N, bs, bm, sn, sub, ab, col, dd, k0, k1, k2, k3, k5, hC, hbm⟩ := T.cls
  obtain ⟨hp, gs, dr, tk0, os⟩ := s
  have le1 : hp.objs.size ≤ hp.objs.size + 1 := Nat.le_succ _
  have hq := h (hp.objs.size + 1) (I.hok.fresh le1)
  have up : ∀ b o, hp.get? b = some o → (PySem.MlE.withNew hp C us).get? b = some o :=
    fun b o e => Heap.get?_push_of_some _ (Heap.get?_push_of_some _ e)
  have atE : (PySem.MlE.withNew hp C us).get? (hp.objs.size + 1) = some (PySem.HandSPX.excO C hp.objs.size) := by heap_get
  have I2 : Inv X pins σ (upd H (hp.objs.size + 1) (exo (hp.objs.size + 1) C none)) ⟨PySem.MlE.withNew hp C us, gs, dr, tk0, os⟩ :=
    I.laid (t' := tk0) (a := hp.objs.size + 1) (o := exo (hp.objs.size + 1) C none) (h' := PySem.MlE.withNew hp C us) up le1 (exo_ok atE)
  have r1 : Vals (V.ref (hp.objs.size + 1) :: vs) (Value.ref (hp.objs.size + 1) :: us) := .cons rfl r
  have r2 := hb.rel r1 rz
  have e1 : (Value.ref (hp.objs.size + 1) :: us).length = n + 1 := r1.length.symm.trans (congrArg Nat.succ l1)
  have e2 : ws.length = ks.length := rz.length.symm.trans l2
  have hus : us.length ≤ sizeLine := by
    have z := r.length
    rw [sizeLine_eq]
    omega
  refine wpAny_call (PySem.MlE.callK PySem.F.excBase_ValueError (fun Y => PySem.HandSPX.refsVE_contains Y bm hbm)
    (I.kIn _ _ hC) (PySem.W.looks_findIn I.kIn iC) (fun self => PySem.W.bind_fn I.kIn self tI) hus ?_)
  refine codeAny_mono (F.run _ X.stack _ _ ⟨Value.ref (hp.objs.size + 1) :: us, ks.zip ws⟩ (g (Value.ref (hp.objs.size + 1) :: us) ws)
    _ _ (fun _ _ _ => False) (hr.make C us (ks.zip ws)) (I2.env0.make C us (ks.zip ws))
    (hb.to _ (Value.ref (hp.objs.size + 1) :: us) ws I2.kIn e1 e2) r2 hq) fun r s1 h1 => ?_
  cases r with
  | error er => exact hx pins σ _ _ er s1 I2 h1
  | ok fl =>
    cases fl with
    | ret u =>
      obtain ⟨v, H3, I3, rv, ev, q3⟩ := I2.after h1
      subst ev
      exact ⟨rv, ⟨V.ref (hp.objs.size + 1), H3, I3, rfl, q3⟩⟩
    | next => exact False.elim h1
    | brk => exact False.elim h1
    | cont => exact False.elim h1
/-- C(e, ..), values alone -/
theorem pe_mkEv (T : OexC X.K C) (iC : PySem.W.findIn X.K (.ref C) "__init__" = some (some (.ref fI)))
    (tI : PySem.W.typeIn X.K (.ref fI) = some (.type "function")) (FI : FnOk X.prog X.w X.K X.mg X.base CX k fI fd ps sp) (hr : Room (k + 1) X.A)
    (hb : KBn X.K fd ps (n + 1) [] g gV) (hx : Passes CX X fun _ _ _ => False) (hn : n ≤ 1000) (hg : Gl X x) (hm : X.mg x = some (.ref C)) (ha : PA X (e :: es) t)
    (hdb : (x == ("__debug__" : Str)) = false := by decide) (he : starEach (e :: es) X.env = (false, eval e X.env) :: starEach es X.env := by rfl)
    (hpl : (backTo pos (starEach es X.env)).any (·.1) = false := by rfl) : PE X (.Call (.Name x p) (e :: es) [] pos) (tMkEv C n 0 sp gV t tNil) := by
  refine ⟨fun pins s σ H Q I h => ?_⟩
  refine wpAny_Call_Name_kw (ld_glob I hg hm ?_ hdb)
  refine PySem.W.callWith_K (h₀ := X.base) I.ok.mod.kin T.kC ?_ he hpl
  refine thn (ha.run pos pins s σ H _ I h) fun us s1 ⟨vs, H1, I1, r, l1, l2, q⟩ => ⟨I1.kIn, ?_⟩
  exact run_mkEv (ks := []) (ws := []) (zs := []) T iC tI FI hr hb hx I1 r .nil l1 rfl hn q
/-- C(k = v, ..) -/
theorem pe_mkEvK (T : OexC X.K C) (iC : PySem.W.findIn X.K (.ref C) "__init__" = some (some (.ref fI)))
    (tI : PySem.W.typeIn X.K (.ref fI) = some (.type "function")) (FI : FnOk X.prog X.w X.K X.mg X.base CX k fI fd ps sp) (hr : Room (k + 1) X.A)
    (hb : KBn X.K fd ps 1 ks g gV) (hx : Passes CX X fun _ _ _ => False) (hg : Gl X x) (hm : X.mg x = some (.ref C)) (hkw : PK X kws tk)
    (hall : (backToKw pos (keywordEach kws X.env)).all (·.1.isSome) = true := by rfl)
    (hks : (backToKw pos (keywordEach kws X.env)).filterMap (·.1) = ks := by rfl) (hdb : (x == ("__debug__" : Str)) = false := by decide)
    (hpl : ((backTo pos (starEach [] X.env)).any (·.1) || (backToKw pos (keywordEach kws X.env)).any (·.1.isNone)) = false := by rfl) :
    PE X (.Call (.Name x p) [] kws pos) (tMkEv C 0 ks.length sp gV tNil tk) := by
  refine ⟨fun pins s σ H Q I h => ?_⟩
  refine wpAny_Call_Name_kw (ld_glob I hg hm ?_ hdb)
  refine PySem.W.callWith_KW0 (h₀ := X.base) I.ok.mod.kin T.kC hall ?_ hpl
  refine thn (hkw.run pos pins s σ H _ I h) fun ws s2 ⟨zs, H2, I2, rz, l1, l2, q2⟩ => ⟨I2.kIn, ?_⟩
  rw [hks]
  exact run_mkEv (us := []) (vs := []) T iC tI FI hr hb hx I2 .nil rz rfl l2 (Nat.zero_le _) q2
/-- C(e, .., k = v, ..) -/
theorem pe_mkEvM (T : OexC X.K C) (iC : PySem.W.findIn X.K (.ref C) "__init__" = some (some (.ref fI)))
    (tI : PySem.W.typeIn X.K (.ref fI) = some (.type "function")) (FI : FnOk X.prog X.w X.K X.mg X.base CX k fI fd ps sp) (hr : Room (k + 1) X.A)
    (hb : KBn X.K fd ps (n + 1) ks g gV) (hx : Passes CX X fun _ _ _ => False) (hn : n ≤ 1000) (hg : Gl X x) (hm : X.mg x = some (.ref C))
    (ha : PA X (e :: es) t) (hkw : PK X kws tk) (hall : (backToKw pos (keywordEach kws X.env)).all (·.1.isSome) = true := by rfl)
    (hks : (backToKw pos (keywordEach kws X.env)).filterMap (·.1) = ks := by rfl) (hdb : (x == ("__debug__" : Str)) = false := by decide)
    (he : starEach (e :: es) X.env = (false, eval e X.env) :: starEach es X.env := by rfl)
    (hpl : ((backTo pos (starEach (e :: es) X.env)).any (·.1) || (backToKw pos (keywordEach kws X.env)).any (·.1.isNone)) = false := by rfl) :
    PE X (.Call (.Name x p) (e :: es) kws pos) (tMkEv C n ks.length sp gV t tk) := by
  refine ⟨fun pins s σ H Q I h => ?_⟩
  refine wpAny_Call_Name_kw (ld_glob I hg hm ?_ hdb)
  refine PySem.W.callWith_KW (h₀ := X.base) I.ok.mod.kin T.kC hall ?_ hpl he
  refine thn (ha.run pos pins s σ H _ I h) fun us s1 ⟨vs, H1, I1, r, q⟩ => ?_
  refine thn (hkw.run pos pins s1 σ H1 _ I1 q) fun ws s2 ⟨zs, H2, I2, rz, l1, l2, q2⟩ => ⟨I2.kIn, ?_⟩
  rw [hks]
  exact run_mkEv T iC tI FI hr hb hx I2 r rz l1 l2 hn q2
end
end L2

namespace L2
open PySem PySem.Spec PyProof.Rows
theorem Vals.rev : ∀ {xs : List V} {us : List Value}, Vals xs us → Vals xs.reverse us.reverse
  | _, _, .nil => .nil
  | x :: xs, u :: us, .cons r t => by
    rw [List.reverse_cons, List.reverse_cons]
    exact (Vals.rev t).append (.cons r .nil)
section
variable {K : PySem.W.Frag} {x qual : Str} {params : Arguments} {body : List Stmt} {scope : Scope} {f : Addr} {fd : FuncData} {ps : List Str}
/-- a def without defaults, called by n values and the keywords ks -/
theorem FunD.kbn0 (F : FunD K x qual params body scope [] [] f fd) (n : Nat) (ks : List Str) (g : {α : Type} → List α → List α → List α)
    (hrel : ∀ {vs zs : List V} {us ws : List Value}, Vals vs us → Vals zs ws → Vals (g vs zs) (g us ws))
    (h : ∀ (kV doc pm : Value) (an : Option Addr) (cdv ct : Value) (us ws : List Value), us.length = n → ws.length = ks.length →
      bindArgs (PySem.W.fnOf x qual params body scope .none kV doc pm an cdv ct) ⟨us, ks.zip ws⟩ = pure (ps.zip (g us ws))) :
    KBn K fd ps n ks (fun us ws => g us ws) (fun vs zs => g vs zs) := by
  obtain ⟨oc, od, dV, kV, doc, pm, an, cdv, ct, osl, rfl, lk, hcd, hD, hK⟩ := F.ex
  rcases hD with ⟨_, rfl⟩ | ⟨e, _⟩
  · exact ⟨fun s us ws X l1 l2 => .of_eq (h kV doc pm an cdv ct us ws l1 l2), fun r1 r2 => hrel r1 r2⟩
  · exact absurd rfl e
end
theorem visP {N P : List Str} {sc : Scope} (S : FnScope N P sc) {y : Str} (hy : y ∈ P) : Vis sc y := by
  rcases S.par y hy with e | e
  · exact .inl e
  · exact .inr (.inl e)
/-- a name that means nothing to the machine -/
structure Plain (f : Str) : Prop where
  a : (f == ("__debug__" : Str)) = false
  b : (f == ("__classdict__" : Str)) = false
/-! ### self.f = f -/
abbrev iB1 (f : Str) (q1 q2 q3 q4 : Pos) : List Stmt := [.Assign [.Attribute (.Name "self" q1) f q2] (.Name f q3) q4]
abbrev iB2 (f g : Str) (q1 q2 q3 q4 r1 r2 r3 r4 : Pos) : List Stmt :=
  [.Assign [.Attribute (.Name "self" q1) f q2] (.Name f q3) q4, .Assign [.Attribute (.Name "self" r1) g r2] (.Name g r3) r4]
/-- the heap with a new exception at a, of the class at C, its table at d -/
def withEv (H : Hp) (a C d : Addr) (fs : List (Str × V)) : Hp := upd (upd H d (exd d fs)) a (exo a C (some d))
def spI1 (C : Addr) (f : Str) : Sp := fun vs H Q _ => ∃ (a : Addr) (v : V), vs = [.ref a, v] ∧ H a = some (exo a C none) ∧
  ∀ dx, H dx = none → dx ≠ a → Q .non (withEv H a C dx [(f, v)])
def spI2 (C : Addr) (f g : Str) : Sp := fun vs H Q _ => ∃ (a : Addr) (v w : V), vs = [.ref a, v, w] ∧ H a = some (exo a C none) ∧
  ∀ dx, H dx = none → dx ≠ a → Q .non (withEv H a C dx [(g, w), (f, v)])
section
variable {P : Program} {w : World} {K : PySem.W.Frag} {mg : Str → Option Value} {base : Heap} {C fI : Addr} {fd : FuncData} {qual f g : Str} {pa : Arguments} {bd : List Stmt} {sc : Scope}
theorem ok_init1 {q1 q2 q3 q4 : Pos} (F : FunD K "__init__" qual pa bd sc [] [] fI fd) (S : FnScope ["self", f] ["self", f] sc) (hb : bd = iB1 f q1 q2 q3 q4)
    (T : OexC K C) (no : PySem.W.findIn K (.ref C) f = some none) (pf : Plain f) : FnOk P w K mg base CX0 1 fI fd ["self", f] (spI1 C f) := by
  refine F.ok S (fun vs H Q E h => ?_) (fun cdv A outer s H vs Q E hr h => ?_)
  · obtain ⟨a, v, rfl, _⟩ := h
    rfl
  · subst hb
    refine ⟨_, pss_one (ps_ost (pe_var (i := 0) rfl (visP S List.mem_cons_self)) (pe_var (i := 1) rfl (visP S (List.mem_cons_of_mem _ List.mem_cons_self)) (hd := pf.a) (hcd := pf.b))), ?_⟩
    obtain ⟨a, v, rfl, ha, k⟩ := h
    exact ⟨_, rfl, _, rfl, a, C, rfl, T, no, .inl ⟨ha, fun dx n ne => k dx n ne⟩⟩
theorem ok_init2 {q1 q2 q3 q4 r1 r2 r3 r4 : Pos} (F : FunD K "__init__" qual pa bd sc [] [] fI fd) (S : FnScope ["self", f, g] ["self", f, g] sc) (hb : bd = iB2 f g q1 q2 q3 q4 r1 r2 r3 r4)
    (T : OexC K C) (no : PySem.W.findIn K (.ref C) f = some none) (no2 : PySem.W.findIn K (.ref C) g = some none) (pf : Plain f) (pg : Plain g) : FnOk P w K mg base CX0 1 fI fd ["self", f, g] (spI2 C f g) := by
  refine F.ok S (fun vs H Q E h => ?_) (fun cdv A outer s H vs Q E hr h => ?_)
  · obtain ⟨a, v, w, rfl, _⟩ := h
    rfl
  · subst hb
    have v0 := visP S (y := "self") List.mem_cons_self
    have v1 := visP S (y := f) (List.mem_cons_of_mem _ List.mem_cons_self)
    have v2 := visP S (y := g) (List.mem_cons_of_mem _ (List.mem_cons_of_mem _ List.mem_cons_self))
    refine ⟨_, pss_cons (ps_ost (pe_var (i := 0) rfl v0) (pe_var (i := 1) rfl v1 (hd := pf.a) (hcd := pf.b))) (pss_one (ps_ost (pe_var (i := 0) rfl v0) (pe_var (i := 2) rfl v2 (hd := pg.a) (hcd := pg.b)))), ?_⟩
    obtain ⟨a, v, w, rfl, ha, k⟩ := h
    refine ⟨_, rfl, _, rfl, a, C, rfl, T, no, .inl ⟨ha, fun dx n ne => ?_⟩⟩
    refine ⟨_, rfl, _, rfl, a, C, rfl, T, no2, .inr ⟨dx, [(f, v)], upd_same, ?_, by show 1 ≤ 900; decide, ?_⟩⟩
    · rw [upd_ne ne, upd_same]
    · have z := k dx n ne
      have e : upd (upd (upd H dx (exd dx [(f, v)])) a (exo a C (some dx))) dx (exd dx [(g, w), (f, v)]) = withEv H a C dx [(g, w), (f, v)] := by
        funext b
        unfold withEv
        by_cases h1 : b = dx
        · subst h1
          rw [upd_same, upd_ne ne, upd_same]
        · rw [upd_ne h1]
          by_cases h2 : b = a
          · rw [h2, upd_same, upd_same]
          · rw [upd_ne h2, upd_ne h1, upd_ne h2, upd_ne h1]
      exact e ▸ z
end
end L2
/-! a head's facts: a check of one's own, the classes of exceptions, sys -/
namespace Ml
open PySem PySem.Spec PyProof.Rows L2 He
/-- the written part: what the module's names reach in n steps, and sys.modules -/
def partG (g : Addr → Option Obj) (n : Nat) : PySem.W.Frag := frG g (sysModules :: asD g n)
def seeM (ck : PySem.W.Frag → Bool) (fa : List Fa) (fn : List DefD) (K : PySem.W.Frag) : AlD := ((obsD fa fn K).1 && ck K, (obsD fa fn K).2)
def hookM (n : Nat) (fa : List Fa) (fn : List DefD) (ck : PySem.W.Frag → Bool) : PySem.W.Hook where
  α := AlD
  obs := fun s => seeM ck fa fn (partG s.heap.get? n)
  val := fun _ => valD fn
  says := fun _ h => ∃ K : PySem.W.Frag, K.In h ∧ seeM ck fa fn K = valD fn
  of := fun _ _ e => ⟨_, frG_in, e⟩
  keeps := fun _ _ _ ⟨K, hK, c⟩ k => ⟨K, PySem.W.Frag.In.keeps hK k, c⟩
theorem see_eq {n : Nat} {fa : List Fa} {fn : List DefD} {ck : PySem.W.Frag → Bool} {g : Addr → Option Obj} {s : Shared} (h : ∀ a, g a = s.heap.get? a) : seeM ck fa fn (partG g n) = (hookM n fa fn ck).obs s := by
  have e : g = s.heap.get? := funext h
  rw [e] <;> rfl
theorem see_ok {ck : PySem.W.Frag → Bool} {fa : List Fa} {fn : List DefD} {K : PySem.W.Frag} (h : seeM ck fa fn K = valD fn) : SaysD fa fn K ∧ ck K = true := by
  have e1 : ((obsD fa fn K).1 && ck K) = true := congrArg (fun z : AlD => z.1) h
  have e2 : (obsD fa fn K).2 = fn.map DefD.val := congrArg (fun z : AlD => z.2) h
  obtain ⟨c1, c2⟩ := ba e1
  exact ⟨Prod.ext c1 e2, c2⟩
/-! ### a class of exceptions with an __init__ of its own -/
def oexB (K : PySem.W.Frag) (C : Addr) : Bool := match K.lookup C with
  | some ⟨.type "type", _, .cls cd, sl⟩ => (match cd.mro, sl.toList with
    | .ref C' :: bm, [_, _, _, _, some (.builtin n), _] => C' == C && (n == "ValueError.__new__" && (!cd.hasDel && (cd.hasDict && PySem.HandSPX.refsVE bm)))
    | _, _ => false)
  | _ => false
theorem oexB_ok {K : PySem.W.Frag} {C : Addr} (q : oexB K C = true) :
    ∃ nm qn N bs bm sn sub ab col dd k0 k1 k2 k3 k5, K.lookup C = some (excClassObj nm qn C N bs bm true sn sub ab col dd k0 k1 k2 k3 k5 "ValueError.__new__") ∧ PySem.HandSPX.refsVE bm = true := by
  unfold oexB at q
  split at q
  case h_2 => cases q
  rename_i dd cd sl ho
  split at q
  case h_2 => cases q
  rename_i C' bm k0 k1 k2 k3 n k5 hm hs
  obtain ⟨q1, q⟩ := ba q
  obtain ⟨q2, q⟩ := ba q
  obtain ⟨q3, q⟩ := ba q
  obtain ⟨q4, q5⟩ := ba q
  have e1 : C' = C := eq_of_beq q1
  have e2 : n = "ValueError.__new__" := eq_of_beq q2
  obtain ⟨nm, bs, mro, ns, qn, hd, sn, sub, ab, col, del⟩ := cd
  have e3 : del = false := by
    cases del with
    | false => rfl
    | true => cases q3
  have e4 : hd = true := q4
  have e5 : mro = .ref C' :: bm := hm
  subst e1 e2 e3 e4 e5
  have e6 : sl = #[k0, k1, k2, k3, some (.builtin "ValueError.__new__"), k5] := by
    obtain ⟨l⟩ := sl
    exact congrArg Array.mk hs
  subst e6
  exact ⟨nm, qn, ns, bs, bm, sn, sub, ab, col, dd, k0, k1, k2, k3, k5, ho, q5⟩
def bO (K : PySem.W.Frag) (C : Addr) (m : Str) (b : String) : Bool := decide (PySem.W.findIn K (.ref C) m = some (some (.builtin b)))
/-- all of it -/
def clsB (K : PySem.W.Frag) (C L : Addr) : Bool :=
  oexB K C && (bO K C "__setattr__" "object.__setattr__" && (decide (PySem.W.subIn K (.ref C) (.type "BaseException") = some true) && (decide (PySem.W.typeIn K (.ref C) = some (.type "type")) && (PySem.W.keepIn K (.ref C) &&
  (bO K C "__getattribute__" "BaseException.__getattribute__" && (decide (PySem.W.findIn K (.ref C) "__getattr__" = some none) && (PySem.W.hasDictIn K C && (bO K C "__class__" "object.__class__" && (decide (PySem.W.mroIn K C (.type "object") = some true) &&
  (decide (PySem.W.findIn K (.ref C) "__init__" = some (some (.ref (ma K C "__init__")))) && (decide (PySem.W.typeIn K (.ref (ma K C "__init__")) = some (.type "function")) && (decide (PySem.W.kitOne K (.ref C) (.ref L) = some true) &&
  (decide (PySem.W.kitOne K (.ref C) (.type "ValueError") = some true) && decide (PySem.W.exmOne K (.ref C) (.ref L) = some true))))))))))))))
/-- what all exceptions rest on -/
def gsB (K : PySem.W.Frag) : Bool := decide (PySem.W.specialIn K (.builtin "object.__class__") "__get__" = some (some (.builtin "getset_descriptor.__get__"))) && decide (PySem.W.takesIn K (.builtin "object.__class__") = some true)
structure ClsI (K : PySem.W.Frag) (C L : Addr) : Prop where
  T : OexC K C
  E : ExcC K C
  X : XfC K C
  iC : PySem.W.findIn K (.ref C) "__init__" = some (some (.ref (ma K C "__init__")))
  tI : PySem.W.typeIn K (.ref (ma K C "__init__")) = some (.type "function")
  lost : PySem.W.kitOne K (.ref C) (.ref L) = some true
  val : PySem.W.kitOne K (.ref C) (.type "ValueError") = some true
  exm : PySem.W.exmOne K (.ref C) (.ref L) = some true
theorem clsB_ok {K : PySem.W.Frag} {C L : Addr} (g : gsB K = true) (h : clsB K C L = true) : ClsI K C L := by
  obtain ⟨g1, g2⟩ := ba g
  obtain ⟨h1, h⟩ := ba h
  obtain ⟨h2, h⟩ := ba h
  obtain ⟨h3, h⟩ := ba h
  obtain ⟨h4, h⟩ := ba h
  obtain ⟨h5, h⟩ := ba h
  obtain ⟨h6, h⟩ := ba h
  obtain ⟨h7, h⟩ := ba h
  obtain ⟨h8, h⟩ := ba h
  obtain ⟨h9, h⟩ := ba h
  obtain ⟨h10, h⟩ := ba h
  obtain ⟨h11, h⟩ := ba h
  obtain ⟨h12, h⟩ := ba h
  obtain ⟨h13, h⟩ := ba h
  obtain ⟨h14, h15⟩ := ba h
  have e3 := of_decide_eq_true h3
  exact ⟨⟨oexB_ok h1, of_decide_eq_true h2, e3, of_decide_eq_true h4, h5⟩,
    ⟨of_decide_eq_true h6, of_decide_eq_true h7, e3, h8, of_decide_eq_true h9, of_decide_eq_true g1, of_decide_eq_true g2, of_decide_eq_true h10⟩,
    ⟨of_decide_eq_true h6, of_decide_eq_true h7, e3, h8⟩, of_decide_eq_true h11, of_decide_eq_true h12, of_decide_eq_true h13, of_decide_eq_true h14, of_decide_eq_true h15⟩
end Ml
namespace K00
open PySem PySem.Spec PyProof.Rows L2 Ml
def top (i : Nat) : Stmt := PySem.Challenge.pw_maplost_k00_errors.main.body.getD i (.Pass ⟨0, 0, 0, 0⟩)
def cl1 : List (Str × Str) := [(Str.ofString "InvalidLine", Str.ofString "given"), (Str.ofString "InvalidText", Str.ofString "given"), (Str.ofString "InvalidHouses", Str.ofString "given"), (Str.ofString "InvalidRoads", Str.ofString "given"), (Str.ofString "InvalidHouse", Str.ofString "given"), (Str.ofString "InvalidNames", Str.ofString "given"), (Str.ofString "InvalidScript", Str.ofString "given"), (Str.ofString "InvalidFounds", Str.ofString "given"), (Str.ofString "InvalidCount", Str.ofString "given"), (Str.ofString "InvalidCounts", Str.ofString "given"), (Str.ofString "InvalidLater", Str.ofString "given"), (Str.ofString "InvalidIndex", Str.ofString "given"), (Str.ofString "InvalidReaders", Str.ofString "given"), (Str.ofString "InvalidMap", Str.ofString "given"), (Str.ofString "InvalidLot", Str.ofString "given"), (Str.ofString "InvalidSeats", Str.ofString "given"), (Str.ofString "InvalidName", Str.ofString "given"), (Str.ofString "InvalidOwns", Str.ofString "given"), (Str.ofString "InvalidLines", Str.ofString "given"), (Str.ofString "InvalidWriters", Str.ofString "given"), (Str.ofString "InvalidRows", Str.ofString "given"), (Str.ofString "NotJoined", Str.ofString "house"), (Str.ofString "Stopped", Str.ofString "house"), (Str.ofString "Refused", Str.ofString "at"), (Str.ofString "Ringed", Str.ofString "names"), (Str.ofString "NoRow", Str.ofString "names"), (Str.ofString "NotTwo", Str.ofString "many"), (Str.ofString "Nobodys", Str.ofString "picture"), (Str.ofString "Crossed", Str.ofString "cross"), (Str.ofString "NotWhole", Str.ofString "reader"), (Str.ofString "Fitless", Str.ofString "picture"), (Str.ofString "Clash", Str.ofString "reader"), (Str.ofString "TooMany", Str.ofString "count"), (Str.ofString "NoLetter", Str.ofString "k")]
def cl2 : List (Str × Str × Str) := [(Str.ofString "NotARoad", Str.ofString "u", Str.ofString "v"), (Str.ofString "Twice", Str.ofString "house", Str.ofString "text"), (Str.ofString "NothingUnderWay", Str.ofString "u", Str.ofString "v"), (Str.ofString "NotRight", Str.ofString "road", Str.ofString "lines")]
def nms : List Str := (cl1.map fun q => q.1) ++ (cl2.map fun q => q.1)
def ini (i : Nat) : Stmt := match top i with
  | .ClassDef _ _ _ (s :: _) _ _ _ _ _ _ _ => s
  | s => s
def dC (i : Nat) (x qual : Str) : He.DefD := ⟨(x, some "__init__"), "__init__", qual, defArgs (ini i), defBody (ini i), defScope (ini i), [], []⟩
def dF (i : Nat) (x : Str) : He.DefD := ⟨(x, none), x, x, defArgs (top i), defBody (top i), defScope (top i), [], []⟩
def fnA : List He.DefD := [dC 2 "InvalidLine" "InvalidLine.__init__",
  dC 3 "InvalidText" "InvalidText.__init__",
  dC 4 "InvalidHouses" "InvalidHouses.__init__",
  dC 5 "InvalidRoads" "InvalidRoads.__init__",
  dC 6 "InvalidHouse" "InvalidHouse.__init__",
  dC 7 "InvalidNames" "InvalidNames.__init__",
  dC 8 "InvalidScript" "InvalidScript.__init__",
  dC 9 "InvalidFounds" "InvalidFounds.__init__",
  dC 10 "InvalidCount" "InvalidCount.__init__",
  dC 11 "InvalidCounts" "InvalidCounts.__init__",
  dC 12 "InvalidLater" "InvalidLater.__init__",
  dC 13 "InvalidIndex" "InvalidIndex.__init__",
  dC 14 "InvalidReaders" "InvalidReaders.__init__",
  dC 15 "InvalidMap" "InvalidMap.__init__",
  dC 16 "InvalidLot" "InvalidLot.__init__",
  dC 17 "InvalidSeats" "InvalidSeats.__init__",
  dC 18 "InvalidName" "InvalidName.__init__",
  dC 19 "InvalidOwns" "InvalidOwns.__init__",
  dC 20 "InvalidLines" "InvalidLines.__init__",
  dC 21 "InvalidWriters" "InvalidWriters.__init__",
  dC 22 "InvalidRows" "InvalidRows.__init__",
  dC 23 "NotJoined" "NotJoined.__init__",
  dC 24 "NotARoad" "NotARoad.__init__",
  dC 25 "Stopped" "Stopped.__init__",
  dC 26 "Twice" "Twice.__init__",
  dC 27 "NothingUnderWay" "NothingUnderWay.__init__",
  dC 28 "Refused" "Refused.__init__",
  dC 29 "NotRight" "NotRight.__init__",
  dC 30 "Ringed" "Ringed.__init__",
  dC 31 "NoRow" "NoRow.__init__",
  dC 32 "NotTwo" "NotTwo.__init__",
  dC 33 "Nobodys" "Nobodys.__init__",
  dC 34 "Crossed" "Crossed.__init__",
  dC 35 "NotWhole" "NotWhole.__init__",
  dC 36 "Fitless" "Fitless.__init__",
  dC 37 "Clash" "Clash.__init__",
  dC 38 "TooMany" "TooMany.__init__",
  dC 39 "NoLetter" "NoLetter.__init__"]
def fnB : List He.DefD := [dF 41 "_law_cell",
  dF 42 "_law_box",
  dF 43 "_law_take",
  dF 44 "_law_by_place",
  dF 45 "_law_by_name",
  dF 46 "_law_twos",
  dF 47 "_law_sorts",
  dF 48 "_law_is",
  dF 49 "_law_kept",
  dF 50 "_law_two_kept",
  dF 51 "_law_thing",
  dF 52 "_law_same",
  dF 53 "_law_caught",
  dF 54 "_law_ones_right",
  dF 55 "_law_twos_right",
  dF 56 "_law_grown_right",
  dF 57 "law"]
def fn : List He.DefD := fnA ++ fnB
def free : List Str := ["len", "sum", "abs", "int", "isinstance", "range", "repr", "ValueError", "max", "min"]
def defs : List Str := ["_law_cell", "_law_box", "_law_take", "_law_by_place", "_law_by_name", "_law_twos", "_law_sorts", "_law_is", "_law_kept", "_law_two_kept", "_law_thing", "_law_same", "_law_caught", "_law_ones_right", "_law_twos_right", "_law_grown_right", "law"]
def fa : List He.Fa := He.Fa.glo "LostError" :: (nms.map He.Fa.glo ++ (defs.map He.Fa.glo ++ free.map He.Fa.free))
def tys : List String := ["NoneType", "bool", "int", "str", "list", "tuple", "dict"]
def ck (K : PySem.W.Frag) : Bool := gsB K && (nms.all (fun x => clsB K (He.ga K x) (He.ga K "LostError")) && (cl1.all (fun q => decide (PySem.W.findIn K (.ref (He.ga K q.1)) q.2 = some none)) &&
  (cl2.all (fun q => decide (PySem.W.findIn K (.ref (He.ga K q.1)) q.2.1 = some none) && decide (PySem.W.findIn K (.ref (He.ga K q.1)) q.2.2 = some none)) &&
  (tys.all (fun t => decide (PySem.W.kitOne K (.type t) (.ref (He.ga K "InvalidText")) = some false) && decide (PySem.W.kitOne K (.type t) (.ref (He.ga K "LostError")) = some false)) && ((K.lookup sysModules).isSome &&
  nms.all (fun x => nms.all fun y => decide (PySem.W.kitOne K (.ref (He.ga K x)) (.ref (He.ga K y)) = some (decide (x = y)))))))))
abbrev R : PySem.W.OpenRow := PySem.W.OpenLaw.row PySem.Challenge.rw_maplost_k00_errors
abbrev hk : PySem.W.Hook := hookM 4 fa fn ck
def ob (s : PySem.W.SharedT) : He.AlD := seeM ck fa fn (partG (HandSHeadRun.getT s) 4)
theorem ob_eq (s : PySem.W.SharedT) : ob s = hk.obs s.abs := see_eq (HandSHeadRun.getT_eq s)
def looseA : List Str := ["LostError", "InvalidLine", "InvalidText", "InvalidHouses", "InvalidRoads", "InvalidHouse", "InvalidNames", "InvalidScript", "InvalidFounds", "InvalidCount", "InvalidCounts", "InvalidLater", "InvalidIndex", "InvalidReaders", "InvalidMap", "InvalidLot", "InvalidSeats", "InvalidName", "InvalidOwns", "InvalidLines", "InvalidWriters", "InvalidRows", "NotJoined", "NotARoad", "Stopped", "Twice", "NothingUnderWay", "Refused", "NotRight", "Ringed"]
def looseB : List Str := ["NoRow", "NotTwo", "Nobodys", "Crossed", "NotWhole", "Fitless", "Clash", "TooMany", "NoLetter", "_law_cell", "_law_box", "_law_take", "_law_by_place", "_law_by_name", "_law_twos", "_law_sorts", "_law_is", "_law_kept", "_law_two_kept", "_law_thing", "_law_same", "_law_caught", "_law_ones_right", "_law_twos_right", "_law_grown_right"]
abbrev looseN : List Str := looseA ++ looseB
theorem run (w : World) : HandSHeadRun.RunEq R (PySem.W.view R.prog [57]) hk ob 20000 looseN w := by
  intro os
  kernel_rfl
end K00

/-! defs that are called within an except suite and outside of one alike -/
namespace L2
open PySem PySem.Spec PyProof.Rows
open L2H (RoomH Hot1 PinOk)
/-- nothing is handled, or p is -/
def WarmA (A : Around) (p : Pin) : Prop := A.handled = none ∨ Hot1 A p
/-- no exception leaves -/
abbrev noE : XK := fun _ _ _ => False
structure FnP (P : Program) (w : World) (K : PySem.W.Frag) (mg : Str → Option Value) (base : Heap) (k : Nat) (f : Addr) (fd : FuncData)
    (ps : List Str) (p : Pin) (sp : Sp) : Prop where
  len : ∀ vs H Q E, sp vs H Q E → vs.length = ps.length
  run : ∀ (A : Around) (outer : List Env) (s : Shared) (H : Hp) (args : Args) (us : List Value) (vs : List V) (Q : VK), RoomH k A → A.guards = some [] → WarmA A p →
    PinOk outer H s p → Env0 P w K mg base A outer s H → BindsTo s fd args (ps.zip us) → Vals vs us → sp vs H Q noE →
    codeAny (model P w) A (.call (.ref f) args) (CR CX0 outer P w H s Q noE) s
/-- the body's context -/
abbrev cxP (P : Program) (w : World) (K : PySem.W.Frag) (mg : Str → Option Value) (base : Heap) (N : List Str) (qual : Str) (scope : Scope)
    (f : Addr) (cd : Value) (A : Around) (outer : List Env) (s : Shared) (H : Hp) (p : Pin) : Cx :=
  L2H.cxH CX0 P w K mg base N qual scope f cd A outer s H noE p
/-- what is known of a body's context -/
structure WarmC (X : Cx) (p : Pin) : Prop where
  mem : p ∈ X.pn
  gd : X.A.guards = some []
  warm : WarmA X.A p
section
variable {P : Program} {w : World} {K : PySem.W.Frag} {mg : Str → Option Value} {base : Heap} {k : Nat} {f : Addr} {fd : FuncData} {ps N : List Str}
variable {p : Pin} {sp : Sp} {x qual : Str} {pa : Arguments} {bd : List Stmt} {sc : Scope}
theorem FunD.okP (F : FunD K x qual pa bd sc [] [] f fd) (S : FnScope N ps sc) (len : ∀ vs H Q E, sp vs H Q E → vs.length = ps.length)
    (hbody : ∀ (cdv : Value) (A : Around) (outer : List Env) (s : Shared) (H : Hp) (vs : List V) (Q : VK), WarmC (cxP P w K mg base N qual sc f cdv A outer s H p) p →
      RoomH k (A.deeper (envOfC qual sc s.heap.objs.size f cdv)) → sp vs H Q noE →
      ∃ t, PSs (cxP P w K mg base N qual sc f cdv A outer s H p) bd t ∧ t { nx := fun _ H' => Q .non H', rt := Q } (start N vs) H) :
    FnP P w K mg base (k + 1) f fd ps p sp := by
  obtain ⟨oc, od, dV, kV, doc, pm, an, cdv, ct, osl, rfl, lk, hcd, _, _⟩ := F.ex
  refine ⟨len, fun A outer s H args us vs Q hr hgd hw hpin e0 hb r hsp => ?_⟩
  have hlen := len _ _ _ _ hsp
  have kin : K.In s.heap := e0.mod.kin.keeps fun b o e => (e0.bs b o e).1
  have lim : s.heap.NoLimit := e0.mod.nolimit.keeps fun b o e => (e0.bs b o e).1
  have kinds : ∀ y ∈ ps.zip us, sc.names.lookup y.1 = some .local ∨
      (sc.names.lookup y.1 = some .cell ∧ ((cellsFrom (s.heap.objs.size + 1) sc.names []).lookup y.1).isSome = true) := by
    rintro ⟨n, v⟩ hy
    rcases S.par n (List.of_mem_zip hy).1 with q | q
    · exact .inl q
    · exact .inr ⟨q, PySem.W.cellsFrom_some _ _ _ (.inl q)⟩
  refine codeAny_call_function hr.depth (kin _ _ lk) rfl S.co S.gen rfl (PySem.W.codeRec_of kin hcd) (hb _ _ _ _ ?_)
  refine wpAny_newFunctionEnv_cells S.kind kinds fun env he s1 z => ?_
  subst he
  refine ⟨lim.keeps z.toInCall.keep, codeAny_func ?_⟩
  have I : Inv (cxP P w K mg base N qual sc f cdv A outer s H p) [] (start N vs) H s1 := L2H.inv_startH S hpin e0 hlen r z
  have wc : WarmC (cxP P w K mg base N qual sc f cdv A outer s H p) p :=
    ⟨List.mem_cons_self, hgd, hw⟩
  obtain ⟨t, ht, hq⟩ := hbody cdv A outer s H vs Q wc (hr.deeper _) hsp
  have fin : ∀ {σ1 : St} {H1 : Hp} {v : V} {u : Value} {s2 : Shared}, Inv (cxP P w K mg base N qual sc f cdv A outer s H p) [] σ1 H1 s2 → RelV v u → Q v H1 →
      CE outer P w H s Q u s2 := fun {σ1 H1 v u s2} J rv q => ⟨v, H1, J.os, J.bare, J.base, J.hok, rv, q⟩
  refine wpAny_mono (ht.run [] s1 (start N vs) H _ I hq) (fun fl s2 hs => ?_) fun e s2 hs => hs
  cases fl with
  | ret u =>
    obtain ⟨v, σ1, H1, J, rv, q⟩ := hs
    exact fin J rv q
  | next =>
    obtain ⟨σ1, H1, J, q⟩ := hs
    exact fin (v := V.non) (u := Value.none) J rfl q
  | brk =>
    obtain ⟨_, _, _, q⟩ := hs
    exact q.elim
  | cont =>
    obtain ⟨_, _, _, q⟩ := hs
    exact q.elim
/-- a def that is called where no repr is under way -/
structure FnG (P : Program) (w : World) (K : PySem.W.Frag) (mg : Str → Option Value) (base : Heap) (k : Nat) (f : Addr) (fd : FuncData)
    (ps : List Str) (sp : Sp) : Prop where
  len : ∀ vs H Q E, sp vs H Q E → vs.length = ps.length
  run : ∀ (A : Around) (outer : List Env) (s : Shared) (H : Hp) (args : Args) (us : List Value) (vs : List V) (Q : VK), Room k A → A.guards = some [] →
    Env0 P w K mg base A outer s H → BindsTo s fd args (ps.zip us) → Vals vs us → sp vs H Q noE →
    codeAny (model P w) A (.call (.ref f) args) (CR CX0 outer P w H s Q noE) s
theorem FnG.mono {j : Nat} (F : FnG P w K mg base j f fd ps sp) (h : j ≤ k) : FnG P w K mg base k f fd ps sp :=
  ⟨F.len, fun A outer s H args us vs Q hr => F.run A outer s H args us vs Q (hr.mono h)⟩
/-- outside of a suite: any object of the written part may be the pin -/
theorem FnP.ok {a : Addr} {o : Obj} (F : FnP P w K mg base k f fd ps (a, o) sp) (ho : K.lookup a = some o) (hc : ∀ v, o.data ≠ .cell v) :
    FnG P w K mg base k f fd ps sp := by
  refine ⟨F.len, fun A outer s H args us vs Q hr hgd e0 hb r hsp => ?_⟩
  have hz : base.get? a = some o := e0.mod.kin _ _ ho
  have pin : PinOk outer H s (a, o) := by
    refine ⟨(e0.bs a o hz).1, (e0.bs a o hz).2, fun hm => ?_, hc⟩
    have z := (e0.funs.mem hm).1
    rw [hz] at z
    cases z
  exact F.run A outer s H args us vs Q (L2H.roomH_of hr) hgd (.inl hr.hd) pin e0 hb r hsp
theorem FunD.okG (F : FunD K x qual pa bd sc [] [] f fd) (S : FnScope N ps sc) (len : ∀ vs H Q E, sp vs H Q E → vs.length = ps.length)
    (hbody : ∀ (cdv : Value) (A : Around) (outer : List Env) (s : Shared) (H : Hp) (vs : List V) (Q : VK), (A.deeper (envOfC qual sc s.heap.objs.size f cdv)).guards = some [] →
      Room k (A.deeper (envOfC qual sc s.heap.objs.size f cdv)) → sp vs H Q noE →
      ∃ t, PSs (cxOf CX0 P w K mg base N qual sc f cdv A outer s H noE) bd t ∧ t { nx := fun _ H' => Q .non H', rt := Q } (start N vs) H) :
    FnG P w K mg base (k + 1) f fd ps sp := by
  obtain ⟨oc, od, dV, kV, doc, pm, an, cdv, ct, osl, rfl, lk, hcd, _, _⟩ := F.ex
  refine ⟨len, fun A outer s H args us vs Q hr hgd e0 hb r hsp => ?_⟩
  have hlen := len _ _ _ _ hsp
  have kin : K.In s.heap := e0.mod.kin.keeps fun b o e => (e0.bs b o e).1
  have lim : s.heap.NoLimit := e0.mod.nolimit.keeps fun b o e => (e0.bs b o e).1
  have kinds : ∀ y ∈ ps.zip us, sc.names.lookup y.1 = some .local ∨
      (sc.names.lookup y.1 = some .cell ∧ ((cellsFrom (s.heap.objs.size + 1) sc.names []).lookup y.1).isSome = true) := by
    rintro ⟨n, v⟩ hy
    rcases S.par n (List.of_mem_zip hy).1 with q | q
    · exact .inl q
    · exact .inr ⟨q, PySem.W.cellsFrom_some _ _ _ (.inl q)⟩
  refine codeAny_call_function hr.depth (kin _ _ lk) rfl S.co S.gen rfl (PySem.W.codeRec_of kin hcd) (hb _ _ _ _ ?_)
  refine wpAny_newFunctionEnv_cells S.kind kinds fun env he s1 z => ?_
  subst he
  refine ⟨lim.keeps z.toInCall.keep, codeAny_func ?_⟩
  have I : Inv (cxOf CX0 P w K mg base N qual sc f cdv A outer s H noE) [] (start N vs) H s1 := inv_start S hr.hd e0 hlen r z
  obtain ⟨t, ht, hq⟩ := hbody cdv A outer s H vs Q hgd (hr.deeper _) hsp
  have fin : ∀ {σ1 : St} {H1 : Hp} {v : V} {u : Value} {s2 : Shared}, Inv (cxOf CX0 P w K mg base N qual sc f cdv A outer s H noE) [] σ1 H1 s2 → RelV v u → Q v H1 →
      CE outer P w H s Q u s2 := fun {σ1 H1 v u s2} J rv q => ⟨v, H1, J.os, J.bare, J.base, J.hok, rv, q⟩
  refine wpAny_mono (ht.run [] s1 (start N vs) H _ I hq) (fun fl s2 hs => ?_) fun e s2 hs => hs
  cases fl with
  | ret u =>
    obtain ⟨v, σ1, H1, J, rv, q⟩ := hs
    exact fin J rv q
  | next =>
    obtain ⟨σ1, H1, J, q⟩ := hs
    exact fin (v := V.non) (u := Value.none) J rfl q
  | brk =>
    obtain ⟨_, _, _, q⟩ := hs
    exact q.elim
  | cont =>
    obtain ⟨_, _, _, q⟩ := hs
    exact q.elim
end
section
variable {X : Cx} {k : Nat} {f : Addr} {fd : FuncData} {ps : List Str} {p : Pin} {sp : Sp} {x : Str} {np pos : Pos} {e : Expr} {es : List Expr} {t : TA}
theorem pe_callP (F : FnP X.prog X.w X.K X.mg X.base k f fd ps p sp) (hw : WarmC X p) (hr : RoomH k X.A) (hg : Gl X x) (hm : X.mg x = some (.ref f))
    (hk : PySem.W.keepIn X.K (.ref f) = true) (hb : Binds X.K fd ps []) (ha : PA X (e :: es) t) (hdb : (x == ("__debug__" : Str)) = false := by decide)
    (he : starEach (e :: es) X.env = (false, eval e X.env) :: starEach es X.env := by rfl) (hpl : (backTo pos (starEach es X.env)).any (·.1) = false := by rfl) :
    PE X (.Call (.Name x np) (e :: es) [] pos) (tCall sp [] noE t) := by
  refine ⟨fun pins s σ H Q I h => ?_⟩
  refine wpAny_Call_Name_kw (ld_glob I hg hm ?_ hdb)
  refine PySem.W.callWith_K (h₀ := X.base) I.ok.mod.kin hk ?_ he hpl
  refine thn (ha.run pos pins s σ H _ I h) fun us s1 ⟨vs, H1, I1, r, q⟩ => ⟨I1.kIn, ?_⟩
  have q : sp vs H1 Q noE := by
    have z : sp (vs ++ []) H1 Q noE := q
    rwa [List.append_nil] at z
  have hl : (us ++ []).length = ps.length := by
    rw [List.append_nil, ← r.length]
    exact F.len _ _ _ _ q
  have bb := hb s1 us I1.kIn hl
  rw [List.append_nil] at bb
  obtain ⟨g1, g2, g3, g4, g5⟩ := I1.pin p (List.mem_append_left _ hw.mem)
  have pin : PinOk X.stack H1 s1 p := ⟨g1, g2, fun hm => by
    rcases List.mem_cons.mp (I1.stkSub _ hm) with z | z
    · exact g3 z
    · exact g4 z, g5⟩
  refine wpAny_call (codeAny_mono (F.run X.A X.stack s1 H1 ⟨us, []⟩ us vs Q hr hw.gd hw.warm pin I1.env0 bb r q) fun rs s2 h2 => ?_)
  cases rs with
  | error er => exact False.elim h2
  | ok fl =>
    cases fl with
    | ret u => exact I1.after h2
    | next => exact h2.elim
    | brk => exact h2.elim
    | cont => exact h2.elim
theorem pe_callG (F : FnG X.prog X.w X.K X.mg X.base k f fd ps sp) (hgd : X.A.guards = some []) (hr : Room k X.A) (hg : Gl X x) (hm : X.mg x = some (.ref f))
    (hk : PySem.W.keepIn X.K (.ref f) = true) (hb : Binds X.K fd ps []) (ha : PA X (e :: es) t) (hdb : (x == ("__debug__" : Str)) = false := by decide)
    (he : starEach (e :: es) X.env = (false, eval e X.env) :: starEach es X.env := by rfl) (hpl : (backTo pos (starEach es X.env)).any (·.1) = false := by rfl) :
    PE X (.Call (.Name x np) (e :: es) [] pos) (tCall sp [] noE t) := by
  refine ⟨fun pins s σ H Q I h => ?_⟩
  refine wpAny_Call_Name_kw (ld_glob I hg hm ?_ hdb)
  refine PySem.W.callWith_K (h₀ := X.base) I.ok.mod.kin hk ?_ he hpl
  refine thn (ha.run pos pins s σ H _ I h) fun us s1 ⟨vs, H1, I1, r, q⟩ => ⟨I1.kIn, ?_⟩
  have q : sp vs H1 Q noE := by
    have z : sp (vs ++ []) H1 Q noE := q
    rwa [List.append_nil] at z
  have hl : (us ++ []).length = ps.length := by
    rw [List.append_nil, ← r.length]
    exact F.len _ _ _ _ q
  have bb := hb s1 us I1.kIn hl
  rw [List.append_nil] at bb
  refine wpAny_call (codeAny_mono (F.run X.A X.stack s1 H1 ⟨us, []⟩ us vs Q hr hgd I1.env0 bb r q) fun rs s2 h2 => ?_)
  cases rs with
  | error er => exact False.elim h2
  | ok fl =>
    cases fl with
    | ret u => exact I1.after h2
    | next => exact h2.elim
    | brk => exact h2.elim
    | cont => exact h2.elim
end
end L2

/-! list comprehensions, whether or not an exception is handled -/
namespace L2
open PySem PySem.Spec PyProof.Rows
open L2H (RoomH Hot1 PinOk)
open HotX (HotAt)
/-- at a heap: nothing is handled, or an exception without a context -/
def WarmH (A : Around) (h : Heap) : Prop := A.handled = none ∨ ∃ x1, HotAt A x1 h
/-- an iterator that goes and ends so -/
structure TurnW (P : Program) (w : World) (K : PySem.W.Frag) (tg : Expr) (J : It) (fp : List Addr) (it : Addr) (tn : Nat → Heap → Prop) : Prop where
  obj : ∀ i h, tn i h → ∀ b ∈ fp, ∃ o, h.get? b = some o ∧ ∀ v, o.data ≠ .cell v
  keep : ∀ i h h', tn i h → (∀ b ∈ fp, ∀ o, h.get? b = some o → h'.get? b = some o) → tn i h'
  item : ∀ (X : Cx), X.prog = P → X.w = w → X.K = K → ∀ (i : Nat) (pins : List Pin) (s : Shared) (σ : St) (H : Hp) (E : Value → Shared → Prop),
    WarmH X.A s.heap → Inv X pins σ H s → (∀ b ∈ fp, FpOk X pins H b) → tn i s.heap → J.go i H →
    wpAny (model P w) X.A (pyNext (.ref it)) (fun r s1 => ∃ u, r = some u ∧ wpAny (model P w) X.A (letOwnedTupleGo tg (.ref it) u)
      (fun _ s2 => ∃ x H', Inv X pins σ H' s2 ∧ RelV x u ∧ J.yld i H x H' ∧ tn (i + 1) s2.heap ∧ ∀ b ∈ fp, H' b = none) E s1) E s
  done : ∀ (X : Cx), X.prog = P → X.w = w → X.K = K → ∀ (i : Nat) (pins : List Pin) (s : Shared) (σ : St) (H : Hp) (E : Value → Shared → Prop),
    WarmH X.A s.heap → Inv X pins σ H s → (∀ b ∈ fp, FpOk X pins H b) → tn i s.heap → J.stop i H →
    wpAny (model P w) X.A (pyNext (.ref it)) (fun r s1 => r = none ∧ Inv X pins σ H s1) E s
  self : ∀ (A : Around) (i : Nat) (s : Shared) (Q : Value → Shared → Prop) (E : Value → Shared → Prop), tn i s.heap → Q (.ref it) s → wpAny (model P w) A (pyIter (.ref it)) Q E s
theorem turn_rangeW {P : Program} {w : World} {K : PySem.W.Frag} {tg : Expr} (it : Addr) (lo : Int) (n : Nat) :
    TurnW P w K tg (Itr lo n) [it] it (fun i h => IsRangeIter h it (lo + (i : Nat) * 1) ((n : Int) - (i : Nat)) 1) where
  obj := fun i h st b hb => by
    obtain rfl : b = it := by simpa using hb
    refine ⟨_, st, fun v z => ?_⟩
    have z1 : Data.fields _ = Data.cell v := z
    cases z1
  keep := fun i h h1 st k => k it (by simp) _ st
  item := by
    rintro X rfl rfl rfl i pins s σ H E hw I hf st hg
    obtain ⟨f0, f1, f2, f3, f4, f5⟩ := hf it (by simp)
    have lt : i < n := hg
    refine wpAny_pyNext_range_item st (by omega) fun h1 st1 sb => ?_
    have st2 : IsRangeIter h1 it (lo + ((i + 1 : Nat) : Int) * 1) ((n : Int) - ((i + 1 : Nat) : Int)) 1 := by
      have a1 : lo + ((i + 1 : Nat) : Int) * 1 = lo + ((i : Nat) : Int) * 1 + 1 := by omega
      have a2 : (n : Int) - ((i + 1 : Nat) : Int) = (n : Int) - ((i : Nat) : Int) - 1 := by omega
      rw [a1, a2]
      exact st1
    have I1 : Inv X pins σ H { s with heap := h1, toks := s.toks + 1 } :=
      I.turned (fun b o hb e => (sb.2 b hb).trans e) f0 f1 f3 f4 f5
    refine ⟨_, rfl, go_of (s := { s with heap := h1, toks := s.toks + 1 }) (n := "range_iterator") st2 rfl rfl (by decide) ?_⟩
    refine ⟨.int (lo + i), H, I1, ⟨s.toks, ?_⟩, ⟨rfl, rfl⟩, st2, fun b hb => (hf b hb).1⟩
    rw [Int.mul_one]
  done := by
    rintro X rfl rfl rfl i pins s σ H E hw I hf st hg
    obtain ⟨f0, f1, f2, f3, f4, f5⟩ := hf it (by simp)
    have le : n ≤ i := hg
    have z : (n : Int) - (i : Nat) ≤ 0 := by omega
    rcases hw with hw | ⟨x1, hot⟩
    · exact wpAny_pyNext_range_end hw st z fun h1 eb => ⟨rfl, I.turned (t' := s.toks) (fun b o hb e => eb b o hb e) f0 f1 f3 f4 f5⟩
    · exact HotX.pyNext_range_end_hot hot st z fun h1 eb => ⟨rfl, I.turned (t' := s.toks) (fun b o _ e => eb b o e) f0 f1 f3 f4 f5⟩
  self := fun _ _ _ _ _ st h => wpAny_pyIter_rangeiter st h
def PIEW (X : Cx) (pins : List Pin) (σ : St) (tg : Expr) (R : It → Hp → Prop) (itv : Value) (s2 : Shared) : Prop :=
  ∃ (it : Addr) (fp : List Addr) (tn : Nat → Heap → Prop) (J : It) (H' : Hp), itv = .ref it ∧ Inv X pins σ H' s2 ∧
    TurnW X.prog X.w X.K tg J fp it tn ∧ tn 0 s2.heap ∧ (∀ b ∈ fp, FpOk X pins H' b) ∧ R J H'
structure PIW (X : Cx) (tg iter : Expr) (wi : TI) : Prop where
  run : ∀ (pins : List Pin) (s : Shared) (σ : St) (H : Hp) (R : It → Hp → Prop), Inv X pins σ H s → wi σ H R →
    wpAny (model X.prog X.w) X.A (eval iter X.env) (fun v s1 => wpAny (model X.prog X.w) X.A (pyIter v) (PIEW X pins σ tg R) X.xe s1) X.xe s
section
variable {X : Cx} {tg : Expr}
theorem range_itW {pins : List Pin} {σ : St} {H : Hp} {s : Shared} {R : It → Hp → Prop} {E : Value → Shared → Prop} {lo hi : Int} {t u v : Tok} {tk : Nat}
    (I : Inv X pins σ H s) (h1 : -(2 ^ 62) ≤ lo) (h2 : lo < 2 ^ 62) (h3 : -(2 ^ 62) ≤ hi) (h4 : hi < 2 ^ 62) (q : R (Itr lo (hi - lo).toNat) H) :
    wpAny (model X.prog X.w) X.A (pyIter (.ref s.heap.objs.size)) (PIEW X pins σ tg R) E
      { s with heap := s.heap.push { cls := .type "range", data := .fields #[.int lo t, .int hi u, .int 1 v] }, toks := tk } := by
  generalize hro : ({ cls := .type "range", data := .fields #[.int lo t, .int hi u, .int 1 v] } : Obj) = ro
  have isR : IsRange (s.heap.push ro) s.heap.objs.size lo hi 1 t u v := by
    rw [← hro]
    exact IsRange.new ..
  refine wpAny_pyIter_range isR (small_one h1 h2 h3 h4) ?_
  have I1 : Inv X pins σ H { s with heap := s.heap.push ro, toks := tk } := I.kept fun b o e => Heap.get?_push_of_some _ e
  refine ⟨(s.heap.push ro).objs.size, [(s.heap.push ro).objs.size], _, _, H, rfl, I1.kept (t' := tk) fun b o e => Heap.get?_push_of_some _ e,
    turn_rangeW _ lo (hi - lo).toNat, ?_, fun b hb => ?_, q⟩
  · have a1 : lo + ((0 : Nat) : Int) * 1 = lo := by simp
    have a2 : (((hi - lo).toNat : Nat) : Int) - ((0 : Nat) : Int) = Builtin.Range.rangeSize lo hi 1 := by
      rw [rangeSize_one]
      split <;> omega
    show IsRangeIter _ _ (lo + ((0 : Nat) : Int) * 1) ((((hi - lo).toNat : Nat) : Int) - ((0 : Nat) : Int)) 1
    rw [a1, a2]
    exact Heap.get?_push_size _ rfl
  · obtain rfl : b = (s.heap.push ro).objs.size := by simpa using hb
    exact I1.fpOk (Nat.le_refl _) (I1.hok.fresh (Nat.le_refl _))
theorem pi_range1W {a : Expr} {ta : TA} {p pos : Pos} (hg : Gl X "range") (hm : X.mg "range" = none) (ha : PA X [a] ta)
    (hs : starEach [a] X.env = [(false, eval a X.env)] := by rfl) : PIW X tg (.Call (.Name "range" p) [a] [] pos) (iRng1 ta) := by
  refine ⟨fun pins s σ H R I h => ?_⟩
  refine Call_ (ld_blt I hg hm boot_range (PyProof.Rows.callWith_type1 ?_ hs rfl))
  refine thn (ha.run pos pins s σ H _ I h) fun us s1 ⟨vs, H1, I1, r1, j, e, q1, q2, q⟩ => ?_
  subst e
  obtain ⟨y, rfl, ry⟩ := vals1 r1
  obtain ⟨tk, rfl⟩ : ∃ tk, y = Value.int j tk := ry
  exact call_range_1 (range_itW I1 (by omega) (by omega) q1 q2 (by simpa using q))
end
end L2

namespace L2
open PySem PySem.Spec PyProof.Rows
open L2H (RoomH Hot1 PinOk)
section
variable {X : Cx} {p : Pin}
theorem WarmC.at (c : WarmC X p) {h : Heap} (g : h.get? p.1 = some p.2) : WarmH X.A h := by
  rcases c.warm with z | ⟨z, vs, h1, h2⟩
  · exact .inl z
  · exact .inr ⟨p.1, z, p.2, vs, g, h1, h2⟩
theorem lcW_core {pins : List Pin} {s : Shared} {σ : St} {H : Hp} {Q : VK} {elt tg iter : Expr} {ifs : List Expr} {scope : Scope} {own : List (Str × Nat)}
    {pos pos1 : Pos} {wi : TI} {g : TG} {tt : TT} {te : TE} {use : Option (Value → Sem Unit)} {Qf : Value → Shared → Prop} (wc : WarmC X p)
    (hN : X.N.Nodup) (I : Inv X pins σ H s) (hi : PIW X tg iter wi) (ok : BlkOk X.N X.env.scope scope own)
    (hg : ∀ (s : Shared) (H : Hp) (C : Addr) (cl : List (Str × Addr)) (fp : List Addr), PG (X.blk s H scope (compEnvC scope cl C X.env) fp) tg g)
    (ht : ∀ (s : Shared) (H : Hp) (C : Addr) (cl : List (Str × Addr)) (fp : List Addr), PTs (X.blk s H scope (compEnvC scope cl C X.env) fp) ifs tt)
    (he : ∀ (s : Shared) (H : Hp) (C : Addr) (cl : List (Str × Addr)) (fp : List Addr), PE (X.blk s H scope (compEnvC scope cl C X.env) fp) elt te)
    (hs : ∀ x, foldedSetIterable iter X.env x = pure x) (h : tLc wi g tt te (own.map (·.2)) σ H Q)
    (back : ∀ D C s1 m H1, Inv X pins σ H1 s1 → Q (.ref D) H1 → s1.heap.Ns C m → FpOk X pins H1 C →
      compPost (model X.prog X.w) X.A X.xe use Qf (.ref D) C (.ok .next) s1) :
    wpAny (model X.prog X.w) X.A (comprehension (.ListComp elt [⟨tg, iter, ifs, 0⟩] scope pos) scope X.env pos1 (newList []) false (eval iter X.env) use) Qf X.xe s := by
  have frees : ∀ y ∈ scope.names, y.2 = .free → ∃ c, X.env.cells.lookup y.1 = some c := by
    intro y hy e
    exact (ok.free y hy e).elim (fun k => I.ok.has _ (.inl k)) fun k => I.ok.has _ (.inr k)
  refine wpAny_comprehension_free (use := use) rfl hs (closure_ok frees) ok.kind (fun y hy e => by rw [ok.uniq y hy, e]) ?_
  refine thn (hi.run pins s σ H _ I h) fun xv s1 hx => thn hx fun itv s2 h2 => ?_
  obtain ⟨it, fp, tn, J, H2, e, I2, T, st2, f2, q⟩ := h2
  subst e
  refine wpAny_newObj_type (newEnv_comp ?_) (by show 0 ≤ sizeLine; decide)
  generalize hD : s2.heap.objs.size = D
  have freeD : H2 D = none := I2.hok.fresh (Nat.le_of_eq hD)
  obtain ⟨W, ⟨m0, w0⟩, turn⟩ := q D freeD
  generalize hs3 : ({ s2 with heap := s2.heap.push { cls := .type "list", data := .seq ([] : List Value).toArray } } : Shared) = s3
  have heap3 : s3.heap = s2.heap.push { cls := .type "list", data := .seq ([] : List Value).toArray } := by
    rw [← hs3]
  have I3 : Inv X pins σ (upd H2 D (.lst [])) s3 := by
    rw [← hs3]
    refine I2.laid (t' := s2.toks) (fun b o e => Heap.get?_push_of_some _ e) (Nat.le_of_eq hD) ?_
    refine ⟨Nat.zero_le _, [], 0, .nil, ?_⟩
    rw [← hD]
    exact Heap.get?_push_size _ rfl
  have lts : ∀ b ∈ fp, b < s2.heap.objs.size := by
    intro b hb
    obtain ⟨o, e, _⟩ := T.obj _ _ st2 b hb
    exact Heap.lt_size e
  have f3 : ∀ b ∈ fp, FpOk X pins (upd H2 D (.lst [])) b ∧ b < s3.heap.objs.size := by
    intro b hb
    have lt := lts b hb
    refine ⟨⟨?_, (f2 b hb).2⟩, ?_⟩
    · rw [upd_ne (by rw [← hD]; exact Nat.ne_of_lt lt)]
      exact (f2 b hb).1
    · rw [heap3, Heap.size_push]
      exact Nat.lt_succ_of_lt lt
  have st3 : tn 0 s3.heap := T.keep _ _ _ st2 fun b _ o e => by
    rw [heap3]
    exact Heap.get?_push_of_some _ e
  have I4 := block_start I3 ok hN f3
  generalize hcl : cellsFrom (s3.heap.objs.size + 1) scope.names (cloFrom X.env.cells scope.names []) = cl at I4
  have pg := hg s3 (upd H2 D (.lst [])) s3.heap.objs.size cl fp
  have pt := ht s3 (upd H2 D (.lst [])) s3.heap.objs.size cl fp
  have pe := he s3 (upd H2 D (.lst [])) s3.heap.objs.size cl fp
  show codeAny _ _ (.compStart (.ListComp elt [⟨tg, iter, ifs, 0⟩] scope pos) 0 (.ref it) (.ref D) (compEnvC scope cl s3.heap.objs.size X.env))
    (compPost (model X.prog X.w) X.A X.xe use Qf (.ref D) s3.heap.objs.size)
    { s3 with heap := pushCells (s3.heap.push { cls := .type "dict", data := .dict #[] }) scope.names }
  have nofp : ∀ b ∈ fp, (upd H2 D (.lst [])) b = none := fun b hb => (f3 b hb).1.1
  generalize hce : compEnvC scope cl s3.heap.objs.size X.env = ce at I4 pg pt pe ⊢
  have locC : ce.locals = s3.heap.objs.size := by
    subst hce
    rfl
  generalize hH3 : upd H2 D (.lst []) = H3 at I3 I4 pg pt pe w0 nofp f3
  generalize hs4 : ({ s3 with heap := pushCells (s3.heap.push { cls := .type "dict", data := .dict #[] }) scope.names } : Shared) = s4 at I4 ⊢
  have st4 : tn 0 s4.heap := T.keep _ _ _ st3 fun b _ o e => by
    rw [← hs4]
    exact pushCells_keeps _ _ _ _ (Heap.get?_push_of_some _ e)
  -- the handled exception stays within the block
  obtain ⟨g1, g2, g3, g4, g5⟩ := I3.pin p (List.mem_append_left _ wc.mem)
  have ns : p.1 ∉ frs X.stack := fun hm => by
    rcases List.mem_cons.mp (I3.stkSub _ hm) with z | z
    · exact g3 z
    · exact g4 z
  have nf : p.1 ∉ fp := fun hm => (f3 _ hm).1.2.2.2.2.2 p (List.mem_append_left _ wc.mem) rfl
  have warm : ∀ {pn1 : List Pin} {σ1 : St} {H1 : Hp} {s1 : Shared}, Inv (X.blk s3 H3 scope ce fp) pn1 σ1 H1 s1 → WarmH (X.blk s3 H3 scope ce fp).A s1.heap := by
    intro pn1 σ1 H1 s1 J
    exact wc.at (J.base.keep p.1 p.2 g1 g2 ns nf)
  have stat : ∀ {σ1 : St} {H1 : Hp} {s1 : Shared}, Inv (X.blk s3 H3 scope ce fp) [] σ1 H1 s1 → (∀ b ∈ fp, H1 b = none) →
      ∀ b ∈ fp, FpOk (X.blk s3 H3 scope ce fp) [] H1 b := by
    intro σ1 H1 s1 J hn b hb
    refine ⟨hn b hb, (J.ok.exf b hb).1, J.ok.exfs b hb, .inl hb, fun x c e => (J.ok.exf b hb).2 x c e, fun q hq => ?_⟩
    have z : q ∈ ([] : List Pin) ++ [] := hq
    simp at z
  refine codeAny_compStart_list ?loop (T.self X.A 0 _ _ _ st4 ?loop2)
  case loop2 => exact ?loop
  refine compLoop_any (fun n s1 => ∃ i H1, Inv (X.blk s3 H3 scope ce fp) [] (wipe σ (own.map (·.2))) H1 s1 ∧ tn i s1.heap ∧ (∀ b ∈ fp, H1 b = none) ∧ W i n H1)
    ?_ m0 ⟨0, H3, I4, st4, nofp, w0⟩
  rintro n s5 ⟨i, H5, I5, st5, n5, w5⟩
  rcases turn i n H5 w5 with ⟨stop, qq⟩ | ⟨go, Nx, hNx, step⟩
  · refine thnF (T.done (X.blk s3 H3 scope ce fp) rfl rfl rfl i [] s5 _ H5 (fun _ _ => False) (warm I5) I5 (stat I5 n5) st5 stop) fun r s6 ⟨hr, I6⟩ => ?_
    subst hr
    have I7 : Inv X pins σ H5 s6 := I3.call' (ch := fp) I6.os I6.base I6.hok I6.bare fun b hb =>
      ⟨(f3 b hb).1.2.2.2.1, (f3 b hb).1.2.1, (f3 b hb).1.2.2.2.2.1, (f3 b hb).1.2.2.2.2.2⟩
    have nC : H5 s3.heap.objs.size = none := by
      have z : H5 ce.locals = none := I6.free
      rwa [locC] at z
    obtain ⟨m, hn, _⟩ := I6.loc
    have hn1 : s6.heap.Ns ce.locals m := hn
    rw [locC] at hn1
    exact back D s3.heap.objs.size s6 m H5 I7 qq hn1 (I3.fpOk (Nat.le_refl _) nC)
  · refine thnF (T.item (X.blk s3 H3 scope ce fp) rfl rfl rfl i [] s5 _ H5 (fun _ _ => False) (warm I5) I5 (stat I5 n5) st5 go) fun r s6 ⟨u, hr, h6⟩ => ?_
    subst hr
    refine thnF h6 fun _ s7 ⟨x, H7, I7, r7, y7, st7, n7⟩ => ?_
    have P7 := I7.pinned (stat I7 n7) (T.obj _ _ st7)
    refine thnF (pg.run _ s7 _ H7 x u _ P7 r7 (step x H7 y7)) fun _ s8 ⟨σ8, H8, I8, hw8, q8⟩ => ?_
    refine thnF (pt.run _ s8 σ8 H8 _ I8 q8) fun b s9 ⟨H9, I9, q9⟩ => ?_
    have fin : ∀ {s1 : Shared} {H1 : Hp}, Inv (X.blk s3 H3 scope ce fp) ([] ++ pinsAt fp s7.heap) σ8 H1 s1 → Nx H1 → ∃ m, m < n ∧
        ∃ i H1, Inv (X.blk s3 H3 scope ce fp) [] (wipe σ (own.map (·.2))) H1 s1 ∧ tn i s1.heap ∧ (∀ b ∈ fp, H1 b = none) ∧ W i m H1 := by
      intro s1 H1 J nx
      obtain ⟨m1, hm, w1⟩ := hNx H1 nx
      have kept : ∀ b ∈ fp, ∀ o, s7.heap.get? b = some o → s1.heap.get? b = some o ∧ H1 b = none := by
        intro b hb o e
        have z := J.pin (b, o) (List.mem_append_right _ (List.mem_append_right _ (mem_pinsAt hb e)))
        exact ⟨z.1, z.2.1⟩
      have hl : (wipe σ (own.map (·.2))).length = σ8.length := by
        rw [← hw8, wipe_length]
      refine ⟨m1, hm, i + 1, H1, (J.unpinned (pins := [])).weak hl (fun j v e => ?_), ?_, fun b hb => ?_, w1⟩
      · rw [← hw8] at e
        exact (wipe_some e).1
      · exact T.keep _ _ _ st7 fun b hb o e => (kept b hb o e).1
      · obtain ⟨o, e, _⟩ := T.obj _ _ st7 b hb
        exact (kept b hb o e).2
    cases b with
    | false =>
      simp only [Bool.false_eq_true, if_false] at q9 ⊢
      exact fin I9 q9
    | true =>
      simp only [if_true] at q9 ⊢
      refine thnF (pe.run _ s9 σ8 H9 _ I9 q9) fun z s10 ⟨yv, H10, I10, r10, acc, hD10, hz10, nx⟩ => ?_
      exact app_ok (X := X.blk s3 H3 scope ce fp) I10 hD10 hz10 r10 fun s11 I11 => fin I11 nx
/-- as a value -/
theorem pe_lcW {elt tg iter : Expr} {ifs : List Expr} {scope : Scope} {own : List (Str × Nat)} {pos : Pos} {wi : TI} {g : TG} {tt : TT} {te : TE} (wc : WarmC X p)
    (hN : X.N.Nodup) (hi : PIW X tg iter wi) (ok : BlkOk X.N X.env.scope scope own)
    (hg : ∀ (s : Shared) (H : Hp) (C : Addr) (cl : List (Str × Addr)) (fp : List Addr), PG (X.blk s H scope (compEnvC scope cl C X.env) fp) tg g)
    (ht : ∀ (s : Shared) (H : Hp) (C : Addr) (cl : List (Str × Addr)) (fp : List Addr), PTs (X.blk s H scope (compEnvC scope cl C X.env) fp) ifs tt)
    (he : ∀ (s : Shared) (H : Hp) (C : Addr) (cl : List (Str × Addr)) (fp : List Addr), PE (X.blk s H scope (compEnvC scope cl C X.env) fp) elt te)
    (hs : ∀ x, foldedSetIterable iter X.env x = pure x := by intro _; rfl) :
    PE X (.ListComp elt [⟨tg, iter, ifs, 0⟩] scope pos) (tLc wi g tt te (own.map (·.2))) := by
  refine ⟨fun pins s σ H Q I h => ?_⟩
  rw [eval_ListComp]
  refine lcW_core wc hN I hi ok hg ht he hs h fun D C s1 m H1 J q hn f => ⟨m, hn, fun h2 sb => ?_⟩
  obtain ⟨f0, f1, f2, f3, f4, f5⟩ := f
  exact ⟨.ref D, H1, J.turned (t' := s1.toks) (fun b o hb e => (sb.2 b hb).trans e) f0 f1 f3 f4 f5, rfl, q⟩
end
end L2

/-! repr of what is made of None, bools, ints, texts, lists, tuples, dicts -/
namespace L2
open PySem PySem.Spec PyProof.Rows
mutual
/-- the value v is the data d, all of whose objects are tracked -/
inductive Rdd (H : Hp) : V → PyData → Prop
  | non : Rdd H .non .none
  | bl (b) : Rdd H (.bl b) (.bool b)
  | int (i) : Rdd H (.int i) (.int i)
  | str (x) : Rdd H (.str x) (.str x)
  | lst {a xs ds} : H a = some (.lst xs) → RddAll H xs ds → Rdd H (.ref a) (.list ds)
  | tup {a xs ds} : H a = some (.tup xs) → RddAll H xs ds → Rdd H (.ref a) (.tuple ds)
  | dK {a kvs ds} : H a = some (.dK kvs) → RddAll H (kvs.map fun p => kV p.1) (ds.map (·.1)) → RddAll H (kvs.map (·.2)) (ds.map (·.2)) → Rdd H (.ref a) (.dict ds)
inductive RddAll (H : Hp) : List V → List PyData → Prop
  | nil : RddAll H [] []
  | cons {v d vs ds} : Rdd H v d → RddAll H vs ds → RddAll H (v :: vs) (d :: ds)
end
mutual
theorem Rdd.mono {H H' : Hp} (k : ∀ b o, H b = some o → H' b = some o) : ∀ {v : V} {d : PyData}, Rdd H v d → Rdd H' v d
  | _, _, .non => .non
  | _, _, .bl b => .bl b
  | _, _, .int i => .int i
  | _, _, .str x => .str x
  | _, _, .lst h r => .lst (k _ _ h) (RddAll.mono k r)
  | _, _, .tup h r => .tup (k _ _ h) (RddAll.mono k r)
  | _, _, .dK h r q => .dK (k _ _ h) (RddAll.mono k r) (RddAll.mono k q)
theorem RddAll.mono {H H' : Hp} (k : ∀ b o, H b = some o → H' b = some o) : ∀ {vs : List V} {ds : List PyData}, RddAll H vs ds → RddAll H' vs ds
  | _, _, .nil => .nil
  | _, _, .cons r t => .cons (Rdd.mono k r) (RddAll.mono k t)
end
section
variable {P : Program} {w : World} {H : Hp} {h : Heap}
theorem kv_rel {k : Key} {u : Value} (e : keyIs k u = true) : RelV (kV k) u := by
  rcases keyIs_shape e with ⟨i, t, rfl, rfl⟩ | ⟨x, t, rfl, rfl⟩
  · exact ⟨t, rfl⟩
  · exact ⟨t, rfl⟩
theorem pairs_keys {es : List DictEntry} {vs : List (Key × Value)} (h : Pairs (mixKind P w) es vs) :
    Vals (vs.map fun p => kV p.1) (es.map (·.key)) ∧ es.map (·.val) = vs.map (·.2) := by
  induction h with
  | nil => exact ⟨.nil, rfl⟩
  | cons h1 h2 _ ih =>
    refine ⟨.cons (kv_rel h1) ih.1, ?_⟩
    rw [List.map_cons, List.map_cons, h2, ih.2]
theorem kv_keys : ∀ {kvs : List (Key × V)} {vs : List (Key × Value)}, KV kvs vs → (kvs.map fun p => kV p.1) = (vs.map fun p => kV p.1) ∧ Vals (kvs.map (·.2)) (vs.map (·.2))
  | _, _, .nil => ⟨rfl, .nil⟩
  | _, _, .cons r t => by
    obtain ⟨h1, h2⟩ := kv_keys t
    refine ⟨?_, .cons r.2 h2⟩
    rw [List.map_cons, List.map_cons, h1, r.1]
mutual
theorem Rdd.reads (ok : HOk P w H h) : ∀ {v : V} {d : PyData} {u : Value}, Rdd H v d → RelV v u → ∃ as, Reads h u d as ∧ ∀ a ∈ as, ∃ o, H a = some o
  | _, _, u, .non, r => by
    obtain rfl : u = Value.none := r
    exact ⟨[], .none, fun a z => nomatch z⟩
  | _, _, u, .bl b, r => by
    obtain rfl : u = Value.bool b := r
    exact ⟨[], .bool b, fun a z => nomatch z⟩
  | _, _, u, .int i, r => by
    obtain ⟨t, rfl⟩ : ∃ t, u = Value.int i t := r
    exact ⟨[], .int i t, fun a z => nomatch z⟩
  | _, _, u, .str x, r => by
    obtain ⟨t, rfl⟩ : ∃ t, u = Value.str x t := r
    exact ⟨[], .str x t, fun a z => nomatch z⟩
  | _, _, u, .lst (a := a) (xs := xs) e q, r => by
    obtain rfl : u = Value.ref a := r
    obtain ⟨_, its, n, rv, g⟩ := (show ObjOk P w H h a (.lst xs) from ok a _ e)
    obtain ⟨as, z, k⟩ := RddAll.reads ok q rv
    refine ⟨a :: as, .list g rfl rfl z, fun b hb => ?_⟩
    rcases List.mem_cons.mp hb with rfl | hb
    · exact ⟨_, e⟩
    · exact k b hb
  | _, _, u, .tup (a := a) (xs := xs) e q, r => by
    obtain rfl : u = Value.ref a := r
    obtain ⟨_, its, rv, o, g, c, n, hd⟩ := (show ObjOk P w H h a (.tup xs) from ok a _ e)
    obtain ⟨as, z, k⟩ := RddAll.reads ok q rv
    exact ⟨as, .tuple g c hd z, k⟩
  | _, _, u, .dK (a := a) (kvs := kvs) e q1 q2, r => by
    obtain rfl : u = Value.ref a := r
    obtain ⟨_, _, vs, rk, o, es, ep, g, ex, hd, _, pr, _⟩ := (show ObjOk P w H h a (.dK kvs) from ok a _ e)
    obtain ⟨k1, k2⟩ := pairs_keys pr
    obtain ⟨k3, k4⟩ := kv_keys rk
    rw [← k3] at k1
    obtain ⟨as, z1, t1⟩ := RddAll.reads ok q1 k1
    rw [← k2] at k4
    obtain ⟨bs, z2, t2⟩ := RddAll.reads ok q2 k4
    refine ⟨a :: as ++ bs, .dict g ex.1 hd z1 z2, fun b hb => ?_⟩
    rcases List.mem_append.mp hb with hb | hb
    · rcases List.mem_cons.mp hb with rfl | hb
      · exact ⟨_, e⟩
      · exact t1 b hb
    · exact t2 b hb
theorem RddAll.reads (ok : HOk P w H h) : ∀ {vs : List V} {ds : List PyData} {us : List Value}, RddAll H vs ds → Vals vs us →
    ∃ as, ReadsAll h us ds as ∧ ∀ a ∈ as, ∃ o, H a = some o
  | _, _, _, .nil, r => by
    cases r
    exact ⟨[], .nil, fun a z => nomatch z⟩
  | _, _, _, .cons q t, r => by
    cases r with
    | cons r1 r2 =>
      obtain ⟨as, z, k⟩ := Rdd.reads ok q r1
      obtain ⟨bs, z2, k2⟩ := RddAll.reads ok t r2
      refine ⟨as ++ bs, .cons z z2, fun b hb => ?_⟩
      rcases List.mem_append.mp hb with hb | hb
      · exact k b hb
      · exact k2 b hb
end
end
def rRepr : List V → Hp → VK → Prop := fun xs H Q => ∃ (v : V) (d : PyData), xs = [v] ∧ Rdd H v d ∧ d.showable = true ∧ d.depth ≤ 32 ∧
  d.shown.length ≤ sizeLine ∧ Q (.str d.shown) H
theorem call_repr {X : Cx} (hgd : X.A.guards = some []) (hu : X.A.units + 64 < cLine) (hsy : ∃ o, X.K.lookup sysModules = some o) :
    CallR X (.builtin "repr") rRepr := by
  intro pins s σ H xs us Q I r h
  obtain ⟨v, d, rfl, q, hs, hd, hz, hq⟩ := h
  obtain ⟨u, rfl, ru⟩ := vals1 r
  obtain ⟨o, ho⟩ := hsy
  have free : H sysModules = none := (I.bs _ _ (I.ok.mod.kin _ _ ho)).2
  have ref : ∀ a as, Reads s.heap (.ref a) d as → (∀ b ∈ as, ∃ o, H b = some o) → wpAny (model X.prog X.w) X.A (call (.builtin "repr") [.ref a]) (EP X pins σ Q) X.xe s := by
    intro a as z k
    refine repr_of_reads' z hs (fun _ hm => ?_) hgd (by omega) (fun _ _ e => e) (fun h1 u1 tk hk => ?_) hz
    · obtain ⟨o1, e1⟩ := k _ hm
      rw [free] at e1
      cases e1
    · exact ⟨.str d.shown, H, I.kept (t' := tk) hk, ⟨_, rfl⟩, hq⟩
  have val : ∀ tk, EP X pins σ Q (.str d.shown s.toks) { s with toks := tk } := fun tk => ⟨.str d.shown, H, I.tok _, ⟨_, rfl⟩, hq⟩
  obtain ⟨as, z, k⟩ := q.reads I.hok ru
  cases q with
  | non =>
    obtain rfl : u = Value.none := ru
    exact PySem.P.repr_of_none (val _)
  | bl b =>
    obtain rfl : u = Value.bool b := ru
    exact PySem.P.repr_of_bool (val _)
  | int i =>
    obtain ⟨t, rfl⟩ : ∃ t, u = Value.int i t := ru
    exact PySem.P.repr_of_int (of_decide_eq_true hs) (val _)
  | str x =>
    obtain ⟨t, rfl⟩ : ∃ t, u = Value.str x t := ru
    exact PySem.P.repr_of_str (val _) hz
  | lst e _ =>
    obtain rfl : u = _ := ru
    exact ref _ _ z k
  | tup e _ =>
    obtain rfl : u = _ := ru
    exact ref _ _ z k
  | dK e _ _ =>
    obtain rfl : u = _ := ru
    exact ref _ _ z k
end L2

/-! != of two lists whose items are equal, whatever these are -/
namespace PySem.SeqAt
open AutoSeq1 (wpAny_loadPart')
open MeetsSeq MeetsSeq2 MeetsSeq3
section
variable {prog : Program} {w : World}
theorem ne_loopE (l r : Addr) (xs ys : Array Value) (n m : Nat) (d1 d2 : Option Addr) (s1 s2 : Array (Option Value)) (hsz : xs.size = ys.size) (k : Nat) :
    ∀ i : Nat, xs.size - i = k → MeetsIn prog w (Builtin.«list.__eq__.loop» ⟨[.ref l, .ref r, rawInt i, rawInt 3], []⟩)
      (fun A R s => s.heap.get? l = some { cls := .type "list", dict := d1, data := .seq xs n, slots := s1 } ∧
        s.heap.get? r = some { cls := .type "list", dict := d2, data := .seq ys m, slots := s2 } ∧
        (∀ j (h1 : j < xs.size) (h2 : j < ys.size), EqP prog w A.in1 s xs[j] ys[j] true) ∧ R (.ok (.ret (.bool false))) s) := by
  induction k with
  | zero =>
    intro i hk A R s h
    obtain ⟨hp, gs, dr, tk, os⟩ := s
    obtain ⟨hl, hr, he, h⟩ := h
    wp_walk using wpAny_loadPart' hl, wpAny_loadPart' hr
    have z1 : xs[((i : Nat) : Int).toNat]? = none := by simp; omega
    have z2 : ys[((i : Nat) : Int).toNat]? = none := by simp; omega
    rw [z1, z2]
    wp_walk using wpAny_loadPart' hl, wpAny_loadPart' hr
    show R (.ok (.ret (.bool (xs.size != ys.size)))) _
    rw [hsz]
    simpa using h
  | succ k ih =>
    intro i hk A R s h
    obtain ⟨hp, gs, dr, tk, os⟩ := s
    obtain ⟨hl, hr, he, h⟩ := h
    wp_walk using wpAny_loadPart' hl, wpAny_loadPart' hr
    have l1 : i < xs.size := by omega
    have l2 : i < ys.size := by omega
    have z1 : xs[((i : Nat) : Int).toNat]? = some xs[i] := by simp [l1]
    have z2 : ys[((i : Nat) : Int).toNat]? = some ys[i] := by simp [l2]
    have up : ((i : Int) + 1) = ((i + 1 : Nat) : Int) := by omega
    rw [z1, z2]
    refine wpAny_bind (he i l1 l2 _ _ ?_)
    wp_walk
    rw [up]
    refine ⟨plainId_quiet plain_eq_loop _, codeAny_builtin entry_eq_loop ?_⟩
    rw [Around.under_plainId plain_eq_loop _]
    exact ih (i + 1) (by omega) A R _ ⟨hl, hr, he, h⟩
theorem list_neE (l r : Addr) (xs ys : Array Value) (n m : Nat) (d1 d2 : Option Addr) (s1 s2 : Array (Option Value)) (hsz : xs.size = ys.size) :
    MeetsIn prog w (Builtin.«list.__ne__» ⟨[.ref l, .ref r], []⟩)
      (fun A R s => s.heap.get? l = some { cls := .type "list", dict := d1, data := .seq xs n, slots := s1 } ∧
        s.heap.get? r = some { cls := .type "list", dict := d2, data := .seq ys m, slots := s2 } ∧
        (∀ j (h1 : j < xs.size) (h2 : j < ys.size), EqP prog w A.in1 s xs[j] ys[j] true) ∧ R (.ok (.ret (.bool false))) s) := by
  intro A R s h
  obtain ⟨hp, gs, dr, tk, os⟩ := s
  obtain ⟨hl, hr, he, h⟩ := h
  have f3 := AutoSeq1.sub_list_list
  have same : ¬ (xs.size != ys.size) = true := by simp [hsz]
  wp_walk using wpAny_loadPart' hl, wpAny_loadPart' hr
  refine ⟨plainId_quiet plain_eq_loop _, codeAny_builtin entry_eq_loop ?_⟩
  rw [Around.under_plainId plain_eq_loop _]
  exact ne_loopE l r xs ys n m d1 d2 s1 s2 hsz _ 0 rfl A R _ ⟨hl, hr, he, h⟩
theorem rcNe_lists {A : Around} {s : Shared} {l r : Addr} {xs ys : Array Value} (hl : s.heap.IsList l xs) (hr : s.heap.IsList r ys) (hsz : xs.size = ys.size) (hu : A.units < cLine)
    (he : ∀ j (h1 : j < xs.size) (h2 : j < ys.size), EqP prog w A.in1 s xs[j] ys[j] true) (E Q : Value → Shared → Prop) (h : Q (.bool false) s) :
    wpAny (model prog w) A (richCompare .NotEq (.ref l) (.ref r)) Q E s := by
  obtain ⟨⟨c1, e1, f1, g1⟩, o1, hc1, n, hd1⟩ := id hl
  obtain ⟨⟨c2, e2, f2, g2⟩, o2, hc2, m, hd2⟩ := id hr
  simp only at hc1 hd1 hc2 hd2
  subst hc1 hd1 hc2 hd2
  have t1 : s.TypeIs (.ref l) "list" := ⟨_, o1, rfl⟩
  have t2 : s.TypeIs (.ref r) "list" := ⟨_, o2, rfl⟩
  refine wpAny_richCompare_same_room (op := .NotEq) t1 t2 F.slot_list_ne ?_ hu
  refine call_meetsIn F.slot_list_ne t1 F.entry_list_ne (F.args_list_ne_2 _ _) (list_neE l r xs ys n m e1 e2 g1 g2 hsz) ?_
  exact ⟨o1, o2, he, show Value.bool false ≠ Value.notImplemented ∧ Q (.bool false) s from ⟨(fun x => nomatch x), h⟩⟩
end
end PySem.SeqAt
namespace L2
open PySem PySem.Spec PyProof.Rows
/-- a != b, two lists of equal items -/
def rNeV (K : PySem.W.Frag) : R2 := fun x y H Q => ∃ (n : Nat) (a b : Addr) (xs ys : List V), n ≤ 60 ∧ x = .ref a ∧ y = .ref b ∧ SqL K H a xs ∧ SqL K H b ys ∧ Paired (EqV K H n) xs ys ∧ Q (.bl false) H
theorem op_neV {X : Cx} (hu : X.A.units + 64 < cLine) : OpR X (compareOp .NotEq) (rNeV X.K) := by
  intro pins s σ H x y v u Q I rx ry h
  obtain ⟨n, a, b, xs, ys, hn, rfl, rfl, ha, hb, hp, q⟩ := h
  obtain rfl : v = Value.ref a := rx
  obtain rfl : u = Value.ref b := ry
  obtain ⟨us, r1, p1, _⟩ := I.list ha
  obtain ⟨ws, r2, p2, _⟩ := I.list hb
  have hsz : us.toArray.size = ws.toArray.size := by
    rw [List.size_toArray, List.size_toArray, ← r1.length, ← r2.length]
    exact Paired.length hp
  refine SeqAt.rcNe_lists p1.isList p2.isList hsz (by omega) (fun j h1 h2 => ?_) _ _ ⟨.bl false, H, I, rfl, q⟩
  have k := items_run (fun x y v u => eqV_run I n X.A.in1 (by show X.A.units + 1 + n < cLine; omega) x y v u) hp r1 r2 j (by simpa using h1) (by simpa using h2)
  simpa using k
end L2

namespace K00
open PySem PySem.Spec PyProof.Rows L2
abbrev Fd (K : PySem.W.Frag) (x : Str) (st : Stmt) (f : Addr) (fd : FuncData) : Prop := FunD K x x (defArgs st) (defBody st) (defScope st) [] [] f fd
abbrev sCell : Stmt := top 41
abbrev sBox : Stmt := top 42
abbrev sTake : Stmt := top 43
theorem scCell : FnScope ["script", "k"] ["script", "k"] (defScope sCell) := ⟨rfl, rfl, rfl, by decide +kernel, rfl, by decide +kernel, by decide +kernel⟩
theorem scBox : FnScope ["great"] ["great"] (defScope sBox) := ⟨rfl, rfl, rfl, by decide +kernel, rfl, by decide +kernel, by decide +kernel⟩
theorem scTake : FnScope ["box", "many", "digit", "mixed"] ["box", "many"] (defScope sTake) := ⟨rfl, rfl, rfl, by decide +kernel, rfl, by decide +kernel, by decide +kernel⟩
/-- the built-in names that the text uses -/
structure Blt (mg : Str → Option Value) : Prop where
  len : mg "len" = none
  sum : mg "sum" = none
  abs : mg "abs" = none
  int : mg "int" = none
/-- the state of the draws -/
def Box (c : Nat) (xs : List V) : Prop := ∃ (g : Int) (b : Bool) (m k : Int), xs = [.int g, .bl b, .int m, .int k] ∧ 0 ≤ g ∧ 0 ≤ m ∧ m < 2147483629 ∧ 0 ≤ k ∧ k ≤ c
def spCell (K : PySem.W.Frag) : Sp := fun vs H Q _ => ∃ (l : Addr) (ns : List Int) (k : Int), vs = [.ref l, .int k] ∧ SqL K H l (ns.map V.int) ∧ 0 ≤ k ∧ k < 100 ∧
  ∀ (n : Int) H', Same H H' → Q (.int n) H'
def spBox : Sp := fun vs H Q _ => ∃ g : Int, vs = [.int g] ∧ ∀ p xs, H p = none → Box 0 xs → Q (.ref p) (upd H p (.lst xs))
def spTake : Sp := fun vs H Q _ => ∃ (p : Addr) (many : Int) (xs : List V) (c : Nat), vs = [.ref p, .int many] ∧ H p = some (.lst xs) ∧ Box c xs ∧ c < 1000 ∧ 1 ≤ many ∧ many ≤ 64 ∧
  ∀ (d : Int) ys, 0 ≤ d → d < many → Box (c + 1) ys → Q (.int d) (upd H p (.lst ys))
section
variable {P : Program} {w : World} {K : PySem.W.Frag} {mg : Str → Option Value} {base : Heap} {f : Addr} {fd : FuncData}
theorem ok_cell (F : Fd K "_law_cell" sCell f fd) (B : Blt mg) : FnOk P w K mg base CX0 1 f fd ["script", "k"] (spCell K) := by
  refine F.ok scCell (fun vs H Q E h => ?_) (fun cdv A outer s H vs Q E hr h => ?_)
  · obtain ⟨l, ns, k, rfl, _⟩ := h
    rfl
  · refine ⟨_, pss_one (ps_ret (pe_ifExp (pt_cmp (pc_lt (pv 1) (pe_callB call_len (by rfl) B.len boot_len (pa_cons (pv 0) pa_nil))))
      (pe_ix ix_seq (pv 0) (pv 1) fun _ _ => rfl)
      (pe_op op_add (pe_op op_mul pe_int (pv 1)) (pe_op op_mod (pe_callB (cr_sum rfl) (by rfl) B.sum boot_sum (pa_cons (pe_slice sl_list (pv 0) po_none (po_some pe_int)) pa_nil)) pe_int)))), ?_⟩
    obtain ⟨l, ns, k, rfl, hs, h0, h1, q⟩ := h
    refine ⟨_, rfl, _, rfl, _, _, rfl, .inl ⟨_, hs, rfl⟩, _, _, rfl, rfl, _, rfl, ?_⟩
    have el : ((List.map V.int ns).length : Int) = (ns.length : Int) := by
      rw [List.length_map]
    refine ite2 (fun c => ?_) (fun c => ?_)
    · have c := of_decide_eq_true c
      rw [el] at c
      have hk : k.toNat < ns.length := by omega
      have ha : atI (ns.map V.int) k = some (V.int ns[k.toNat]) := by
        unfold atI ixN
        rw [if_pos h0, if_pos (by rw [List.length_map]; omega)]
        show (ns.map V.int)[k.toNat]? = _
        rw [List.getElem?_map, List.getElem?_eq_getElem hk] <;> rfl
      exact ⟨_, rfl, _, rfl, .inl ⟨l, _, k, _, rfl, rfl, hs, ha, q _ H (Same.refl H)⟩⟩
    · refine ⟨_, rfl, _, _, rfl, rfl, .inl ⟨by decide, by decide⟩, _, rfl, 1, rfl, l, _, rfl, hs, fun p hp => ?_⟩
      have ec : cutV (ns.map V.int) none (some 1) = (ns.take 1).map V.int := by
        cases ns with
        | nil => rfl
        | cons a r =>
          simp [cutV, HT.sIx]
      refine ⟨p, ns.take 1, rfl, ?_, _, _, rfl, rfl, (by show (0 : Int) < 1000033; decide), _, _, rfl, rfl, q _ _ fun b o e => ?_⟩
      · rw [ec]
        exact SqL.of upd_same
      · rw [upd_ne (ne_of_none e hp)]
        exact e
theorem ixAt {H : Hp} {p : Addr} {xs : List V} {i : Int} {v : V} {Q : VK} (h : H p = some (.lst xs)) (e : atI xs i = some v) (q : Q v H) : rIx K (.ref p) (.int i) H Q :=
  .inl ⟨p, xs, i, v, rfl, rfl, SqL.of h, e, q⟩
/-- the bounds of the draws -/
theorem ok_box (F : Fd K "_law_box" sBox f fd) (B : Blt mg) : FnOk P w K mg base CX0 1 f fd ["great"] spBox := by
  refine F.ok scBox (fun vs H Q E h => ?_) (fun cdv A outer s H vs Q E hr h => ?_)
  · obtain ⟨g, rfl, _⟩ := h
    rfl
  · refine ⟨_, pss_one (ps_ret (pe_lst (pa_cons (pe_callB call_abs (by rfl) B.abs (by decide +kernel) (pa_cons (pv 0) pa_nil))
      (pa_cons (pe_cmpR op_ge (pe_callB call_abs (by rfl) B.abs (by decide +kernel) (pa_cons (pv 0) pa_nil)) (pe_op op_pow pe_int pe_int) (nomark _))
      (pa_cons (pe_op op_mod (pe_callTy call_int1 (by rfl) B.int (by decide +kernel) (pa_cons (pe_callB call_abs (by rfl) B.abs (by decide +kernel) (pa_cons (pv 0) pa_nil)) pa_nil)) pe_int)
      (pa_cons pe_int pa_nil)))))), ?_⟩
    obtain ⟨g, rfl, q⟩ := h
    refine ⟨_, rfl, _, rfl, _, rfl, _, rfl, _, _, rfl, rfl, ⟨by decide, by decide, by decide⟩, _, _, rfl, rfl, ?_⟩
    refine ⟨_, rfl, _, rfl, .inl ⟨_, rfl, _, _, rfl, rfl, (by show (0 : Int) < 2147483629; decide), ?_⟩⟩
    refine ⟨by show 4 ≤ sizeLine; rw [sizeLine_eq]; decide, fun p hp => q p _ hp ⟨_, _, _, _, rfl, ?_, ?_, ?_, Int.le_refl _, Int.le_refl _⟩⟩
    · split <;> omega
    · exact Int.emod_nonneg _ (by decide)
    · exact Int.emod_lt_of_pos _ (by decide)
theorem ok_take (F : Fd K "_law_take" sTake f fd) (B : Blt mg) : FnOk P w K mg base CX0 1 f fd ["box", "many"] spTake := by
  refine F.ok scTake (fun vs H Q E h => ?_) (fun cdv A outer s H vs Q E hr h => ?_)
  · obtain ⟨p, many, xs, c, rfl, _⟩ := h
    rfl
  · refine ⟨_, pss_cons (ps_if (pw_and (pt_val (pe_ix ix_seq (pv 0) pe_int fun _ _ => rfl)) (pw_and1 (pt_cmpR op_gt (pe_ix ix_seq (pv 0) pe_int fun _ _ => rfl) pe_int (nomark _)))).pt
        (pss_cons (ps_set (i := 2) scTake.nd rfl (Or.inl rfl) (pe_op op_mod (pe_callTy call_int1 (by rfl) B.int (by decide +kernel) (pa_cons (pe_ix ix_seq (pv 0) pe_int fun _ _ => rfl) pa_nil)) (pv 1)))
        (pss_cons (ps_asg (pe_op op_fdiv (pe_ix ix_seq (pv 0) pe_int fun _ _ => rfl) (pv 1)) (pg_sub (pv 0) pe_int set_list fun _ => rfl))
        (pss_one (ps_ret (pv 2))))) pss_nil)
      (pss_cons (ps_asg (pe_op op_add (pe_ix ix_seq (pv 0) pe_int fun _ _ => rfl) pe_int) (pg_sub (pv 0) pe_int set_list fun _ => rfl))
      (pss_cons (ps_set (i := 3) scTake.nd rfl (Or.inl rfl) (pe_op op_mod (pe_callTy call_int1 (by rfl) B.int (by decide +kernel) (pa_cons (pe_op op_pow (pe_op op_add (pe_op op_add (pe_ix ix_seq (pv 0) pe_int fun _ _ => rfl)
          (pe_op op_mul pe_int (pe_ix ix_seq (pv 0) pe_int fun _ _ => rfl))) pe_int) pe_int) pa_nil)) pe_int))
      (pss_one (ps_ret (pe_op op_mod (pe_op op_fdiv (pe_op op_mod (pe_callTy call_int1 (by rfl) B.int (by decide +kernel) (pa_cons (pe_op op_pow (pe_op op_add (pe_op op_mul (pv 3) pe_int)
          (pe_op op_mul pe_int (pe_ix ix_seq (pv 0) pe_int fun _ _ => rfl))) pe_int) pa_nil)) pe_int) pe_int) (pv 1)))))), ?_⟩
    obtain ⟨p, many, xs, c, rfl, hp, ⟨g, b, m, k, rfl, b1, b2, b3, b4, b5⟩, hc, m1, m2, q⟩ := h
    have big : sizeLine = 16777216 := sizeLine_eq
    -- the second way
    have last : tSeq (tAsg (tOp (rI0 fun i j => V.int (i + j)) (tOp (rIx K) (tVar 0) (tC (V.int 3))) (tC (V.int 1))) (gSub (tVar 0) (tC (V.int 3)) rSetL))
        (tSeq (tAsg (tOp (rI (fun x j => 0 < j) fun i j => V.int (i % j)) (tCB (fun xs H Q => (∃ i, xs = [V.int i] ∧ Q (V.int i) H) ∨ ∃ k, xs = [V.bl k] ∧ Q (V.int (if k = true then 1 else 0)) H)
          (tCons (tOp (rI CPow fun i j => V.int (i ^ j.toNat)) (tOp (rI0 fun i j => V.int (i + j)) (tOp (rI0 fun i j => V.int (i + j)) (tOp (rIx K) (tVar 0) (tC (V.int 2)))
            (tOp (rI CMul fun i j => V.int (i * j)) (tC (V.int 15485863)) (tOp (rIx K) (tVar 0) (tC (V.int 3))))) (tC (V.int 179424673))) (tC (V.int 5))) tNil)) (tC (V.int 2147483647))) (gName 3))
        (tRet (tOp (rI (fun x j => 0 < j) fun i j => V.int (i % j)) (tOp (rI CDiv fun i j => V.int (i / j)) (tOp (rI (fun x j => 0 < j) fun i j => V.int (i % j))
          (tCB (fun xs H Q => (∃ i, xs = [V.int i] ∧ Q (V.int i) H) ∨ ∃ k, xs = [V.bl k] ∧ Q (V.int (if k = true then 1 else 0)) H)
            (tCons (tOp (rI CPow fun i j => V.int (i ^ j.toNat)) (tOp (rI0 fun i j => V.int (i + j)) (tOp (rI CMul fun i j => V.int (i * j)) (tVar 3) (tC (V.int 48271)))
              (tOp (rI CMul fun i j => V.int (i * j)) (tC (V.int 104729)) (tOp (rIx K) (tVar 0) (tC (V.int 3))))) (tC (V.int 3))) tNil)) (tC (V.int 2147483587))) (tC (V.int 64))) (tVar 1))))
        { nx := fun _ H' => Q V.non H', rt := Q } [some (V.ref p), some (V.int many), none, none] H := by
      refine ⟨_, rfl, ixAt hp rfl ⟨_, _, rfl, rfl, _, rfl, p, _, _, 3, rfl, rfl, hp, rfl, ?_⟩⟩
      refine ⟨_, rfl, ixAt upd_same rfl ⟨_, rfl, ixAt upd_same rfl ⟨_, _, rfl, rfl, .inl ⟨by decide, by decide⟩, _, _, rfl, rfl, _, _, rfl, rfl, ?_⟩⟩⟩
      have hA : (m + 15485863 * (k + 1) + 179424673).natAbs < 2 ^ 64 := by omega
      have n1 : 0 ≤ (m + 15485863 * (k + 1) + 179424673) ^ (5 : Int).toNat % 2147483647 := Int.emod_nonneg _ (by decide)
      have n2 : (m + 15485863 * (k + 1) + 179424673) ^ (5 : Int).toNat % 2147483647 < 2147483647 := Int.emod_lt_of_pos _ (by decide)
      have hB : ((m + 15485863 * (k + 1) + 179424673) ^ (5 : Int).toNat % 2147483647 * 48271 + 104729 * (k + 1)).natAbs < 2 ^ 64 := by
        generalize (m + 15485863 * (k + 1) + 179424673) ^ (5 : Int).toNat % 2147483647 = B1 at n1 n2
        omega
      refine ⟨_, _, rfl, rfl, ⟨by decide, by decide, hA⟩, ?_⟩
      refine .inl ⟨_, rfl, _, _, rfl, rfl, (by show (0 : Int) < 2147483647; decide), ?_⟩
      refine ⟨_, rfl, _, _, rfl, rfl, .inr ⟨by decide, by decide⟩, ?_⟩
      refine ⟨_, rfl, ixAt upd_same rfl ⟨_, _, rfl, rfl, .inl ⟨by decide, by decide⟩, _, _, rfl, rfl, ?_⟩⟩
      refine ⟨_, _, rfl, rfl, ⟨by decide, by decide, hB⟩, ?_⟩
      refine .inl ⟨_, rfl, _, _, rfl, rfl, (by show (0 : Int) < 2147483587; decide), _, _, rfl, rfl, ⟨by decide, by decide⟩, _, rfl, _, _, rfl, rfl, (by show (0 : Int) < many; omega), ?_⟩
      refine q _ _ (Int.emod_nonneg _ (by omega)) (Int.emod_lt_of_pos _ (by omega)) ⟨g, b, m, k + 1, rfl, b1, b2, b3, by omega, by omega⟩
    refine ⟨_, rfl, ixAt hp rfl ⟨b, rfl, ?_⟩⟩
    cases b with
    | false => exact last
    | true =>
      refine ⟨_, rfl, ixAt hp rfl ⟨_, _, rfl, rfl, _, rfl, ?_⟩⟩
      refine ite2 (fun c => ?_) (fun _ => last)
      have c := of_decide_eq_true c
      refine ⟨_, rfl, ixAt hp rfl (.inl ⟨_, rfl, _, rfl, _, _, rfl, rfl, (by show (0 : Int) < many; omega), ?_⟩)⟩
      refine ⟨_, rfl, ixAt hp rfl ⟨_, rfl, _, _, rfl, rfl, ⟨(by show (0 : Int) < many; omega), (by show many < 1073741824; omega)⟩, _, rfl, p, _, _, 0, rfl, rfl, hp, rfl, ?_⟩⟩
      refine ⟨_, rfl, q _ _ (Int.emod_nonneg _ (by omega)) (Int.emod_lt_of_pos _ (by omega)) ⟨g / many, true, m, k, rfl, ?_, b2, b3, b4, by omega⟩⟩
      exact Int.ediv_nonneg b1 (by omega)
end
end K00

namespace L2
open PySem PySem.Spec PyProof.Rows
theorem PE.mono {X : Cx} {e : Expr} {t t1 : TE} (h : PE X e t) (k : ∀ σ H Q, t1 σ H Q → t σ H Q) : PE X e t1 :=
  ⟨fun pins s σ H Q I q => h.run pins s σ H Q I (k σ H Q q)⟩
theorem PA.mono {X : Cx} {es : List Expr} {t t1 : TA} (h : PA X es t) (k : ∀ σ H Q, t1 σ H Q → t σ H Q) : PA X es t1 :=
  ⟨fun pos pins s σ H Q I q => h.run pos pins s σ H Q I (k σ H Q q)⟩
/-- exceptions, one a class, with the fields f alike v -/
inductive Evs (H : Hp) (v : V) : List V → List (Addr × Str) → Prop
  | nil : Evs H v [] []
  | cons {a C d : Addr} {f : Str} {xs : List V} {cs : List (Addr × Str)} : EvP [] H a C d [(f, v)] → Evs H v xs cs → Evs H v (.ref a :: xs) ((C, f) :: cs)
theorem Evs.mono {H H' : Hp} (k : Same H H') {v : V} {xs : List V} {cs : List (Addr × Str)} (e : Evs H v xs cs) : Evs H' v xs cs := by
  induction e with
  | nil => exact .nil
  | cons h _ ih => exact .cons (h.mono (fun _ z => z) k) ih
theorem Evs.append {H : Hp} {v : V} {xs ys : List V} {cs ds : List (Addr × Str)} (e : Evs H v xs cs) (g : Evs H v ys ds) : Evs H v (xs ++ ys) (cs ++ ds) := by
  induction e with
  | nil => exact g
  | cons h _ ih => exact .cons h ih
theorem Evs.length {H : Hp} {v : V} {xs : List V} {cs : List (Addr × Str)} (e : Evs H v xs cs) : xs.length = cs.length := by
  induction e with
  | nil => rfl
  | cons _ _ ih => rw [List.length_cons, List.length_cons, ih]
theorem Evs.get {H : Hp} {v : V} {xs : List V} {cs : List (Addr × Str)} (e : Evs H v xs cs) : ∀ {i : Nat} {C : Addr} {f : Str}, cs[i]? = some (C, f) →
    ∃ a d, xs[i]? = some (.ref a) ∧ EvP [] H a C d [(f, v)] := by
  induction e with
  | nil => intro i C f h; simp at h
  | cons h _ ih =>
    intro i C f hi
    cases i with
    | zero =>
      simp at hi
      obtain ⟨rfl, rfl⟩ := hi
      exact ⟨_, _, rfl, h⟩
    | succ i => exact ih (by simpa using hi)
/-- with two fields -/
inductive Evs2 (H : Hp) (v w : V) : List V → List (Addr × Str × Str) → Prop
  | nil : Evs2 H v w [] []
  | cons {a C d : Addr} {f g : Str} {xs : List V} {cs : List (Addr × Str × Str)} : EvP [] H a C d [(g, w), (f, v)] → Evs2 H v w xs cs → Evs2 H v w (.ref a :: xs) ((C, f, g) :: cs)
theorem Evs2.mono {H H' : Hp} (k : Same H H') {v w : V} {xs : List V} {cs : List (Addr × Str × Str)} (e : Evs2 H v w xs cs) : Evs2 H' v w xs cs := by
  induction e with
  | nil => exact .nil
  | cons h _ ih => exact .cons (h.mono (fun _ z => z) k) ih
theorem Evs2.append {H : Hp} {v w : V} {xs ys : List V} {cs ds : List (Addr × Str × Str)} (e : Evs2 H v w xs cs) (g : Evs2 H v w ys ds) : Evs2 H v w (xs ++ ys) (cs ++ ds) := by
  induction e with
  | nil => exact g
  | cons h _ ih => exact .cons h ih
theorem Evs2.length {H : Hp} {v w : V} {xs : List V} {cs : List (Addr × Str × Str)} (e : Evs2 H v w xs cs) : xs.length = cs.length := by
  induction e with
  | nil => rfl
  | cons _ _ ih => rw [List.length_cons, List.length_cons, ih]
theorem Evs2.get {H : Hp} {v w : V} {xs : List V} {cs : List (Addr × Str × Str)} (e : Evs2 H v w xs cs) : ∀ {i : Nat} {C : Addr} {f g : Str}, cs[i]? = some (C, f, g) →
    ∃ a d, xs[i]? = some (.ref a) ∧ EvP [] H a C d [(g, w), (f, v)] := by
  induction e with
  | nil => intro i C f g h; simp at h
  | cons h _ ih =>
    intro i C f g hi
    cases i with
    | zero =>
      simp at hi
      obtain ⟨rfl, rfl, rfl⟩ := hi
      exact ⟨_, _, rfl, h⟩
    | succ i => exact ih (by simpa using hi)
theorem withEv_same {H : Hp} {a C d : Addr} {fs : List (Str × V)} (ha : H a = none) (hd : H d = none) : Same H (withEv H a C d fs) := fun b o e => by
  unfold withEv
  rw [upd_ne (ne_of_none e ha), upd_ne (ne_of_none e hd)]
  exact e
theorem withEv_ev {H : Hp} {a C d : Addr} {fs : List (Str × V)} (h : d ≠ a) : EvP [] (withEv H a C d fs) a C d fs where
  at_ := .inl upd_same
  tab := .inl (by unfold withEv; rw [upd_ne h, upd_same])
theorem upd_withEv {H : Hp} {a C d : Addr} {o : HO} {fs : List (Str × V)} : withEv (upd H a o) a C d fs = withEv H a C d fs := by
  funext b
  unfold withEv
  by_cases h : b = a
  · rw [h, upd_same, upd_same]
  · rw [upd_ne h, upd_ne h]
    by_cases h2 : b = d
    · rw [h2, upd_same, upd_same]
    · rw [upd_ne h2, upd_ne h2, upd_ne h]
/-! ### the classes -/
structure One (P : Program) (w : World) (K : PySem.W.Frag) (mg : Str → Option Value) (base : Heap) (x f : Str) : Prop where
  mgx : mg x = some (.ref (He.ga K x))
  T : OexC K (He.ga K x)
  iC : PySem.W.findIn K (.ref (He.ga K x)) "__init__" = some (some (.ref (He.ma K (He.ga K x) "__init__")))
  tI : PySem.W.typeIn K (.ref (He.ma K (He.ga K x) "__init__")) = some (.type "function")
  ini : ∃ fd, FnOk P w K mg base CX0 1 (He.ma K (He.ga K x) "__init__") fd ["self", f] (spI1 (He.ga K x) f) ∧
    KBn K fd ["self", f] 2 [] (fun us _ => us) (fun vs _ => vs) ∧ KBn K fd ["self", f] 1 [f] (fun us ws => us ++ ws) (fun vs zs => vs ++ zs)
structure Two (P : Program) (w : World) (K : PySem.W.Frag) (mg : Str → Option Value) (base : Heap) (x f g : Str) : Prop where
  mgx : mg x = some (.ref (He.ga K x))
  T : OexC K (He.ga K x)
  iC : PySem.W.findIn K (.ref (He.ga K x)) "__init__" = some (some (.ref (He.ma K (He.ga K x) "__init__")))
  tI : PySem.W.typeIn K (.ref (He.ma K (He.ga K x) "__init__")) = some (.type "function")
  ini : ∃ fd, FnOk P w K mg base CX0 1 (He.ma K (He.ga K x) "__init__") fd ["self", f, g] (spI2 (He.ga K x) f g) ∧
    KBn K fd ["self", f, g] 3 [] (fun us _ => us) (fun vs _ => vs) ∧ KBn K fd ["self", f, g] 1 [f, g] (fun us ws => us ++ ws) (fun vs zs => vs ++ zs) ∧
    KBn K fd ["self", f, g] 1 [g, f] (fun us ws => us ++ ws.reverse) (fun vs zs => vs ++ zs.reverse) ∧
    KBn K fd ["self", f, g] 2 [g] (fun us ws => us ++ ws) (fun vs zs => vs ++ zs)
/-- X(v), v in slot i: the new exception -/
def tMk1 (i : Nat) (C : Addr) (f : Str) : TE := fun σ H Q => ∃ v, σ[i]? = some (some v) ∧ ∀ a d H', Same H H' → EvP [] H' a C d [(f, v)] → Q (.ref a) H'
def tMk2 (i j : Nat) (C : Addr) (f g : Str) : TE := fun σ H Q => ∃ v w, σ[i]? = some (some v) ∧ σ[j]? = some (some w) ∧ ∀ a d H', Same H H' → EvP [] H' a C d [(g, w), (f, v)] → Q (.ref a) H'
section
variable {X : Cx} {x f g : Str} {i j : Nat} {v u : Expr} {p pos kp kp2 : Pos}
theorem pe_e1 (O : One X.prog X.w X.K X.mg X.base x f) (hr : Room 2 X.A) (hv : PE X v (tVar i)) (hg : Gl X x) (hdb : (x == ("__debug__" : Str)) = false := by decide)
    (he : starEach [v] X.env = (false, eval v X.env) :: starEach [] X.env := by rfl) (hpl : (backTo pos (starEach [] X.env)).any (·.1) = false := by rfl) :
    PE X (.Call (.Name x p) [v] [] pos) (tMk1 i (He.ga X.K x) f) := by
  obtain ⟨fd, F, b1, b2⟩ := O.ini
  refine (pe_mkEv O.T O.iC O.tI F hr b1 pass0 (by decide) hg O.mgx (pa_cons hv pa_nil he) hdb he hpl).mono fun σ H Q h => ?_
  obtain ⟨y, hy, q⟩ := h
  refine ⟨y, hy, rfl, rfl, fun a ha => ⟨a, y, rfl, upd_same, fun dx n ne => ⟨rfl, ?_⟩⟩⟩
  rw [upd_withEv]
  exact q a dx _ (withEv_same ha (by rwa [upd_ne ne] at n)) (withEv_ev ne)
theorem pe_e1K (O : One X.prog X.w X.K X.mg X.base x f) (hr : Room 2 X.A) (hv : PE X v (tVar i)) (hg : Gl X x) (hdb : (x == ("__debug__" : Str)) = false := by decide)
    (hall : (backToKw pos (keywordEach [⟨some f, v, kp⟩] X.env)).all (·.1.isSome) = true := by rfl)
    (hks : (backToKw pos (keywordEach [⟨some f, v, kp⟩] X.env)).filterMap (·.1) = [f] := by rfl)
    (hpl : ((backTo pos (starEach [] X.env)).any (·.1) || (backToKw pos (keywordEach [⟨some f, v, kp⟩] X.env)).any (·.1.isNone)) = false := by rfl) :
    PE X (.Call (.Name x p) [] [⟨some f, v, kp⟩] pos) (tMk1 i (He.ga X.K x) f) := by
  obtain ⟨fd, F, b1, b2⟩ := O.ini
  refine (pe_mkEvK O.T O.iC O.tI F hr b2 pass0 hg O.mgx (pk_cons hv pk_nil) hall hks hdb hpl).mono fun σ H Q h => ?_
  obtain ⟨y, hy, q⟩ := h
  refine ⟨y, hy, rfl, rfl, fun a ha => ⟨a, y, rfl, upd_same, fun dx n ne => ⟨rfl, ?_⟩⟩⟩
  rw [upd_withEv]
  exact q a dx _ (withEv_same ha (by rwa [upd_ne ne] at n)) (withEv_ev ne)
theorem pe_e2 (O : Two X.prog X.w X.K X.mg X.base x f g) (hr : Room 2 X.A) (hv : PE X v (tVar i)) (hu : PE X u (tVar j)) (hg : Gl X x) (hdb : (x == ("__debug__" : Str)) = false := by decide)
    (he : starEach [v, u] X.env = (false, eval v X.env) :: starEach [u] X.env := by rfl) (he2 : starEach [u] X.env = (false, eval u X.env) :: starEach [] X.env := by rfl)
    (hpl : (backTo pos (starEach [u] X.env)).any (·.1) = false := by rfl) : PE X (.Call (.Name x p) [v, u] [] pos) (tMk2 i j (He.ga X.K x) f g) := by
  obtain ⟨fd, F, b1, b2, b3, b4⟩ := O.ini
  refine (pe_mkEv O.T O.iC O.tI F hr b1 pass0 (by decide) hg O.mgx (pa_cons hv (pa_cons hu pa_nil he2) he) hdb he hpl).mono fun σ H Q h => ?_
  obtain ⟨y, z, hy, hz, q⟩ := h
  refine ⟨y, hy, z, hz, rfl, rfl, fun a ha => ⟨a, y, z, rfl, upd_same, fun dx n ne => ⟨rfl, ?_⟩⟩⟩
  rw [upd_withEv]
  exact q a dx _ (withEv_same ha (by rwa [upd_ne ne] at n)) (withEv_ev ne)
theorem pe_e2K (O : Two X.prog X.w X.K X.mg X.base x f g) (hr : Room 2 X.A) (hv : PE X v (tVar i)) (hu : PE X u (tVar j)) (hg : Gl X x) (hdb : (x == ("__debug__" : Str)) = false := by decide)
    (hall : (backToKw pos (keywordEach [⟨some f, v, kp⟩, ⟨some g, u, kp2⟩] X.env)).all (·.1.isSome) = true := by rfl)
    (hks : (backToKw pos (keywordEach [⟨some f, v, kp⟩, ⟨some g, u, kp2⟩] X.env)).filterMap (·.1) = [f, g] := by rfl)
    (hpl : ((backTo pos (starEach [] X.env)).any (·.1) || (backToKw pos (keywordEach [⟨some f, v, kp⟩, ⟨some g, u, kp2⟩] X.env)).any (·.1.isNone)) = false := by rfl) :
    PE X (.Call (.Name x p) [] [⟨some f, v, kp⟩, ⟨some g, u, kp2⟩] pos) (tMk2 i j (He.ga X.K x) f g) := by
  obtain ⟨fd, F, b1, b2, b3, b4⟩ := O.ini
  refine (pe_mkEvK O.T O.iC O.tI F hr b2 pass0 hg O.mgx (pk_cons hv (pk_cons hu pk_nil)) hall hks hdb hpl).mono fun σ H Q h => ?_
  obtain ⟨y, z, hy, hz, q⟩ := h
  refine ⟨y, hy, z, hz, rfl, rfl, fun a ha => ⟨a, y, z, rfl, upd_same, fun dx n ne => ⟨rfl, ?_⟩⟩⟩
  rw [upd_withEv]
  exact q a dx _ (withEv_same ha (by rwa [upd_ne ne] at n)) (withEv_ev ne)
theorem pe_e2R (O : Two X.prog X.w X.K X.mg X.base x f g) (hr : Room 2 X.A) (hv : PE X v (tVar i)) (hu : PE X u (tVar j)) (hg : Gl X x) (hdb : (x == ("__debug__" : Str)) = false := by decide)
    (hall : (backToKw pos (keywordEach [⟨some g, u, kp⟩, ⟨some f, v, kp2⟩] X.env)).all (·.1.isSome) = true := by rfl)
    (hks : (backToKw pos (keywordEach [⟨some g, u, kp⟩, ⟨some f, v, kp2⟩] X.env)).filterMap (·.1) = [g, f] := by rfl)
    (hpl : ((backTo pos (starEach [] X.env)).any (·.1) || (backToKw pos (keywordEach [⟨some g, u, kp⟩, ⟨some f, v, kp2⟩] X.env)).any (·.1.isNone)) = false := by rfl) :
    PE X (.Call (.Name x p) [] [⟨some g, u, kp⟩, ⟨some f, v, kp2⟩] pos) (tMk2 i j (He.ga X.K x) f g) := by
  obtain ⟨fd, F, b1, b2, b3, b4⟩ := O.ini
  refine (pe_mkEvK O.T O.iC O.tI F hr b3 pass0 hg O.mgx (pk_cons hu (pk_cons hv pk_nil)) hall hks hdb hpl).mono fun σ H Q h => ?_
  obtain ⟨y, z, hy, hz, q⟩ := h
  refine ⟨z, hz, y, hy, rfl, rfl, fun a ha => ⟨a, y, z, rfl, upd_same, fun dx n ne => ⟨rfl, ?_⟩⟩⟩
  rw [upd_withEv]
  exact q a dx _ (withEv_same ha (by rwa [upd_ne ne] at n)) (withEv_ev ne)
theorem pe_e2M (O : Two X.prog X.w X.K X.mg X.base x f g) (hr : Room 2 X.A) (hv : PE X v (tVar i)) (hu : PE X u (tVar j)) (hg : Gl X x) (hdb : (x == ("__debug__" : Str)) = false := by decide)
    (he : starEach [v] X.env = (false, eval v X.env) :: starEach [] X.env := by rfl) (hall : (backToKw pos (keywordEach [⟨some g, u, kp⟩] X.env)).all (·.1.isSome) = true := by rfl)
    (hks : (backToKw pos (keywordEach [⟨some g, u, kp⟩] X.env)).filterMap (·.1) = [g] := by rfl)
    (hpl : ((backTo pos (starEach [v] X.env)).any (·.1) || (backToKw pos (keywordEach [⟨some g, u, kp⟩] X.env)).any (·.1.isNone)) = false := by rfl) :
    PE X (.Call (.Name x p) [v] [⟨some g, u, kp⟩] pos) (tMk2 i j (He.ga X.K x) f g) := by
  obtain ⟨fd, F, b1, b2, b3, b4⟩ := O.ini
  refine (pe_mkEvM O.T O.iC O.tI F hr b4 pass0 (by decide) hg O.mgx (pa_cons hv pa_nil he) (pk_cons hu pk_nil) hall hks hdb he hpl).mono fun σ H Q h => ?_
  obtain ⟨y, z, hy, hz, q⟩ := h
  refine ⟨y, hy, z, hz, rfl, rfl, fun a ha => ⟨a, y, z, rfl, upd_same, fun dx n ne => ⟨rfl, ?_⟩⟩⟩
  rw [upd_withEv]
  exact q a dx _ (withEv_same ha (by rwa [upd_ne ne] at n)) (withEv_ev ne)
end
/-- rows of such calls -/
def tMks (i : Nat) (cs : List (Addr × Str)) : TA := fun σ H Q => ∃ v, σ[i]? = some (some v) ∧ ∀ xs H', Same H H' → Evs H' v xs cs → Q xs H'
def tMks2 (i j : Nat) (cs : List (Addr × Str × Str)) : TA := fun σ H Q => ∃ v w, σ[i]? = some (some v) ∧ σ[j]? = some (some w) ∧ ∀ xs H', Same H H' → Evs2 H' v w xs cs → Q xs H'
section
variable {X : Cx} {i j : Nat} {e : Expr} {es : List Expr} {C : Addr} {f g : Str} {cs : List (Addr × Str)} {ds : List (Addr × Str × Str)}
theorem pa_m0 : PA X [] (tMks i []) := pa_nil.mono fun σ H Q ⟨v, hv, q⟩ => q [] H (Same.refl H) .nil
theorem pa_m1 (he : PE X e (tMk1 i C f)) (h : PA X es (tMks i cs)) (hs : starEach (e :: es) X.env = (false, eval e X.env) :: starEach es X.env := by rfl) : PA X (e :: es) (tMks i ((C, f) :: cs)) := by
  refine (pa_cons he h hs).mono fun σ H Q ⟨v, hv, q⟩ => ?_
  exact ⟨v, hv, fun a d H1 k1 e1 => ⟨v, hv, fun xs H2 k2 e2 => q _ H2 (k1.trans k2) (.cons (e1.mono (fun _ z => z) k2) e2)⟩⟩
theorem pa_n0 : PA X [] (tMks2 i j []) := pa_nil.mono fun σ H Q ⟨v, w, hv, hw, q⟩ => q [] H (Same.refl H) .nil
theorem pa_n1 (he : PE X e (tMk2 i j C f g)) (h : PA X es (tMks2 i j ds)) (hs : starEach (e :: es) X.env = (false, eval e X.env) :: starEach es X.env := by rfl) : PA X (e :: es) (tMks2 i j ((C, f, g) :: ds)) := by
  refine (pa_cons he h hs).mono fun σ H Q ⟨v, w, hv, hw, q⟩ => ?_
  exact ⟨v, w, hv, hw, fun a d H1 k1 e1 => ⟨v, w, hv, hw, fun xs H2 k2 e2 => q _ H2 (k1.trans k2) (.cons (e1.mono (fun _ z => z) k2) e2)⟩⟩
end
end L2

namespace K00
open PySem PySem.Spec PyProof.Rows L2
abbrev sPlace : Stmt := top 44
abbrev sName : Stmt := top 45
abbrev sTwos : Stmt := top 46
theorem scPlace : FnScope ["thing", "found"] ["thing"] (defScope sPlace) := ⟨rfl, rfl, rfl, by decide +kernel, rfl, by decide +kernel, by decide +kernel⟩
theorem scName : FnScope ["thing", "found"] ["thing"] (defScope sName) := ⟨rfl, rfl, rfl, by decide +kernel, rfl, by decide +kernel, by decide +kernel⟩
theorem scTwos : FnScope ["one", "other", "way", "found"] ["one", "other", "way"] (defScope sTwos) := ⟨rfl, rfl, rfl, by decide +kernel, rfl, by decide +kernel, by decide +kernel⟩
def cs1 (K : PySem.W.Frag) : List (Addr × Str) := cl1.map fun q => (He.ga K q.1, q.2)
def cs2 (K : PySem.W.Frag) : List (Addr × Str × Str) := cl2.map fun q => (He.ga K q.1, q.2)
/-- the classes of the top -/
structure Cls0 (P : Program) (w : World) (K : PySem.W.Frag) (mg : Str → Option Value) (base : Heap) : Prop where
  one : ∀ {i : Nat} {x f : Str}, cl1[i]? = some (x, f) → One P w K mg base x f
  two : ∀ {i : Nat} {x f g : Str}, cl2[i]? = some (x, f, g) → Two P w K mg base x f g
/-- what is found so far -/
def Fnd (H0 : Hp) (v : V) (cs : List (Addr × Str)) (σ : L2.St) (H : Hp) : Prop := Same H0 H ∧ ∃ p xs, σ = [some v, some (.ref p)] ∧ H p = some (.lst xs) ∧ Evs H v xs cs
theorem upd_grow {H : Hp} {p : Addr} {o : HO} (h : H p = none) : Same H (upd H p o) := fun b u e => by
  rw [upd_ne (ne_of_none e h)]
  exact e
theorem fnd_new {H : Hp} {v : V} {cs : List (Addr × Str)} {D : Ends} {u : Option V} (hl : cs.length ≤ 100) (k : ∀ σ' H', Fnd H v cs σ' H' → D.nx σ' H') :
    tAsg (tLst (tMks 0 cs)) (gName 1) D [some v, u] H := by
  refine ⟨v, rfl, fun xs H1 k1 e1 => ⟨?_, fun p hp => ?_⟩⟩
  · rw [e1.length, sizeLine_eq]
    omega
  · exact k _ _ ⟨k1.trans (upd_grow hp), p, xs, rfl, upd_same, e1.mono (upd_grow hp)⟩
theorem fnd_cat {H0 : Hp} {v : V} {cs ds : List (Addr × Str)} {σ : L2.St} {H : Hp} {Q : VK} (h : Fnd H0 v cs σ H) (hl : cs.length + ds.length ≤ 100)
    (k : ∀ p xs H', Same H0 H' → Evs H' v xs (cs ++ ds) → H' p = some (.lst xs) → Q (.ref p) H') : tOp rCat (tVar 1) (tLst (tMks 0 ds)) σ H Q := by
  obtain ⟨k0, p, xs, rfl, hp, ev⟩ := h
  refine ⟨_, rfl, v, rfl, fun ys H1 k1 e1 => ⟨?_, fun p1 hp1 => ?_⟩⟩
  · rw [e1.length, sizeLine_eq]
    omega
  · have hq := upd_grow (o := .lst ys) hp1
    refine ⟨p, p1, xs, ys, rfl, rfl, hq _ _ (k1 _ _ hp), upd_same, ?_, fun p2 hp2 => ?_⟩
    · rw [e1.length, ev.length, sizeLine_eq]
      omega
    · have hr := upd_grow (o := .lst (xs ++ ys)) hp2
      exact k p2 _ _ (k0.trans (k1.trans (hq.trans hr))) ((ev.mono (k1.trans (hq.trans hr))).append (e1.mono (hq.trans hr))) upd_same
theorem fnd_add {H0 : Hp} {v : V} {cs ds : List (Addr × Str)} {σ : L2.St} {H : Hp} {D : Ends} (h : Fnd H0 v cs σ H) (hl : cs.length + ds.length ≤ 100)
    (k : ∀ σ' H', Fnd H0 v (cs ++ ds) σ' H' → D.nx σ' H') : tAsg (tOp rCat (tVar 1) (tLst (tMks 0 ds))) (gName 1) D σ H := by
  have z := h
  obtain ⟨k0, p, xs, rfl, hp, ev⟩ := z
  exact fnd_cat h hl fun p2 ys H1 k1 e1 hp2 => k _ _ ⟨k1, p2, ys, rfl, hp2, e1⟩
def spPlace (K : PySem.W.Frag) : Sp := fun vs H Q _ => ∃ v, vs = [v] ∧ ∀ p xs H', Same H H' → Evs H' v xs (cs1 K) → H' p = some (.lst xs) → Q (.ref p) H'
section
variable {P : Program} {w : World} {K : PySem.W.Frag} {mg : Str → Option Value} {base : Heap} {f : Addr} {fd : FuncData}
theorem ok_place (F : Fd K "_law_by_place" sPlace f fd) (T : Cls0 P w K mg base) : FnOk P w K mg base CX0 3 f fd ["thing"] (spPlace K) := by
  refine F.ok scPlace (fun vs H Q E h => ?_) (fun cdv A outer s H vs Q E hr h => ?_)
  · obtain ⟨v, rfl, _⟩ := h
    rfl
  · refine ⟨_, (pss_cons (ps_set (i := 1) scPlace.nd rfl (Or.inl rfl) (pe_lst (pa_m1 (pe_e1 (T.one (i := 0) rfl) hr (pv 0) rfl) (pa_m1 (pe_e1 (T.one (i := 1) rfl) hr (pv 0) rfl) (pa_m1 (pe_e1 (T.one (i := 2) rfl) hr (pv 0) rfl) (pa_m1 (pe_e1 (T.one (i := 3) rfl) hr (pv 0) rfl) (pa_m1 (pe_e1 (T.one (i := 4) rfl) hr (pv 0) rfl) pa_m0)))))))
      (pss_cons (ps_set (i := 1) scPlace.nd rfl (Or.inl rfl) (pe_op op_cat (pv 1) (pe_lst (pa_m1 (pe_e1 (T.one (i := 5) rfl) hr (pv 0) rfl) (pa_m1 (pe_e1 (T.one (i := 6) rfl) hr (pv 0) rfl) (pa_m1 (pe_e1 (T.one (i := 7) rfl) hr (pv 0) rfl) (pa_m1 (pe_e1 (T.one (i := 8) rfl) hr (pv 0) rfl) pa_m0)))))))
      (pss_cons (ps_set (i := 1) scPlace.nd rfl (Or.inl rfl) (pe_op op_cat (pv 1) (pe_lst (pa_m1 (pe_e1 (T.one (i := 9) rfl) hr (pv 0) rfl) (pa_m1 (pe_e1 (T.one (i := 10) rfl) hr (pv 0) rfl) (pa_m1 (pe_e1 (T.one (i := 11) rfl) hr (pv 0) rfl) (pa_m1 (pe_e1 (T.one (i := 12) rfl) hr (pv 0) rfl) pa_m0)))))))
      (pss_cons (ps_set (i := 1) scPlace.nd rfl (Or.inl rfl) (pe_op op_cat (pv 1) (pe_lst (pa_m1 (pe_e1 (T.one (i := 13) rfl) hr (pv 0) rfl) (pa_m1 (pe_e1 (T.one (i := 14) rfl) hr (pv 0) rfl) (pa_m1 (pe_e1 (T.one (i := 15) rfl) hr (pv 0) rfl) (pa_m1 (pe_e1 (T.one (i := 16) rfl) hr (pv 0) rfl) (pa_m1 (pe_e1 (T.one (i := 17) rfl) hr (pv 0) rfl) pa_m0))))))))
      (pss_cons (ps_set (i := 1) scPlace.nd rfl (Or.inl rfl) (pe_op op_cat (pv 1) (pe_lst (pa_m1 (pe_e1 (T.one (i := 18) rfl) hr (pv 0) rfl) (pa_m1 (pe_e1 (T.one (i := 19) rfl) hr (pv 0) rfl) (pa_m1 (pe_e1 (T.one (i := 20) rfl) hr (pv 0) rfl) pa_m0))))))
      (pss_cons (ps_set (i := 1) scPlace.nd rfl (Or.inl rfl) (pe_op op_cat (pv 1) (pe_lst (pa_m1 (pe_e1 (T.one (i := 21) rfl) hr (pv 0) rfl) (pa_m1 (pe_e1 (T.one (i := 22) rfl) hr (pv 0) rfl) (pa_m1 (pe_e1 (T.one (i := 23) rfl) hr (pv 0) rfl) (pa_m1 (pe_e1 (T.one (i := 24) rfl) hr (pv 0) rfl) (pa_m1 (pe_e1 (T.one (i := 25) rfl) hr (pv 0) rfl) (pa_m1 (pe_e1 (T.one (i := 26) rfl) hr (pv 0) rfl) pa_m0)))))))))
      (pss_cons (ps_set (i := 1) scPlace.nd rfl (Or.inl rfl) (pe_op op_cat (pv 1) (pe_lst (pa_m1 (pe_e1 (T.one (i := 27) rfl) hr (pv 0) rfl) (pa_m1 (pe_e1 (T.one (i := 28) rfl) hr (pv 0) rfl) (pa_m1 (pe_e1 (T.one (i := 29) rfl) hr (pv 0) rfl) (pa_m1 (pe_e1 (T.one (i := 30) rfl) hr (pv 0) rfl) (pa_m1 (pe_e1 (T.one (i := 31) rfl) hr (pv 0) rfl) (pa_m1 (pe_e1 (T.one (i := 32) rfl) hr (pv 0) rfl) pa_m0)))))))))
      (pss_one (ps_ret (pe_op op_cat (pv 1) (pe_lst (pa_m1 (pe_e1 (T.one (i := 33) rfl) hr (pv 0) rfl) pa_m0)))))))))))), ?_⟩
    obtain ⟨v, rfl, q⟩ := h
    refine fnd_new (Nat.le_of_ble_eq_true rfl) fun σ H1 h1 => ?_
    refine fnd_add h1 (Nat.le_of_ble_eq_true rfl) fun σ H1 h1 => ?_
    refine fnd_add h1 (Nat.le_of_ble_eq_true rfl) fun σ H1 h1 => ?_
    refine fnd_add h1 (Nat.le_of_ble_eq_true rfl) fun σ H1 h1 => ?_
    refine fnd_add h1 (Nat.le_of_ble_eq_true rfl) fun σ H1 h1 => ?_
    refine fnd_add h1 (Nat.le_of_ble_eq_true rfl) fun σ H1 h1 => ?_
    refine fnd_add h1 (Nat.le_of_ble_eq_true rfl) fun σ H1 h1 => ?_
    exact fnd_cat h1 (Nat.le_of_ble_eq_true rfl) fun p xs H2 k2 e2 hp => q p xs H2 k2 e2 hp
theorem ok_name (F : Fd K "_law_by_name" sName f fd) (T : Cls0 P w K mg base) : FnOk P w K mg base CX0 3 f fd ["thing"] (spPlace K) := by
  refine F.ok scName (fun vs H Q E h => ?_) (fun cdv A outer s H vs Q E hr h => ?_)
  · obtain ⟨v, rfl, _⟩ := h
    rfl
  · refine ⟨_, (pss_cons (ps_set (i := 1) scName.nd rfl (Or.inl rfl) (pe_lst (pa_m1 (pe_e1K (T.one (i := 0) rfl) hr (pv 0) rfl) (pa_m1 (pe_e1K (T.one (i := 1) rfl) hr (pv 0) rfl) (pa_m1 (pe_e1K (T.one (i := 2) rfl) hr (pv 0) rfl) pa_m0)))))
      (pss_cons (ps_set (i := 1) scName.nd rfl (Or.inl rfl) (pe_op op_cat (pv 1) (pe_lst (pa_m1 (pe_e1K (T.one (i := 3) rfl) hr (pv 0) rfl) (pa_m1 (pe_e1K (T.one (i := 4) rfl) hr (pv 0) rfl) (pa_m1 (pe_e1K (T.one (i := 5) rfl) hr (pv 0) rfl) pa_m0))))))
      (pss_cons (ps_set (i := 1) scName.nd rfl (Or.inl rfl) (pe_op op_cat (pv 1) (pe_lst (pa_m1 (pe_e1K (T.one (i := 6) rfl) hr (pv 0) rfl) (pa_m1 (pe_e1K (T.one (i := 7) rfl) hr (pv 0) rfl) (pa_m1 (pe_e1K (T.one (i := 8) rfl) hr (pv 0) rfl) pa_m0))))))
      (pss_cons (ps_set (i := 1) scName.nd rfl (Or.inl rfl) (pe_op op_cat (pv 1) (pe_lst (pa_m1 (pe_e1K (T.one (i := 9) rfl) hr (pv 0) rfl) (pa_m1 (pe_e1K (T.one (i := 10) rfl) hr (pv 0) rfl) (pa_m1 (pe_e1K (T.one (i := 11) rfl) hr (pv 0) rfl) pa_m0))))))
      (pss_cons (ps_set (i := 1) scName.nd rfl (Or.inl rfl) (pe_op op_cat (pv 1) (pe_lst (pa_m1 (pe_e1K (T.one (i := 12) rfl) hr (pv 0) rfl) (pa_m1 (pe_e1K (T.one (i := 13) rfl) hr (pv 0) rfl) (pa_m1 (pe_e1K (T.one (i := 14) rfl) hr (pv 0) rfl) pa_m0))))))
      (pss_cons (ps_set (i := 1) scName.nd rfl (Or.inl rfl) (pe_op op_cat (pv 1) (pe_lst (pa_m1 (pe_e1K (T.one (i := 15) rfl) hr (pv 0) rfl) (pa_m1 (pe_e1K (T.one (i := 16) rfl) hr (pv 0) rfl) (pa_m1 (pe_e1K (T.one (i := 17) rfl) hr (pv 0) rfl) pa_m0))))))
      (pss_cons (ps_set (i := 1) scName.nd rfl (Or.inl rfl) (pe_op op_cat (pv 1) (pe_lst (pa_m1 (pe_e1K (T.one (i := 18) rfl) hr (pv 0) rfl) (pa_m1 (pe_e1K (T.one (i := 19) rfl) hr (pv 0) rfl) (pa_m1 (pe_e1K (T.one (i := 20) rfl) hr (pv 0) rfl) pa_m0))))))
      (pss_cons (ps_set (i := 1) scName.nd rfl (Or.inl rfl) (pe_op op_cat (pv 1) (pe_lst (pa_m1 (pe_e1K (T.one (i := 21) rfl) hr (pv 0) rfl) (pa_m1 (pe_e1K (T.one (i := 22) rfl) hr (pv 0) rfl) (pa_m1 (pe_e1K (T.one (i := 23) rfl) hr (pv 0) rfl) (pa_m1 (pe_e1K (T.one (i := 24) rfl) hr (pv 0) rfl) pa_m0)))))))
      (pss_cons (ps_set (i := 1) scName.nd rfl (Or.inl rfl) (pe_op op_cat (pv 1) (pe_lst (pa_m1 (pe_e1K (T.one (i := 25) rfl) hr (pv 0) rfl) (pa_m1 (pe_e1K (T.one (i := 26) rfl) hr (pv 0) rfl) (pa_m1 (pe_e1K (T.one (i := 27) rfl) hr (pv 0) rfl) (pa_m1 (pe_e1K (T.one (i := 28) rfl) hr (pv 0) rfl) pa_m0)))))))
      (pss_cons (ps_set (i := 1) scName.nd rfl (Or.inl rfl) (pe_op op_cat (pv 1) (pe_lst (pa_m1 (pe_e1K (T.one (i := 29) rfl) hr (pv 0) rfl) (pa_m1 (pe_e1K (T.one (i := 30) rfl) hr (pv 0) rfl) (pa_m1 (pe_e1K (T.one (i := 31) rfl) hr (pv 0) rfl) pa_m0))))))
      (pss_one (ps_ret (pe_op op_cat (pv 1) (pe_lst (pa_m1 (pe_e1K (T.one (i := 32) rfl) hr (pv 0) rfl) (pa_m1 (pe_e1K (T.one (i := 33) rfl) hr (pv 0) rfl) pa_m0)))))))))))))))), ?_⟩
    obtain ⟨v, rfl, q⟩ := h
    refine fnd_new (Nat.le_of_ble_eq_true rfl) fun σ H1 h1 => ?_
    refine fnd_add h1 (Nat.le_of_ble_eq_true rfl) fun σ H1 h1 => ?_
    refine fnd_add h1 (Nat.le_of_ble_eq_true rfl) fun σ H1 h1 => ?_
    refine fnd_add h1 (Nat.le_of_ble_eq_true rfl) fun σ H1 h1 => ?_
    refine fnd_add h1 (Nat.le_of_ble_eq_true rfl) fun σ H1 h1 => ?_
    refine fnd_add h1 (Nat.le_of_ble_eq_true rfl) fun σ H1 h1 => ?_
    refine fnd_add h1 (Nat.le_of_ble_eq_true rfl) fun σ H1 h1 => ?_
    refine fnd_add h1 (Nat.le_of_ble_eq_true rfl) fun σ H1 h1 => ?_
    refine fnd_add h1 (Nat.le_of_ble_eq_true rfl) fun σ H1 h1 => ?_
    refine fnd_add h1 (Nat.le_of_ble_eq_true rfl) fun σ H1 h1 => ?_
    exact fnd_cat h1 (Nat.le_of_ble_eq_true rfl) fun p xs H2 k2 e2 hp => q p xs H2 k2 e2 hp
end
end K00

namespace K00
open PySem PySem.Spec PyProof.Rows L2
def spTwos (K : PySem.W.Frag) : Sp := fun vs H Q _ => ∃ (v u : V) (n : Int), vs = [v, u, .int n] ∧ ∀ p xs H', Same H H' → Evs2 H' v u xs (cs2 K) → H' p = some (.lst xs) → Q (.ref p) H'
theorem two_new {H : Hp} {v u : V} {cs : List (Addr × Str × Str)} {σ : L2.St} {Q : VK} (h0 : σ[0]? = some (some v)) (h1 : σ[1]? = some (some u)) (hl : cs.length ≤ 100)
    (k : ∀ p xs H', Same H H' → Evs2 H' v u xs cs → H' p = some (.lst xs) → Q (.ref p) H') : tLst (tMks2 0 1 cs) σ H Q := by
  refine ⟨v, u, h0, h1, fun xs H1 k1 e1 => ⟨?_, fun p hp => ?_⟩⟩
  · rw [e1.length, sizeLine_eq]
    omega
  · exact k _ _ _ (k1.trans (upd_grow hp)) (e1.mono (upd_grow hp)) upd_same
theorem two_newA {H : Hp} {v u : V} {cs : List (Addr × Str × Str)} {σ : L2.St} {D : Ends} (h0 : σ[0]? = some (some v)) (h1 : σ[1]? = some (some u)) (hl : cs.length ≤ 100)
    (k : ∀ p xs H', Same H H' → Evs2 H' v u xs cs → H' p = some (.lst xs) → D.nx (σ.set 3 (some (.ref p))) H') : tAsg (tLst (tMks2 0 1 cs)) (gName 3) D σ H :=
  two_new h0 h1 hl fun p xs H1 k1 e1 hp => k p xs H1 k1 e1 hp
theorem two_cat {H0 H : Hp} {v u : V} {cs ds : List (Addr × Str × Str)} {σ : L2.St} {p : Addr} {xs : List V} {Q : VK} (h0 : σ[0]? = some (some v)) (h1 : σ[1]? = some (some u)) (h3 : σ[3]? = some (some (.ref p)))
    (k0 : Same H0 H) (hp : H p = some (.lst xs)) (ev : Evs2 H v u xs cs) (hl : cs.length + ds.length ≤ 100)
    (k : ∀ p xs H', Same H0 H' → Evs2 H' v u xs (cs ++ ds) → H' p = some (.lst xs) → Q (.ref p) H') : tOp rCat (tVar 3) (tLst (tMks2 0 1 ds)) σ H Q := by
  refine ⟨_, h3, v, u, h0, h1, fun ys H1 k1 e1 => ⟨?_, fun p1 hp1 => ?_⟩⟩
  · rw [e1.length, sizeLine_eq]
    omega
  · have hq := upd_grow (o := .lst ys) hp1
    refine ⟨p, p1, xs, ys, rfl, rfl, hq _ _ (k1 _ _ hp), upd_same, ?_, fun p2 hp2 => ?_⟩
    · rw [e1.length, ev.length, sizeLine_eq]
      omega
    · have hr := upd_grow (o := .lst (xs ++ ys)) hp2
      exact k p2 _ _ (k0.trans (k1.trans (hq.trans hr))) ((ev.mono (k1.trans (hq.trans hr))).append (e1.mono (hq.trans hr))) upd_same
section
variable {P : Program} {w : World} {K : PySem.W.Frag} {mg : Str → Option Value} {base : Heap} {f : Addr} {fd : FuncData}
theorem ok_twos (F : Fd K "_law_twos" sTwos f fd) (T : Cls0 P w K mg base) : FnOk P w K mg base CX0 3 f fd ["one", "other", "way"] (spTwos K) := by
  refine F.ok scTwos (fun vs H Q E h => ?_) (fun cdv A outer s H vs Q E hr h => ?_)
  · obtain ⟨v, u, n, rfl, _⟩ := h
    rfl
  · refine ⟨_, (pss_cons (ps_if (pt_cmpR op_eq (pv 2) pe_int (nomark _)) (pss_one (ps_ret (pe_lst (pa_n1 (pe_e2 (T.two (i := 0) rfl) hr (pv 0) (pv 1) rfl) (pa_n1 (pe_e2 (T.two (i := 1) rfl) hr (pv 0) (pv 1) rfl) (pa_n1 (pe_e2 (T.two (i := 2) rfl) hr (pv 0) (pv 1) rfl) (pa_n1 (pe_e2 (T.two (i := 3) rfl) hr (pv 0) (pv 1) rfl) pa_n0))))))) pss_nil)
      (pss_cons (ps_if (pt_cmpR op_eq (pv 2) pe_int (nomark _)) (pss_cons (ps_set (i := 3) scTwos.nd rfl (Or.inl rfl) (pe_lst (pa_n1 (pe_e2K (T.two (i := 0) rfl) hr (pv 0) (pv 1) rfl) (pa_n1 (pe_e2K (T.two (i := 1) rfl) hr (pv 0) (pv 1) rfl) (pa_n1 (pe_e2K (T.two (i := 2) rfl) hr (pv 0) (pv 1) rfl) pa_n0))))) (pss_one (ps_ret (pe_op op_cat (pv 3) (pe_lst (pa_n1 (pe_e2K (T.two (i := 3) rfl) hr (pv 0) (pv 1) rfl) pa_n0)))))) pss_nil)
      (pss_cons (ps_if (pt_cmpR op_eq (pv 2) pe_int (nomark _)) (pss_cons (ps_set (i := 3) scTwos.nd rfl (Or.inl rfl) (pe_lst (pa_n1 (pe_e2R (T.two (i := 0) rfl) hr (pv 0) (pv 1) rfl) (pa_n1 (pe_e2R (T.two (i := 1) rfl) hr (pv 0) (pv 1) rfl) (pa_n1 (pe_e2R (T.two (i := 2) rfl) hr (pv 0) (pv 1) rfl) pa_n0))))) (pss_one (ps_ret (pe_op op_cat (pv 3) (pe_lst (pa_n1 (pe_e2R (T.two (i := 3) rfl) hr (pv 0) (pv 1) rfl) pa_n0)))))) pss_nil)
      (pss_cons (ps_set (i := 3) scTwos.nd rfl (Or.inl rfl) (pe_lst (pa_n1 (pe_e2M (T.two (i := 0) rfl) hr (pv 0) (pv 1) rfl) (pa_n1 (pe_e2M (T.two (i := 1) rfl) hr (pv 0) (pv 1) rfl) (pa_n1 (pe_e2M (T.two (i := 2) rfl) hr (pv 0) (pv 1) rfl) pa_n0))))) (pss_one (ps_ret (pe_op op_cat (pv 3) (pe_lst (pa_n1 (pe_e2M (T.two (i := 3) rfl) hr (pv 0) (pv 1) rfl) pa_n0))))))))), ?_⟩
    obtain ⟨v, u, n, rfl, q⟩ := h
    refine ⟨_, rfl, rfl, _, rfl, ite2 (fun _ => ?_) fun _ => ?_⟩
    · exact two_new rfl rfl (Nat.le_of_ble_eq_true rfl) fun p xs H2 k2 e2 hp => q p xs H2 k2 e2 hp
    refine ⟨_, rfl, rfl, _, rfl, ite2 (fun _ => ?_) fun _ => ?_⟩
    · refine two_newA rfl rfl (Nat.le_of_ble_eq_true rfl) fun p xs H2 k2 e2 hp => ?_
      exact two_cat rfl rfl rfl k2 hp e2 (Nat.le_of_ble_eq_true rfl) fun p xs H3 k3 e3 hp => q p xs H3 k3 e3 hp
    refine ⟨_, rfl, rfl, _, rfl, ite2 (fun _ => ?_) fun _ => ?_⟩
    · refine two_newA rfl rfl (Nat.le_of_ble_eq_true rfl) fun p xs H2 k2 e2 hp => ?_
      exact two_cat rfl rfl rfl k2 hp e2 (Nat.le_of_ble_eq_true rfl) fun p xs H3 k3 e3 hp => q p xs H3 k3 e3 hp
    refine two_newA rfl rfl (Nat.le_of_ble_eq_true rfl) fun p xs H2 k2 e2 hp => ?_
    exact two_cat rfl rfl rfl k2 hp e2 (Nat.le_of_ble_eq_true rfl) fun p xs H3 k3 e3 hp => q p xs H3 k3 e3 hp
end
end K00

namespace L2
open PySem PySem.Spec PyProof.Rows
/-- isinstance(e, x), e in slot i an exception, x an own class -/
def tIsC (K : PySem.W.Frag) (ps : List Pin) (i : Nat) (x : Str) : TE := fun σ H Q => ∃ (a D d : Addr) (fs : List (Str × V)) (b : Bool), σ[i]? = some (some (.ref a)) ∧ EvP ps H a D d fs ∧ ExcC K D ∧
  PySem.W.kitOne K (.ref D) (.ref (He.ga K x)) = some b ∧ Q (.bl b) H
def tIsL (K : PySem.W.Frag) (ps : List Pin) (i : Nat) (xs : List Str) : TA := fun σ H Q => ∃ (a D d : Addr) (fs : List (Str × V)) (g : Str → Bool), σ[i]? = some (some (.ref a)) ∧ EvP ps H a D d fs ∧ ExcC K D ∧
  (∀ x ∈ xs, PySem.W.kitOne K (.ref D) (.ref (He.ga K x)) = some (g x)) ∧ Q (xs.map fun x => V.bl (g x)) H
section
variable {X : Cx} {ps : List Pin} {i : Nat} {x : Str} {xs : List Str} {v e : Expr} {es : List Expr} {p1 p2 pos : Pos}
theorem pe_isC (hps : ∀ p ∈ ps, p ∈ X.pn) (hgi : Gl X "isinstance") (hmi : X.mg "isinstance" = none) (hm : X.mg x = some (.ref (He.ga X.K x))) (hv : PE X v (tVar i)) (hg : Gl X x)
    (hdb : (x == ("__debug__" : Str)) = false := by decide)
    (he : starEach [v, .Name x p2] X.env = (false, eval v X.env) :: starEach [.Name x p2] X.env := by rfl) (he2 : starEach [.Name x p2] X.env = (false, eval (.Name x p2) X.env) :: starEach [] X.env := by rfl)
    (hpl : (backTo pos (starEach [.Name x p2] X.env)).any (·.1) = false := by rfl) :
    PE X (.Call (.Name "isinstance" p1) [v, .Name x p2] [] pos) (tIsC X.K ps i x) := by
  refine (pe_callB (call_isEv hps) hgi hmi boot_isinstance (pa_cons hv (pa_cons (pe_glob hg hm (v := .ref (He.ga X.K x)) rfl (hd := hdb)) pa_nil he2) he) (hdb := by decide) (he := he) (hpl := hpl)).mono fun σ H Q h => ?_
  obtain ⟨a, D, d, fs, b, h1, h2, h3, h4, q⟩ := h
  exact ⟨_, h1, a, D, d, fs, _, _, b, rfl, h2, h3, .own _, h4, q⟩
theorem pa_i0 : PA X [] (tIsL X.K ps i []) := pa_nil.mono fun σ H Q ⟨a, D, d, fs, g, h1, h2, h3, h4, q⟩ => q
theorem pa_i1 (he : PE X e (tIsC X.K ps i x)) (h : PA X es (tIsL X.K ps i xs)) (hs : starEach (e :: es) X.env = (false, eval e X.env) :: starEach es X.env := by rfl) : PA X (e :: es) (tIsL X.K ps i (x :: xs)) := by
  refine (pa_cons he h hs).mono fun σ H Q ⟨a, D, d, fs, g, h1, h2, h3, h4, q⟩ => ?_
  exact ⟨a, D, d, fs, g x, h1, h2, h3, h4 x List.mem_cons_self, a, D, d, fs, g, h1, h2, h3, fun y hy => h4 y (List.mem_cons_of_mem _ hy), q⟩
end
end L2
namespace K00
open PySem PySem.Spec PyProof.Rows L2
abbrev sSorts : Stmt := top 47
theorem scSorts : FnScope ["e", "found"] ["e"] (defScope sSorts) := ⟨rfl, rfl, rfl, by decide +kernel, rfl, by decide +kernel, by decide +kernel⟩
/-- what the top says of the classes -/
structure Cls1 (K : PySem.W.Frag) (mg : Str → Option Value) : Prop where
  mgx : ∀ {x : Str}, x ∈ nms → mg x = some (.ref (He.ga K x))
  exc : ∀ {x : Str}, x ∈ nms → ExcC K (He.ga K x)
  xfc : ∀ {x : Str}, x ∈ nms → XfC K (He.ga K x)
  kit : ∀ {x y : Str}, x ∈ nms → y ∈ nms → PySem.W.kitOne K (.ref (He.ga K x)) (.ref (He.ga K y)) = some (decide (x = y))
  no1 : ∀ {x f : Str}, (x, f) ∈ cl1 → PySem.W.findIn K (.ref (He.ga K x)) f = some none
  no2 : ∀ {x f g : Str}, (x, f, g) ∈ cl2 → PySem.W.findIn K (.ref (He.ga K x)) f = some none ∧ PySem.W.findIn K (.ref (He.ga K x)) g = some none
/-- more of the built-in names -/
structure Blt2 (mg : Str → Option Value) : Prop where
  isi : mg "isinstance" = none
  rng : mg "range" = none
  len : mg "len" = none
  rep : mg "repr" = none
  vae : mg "ValueError" = none
def srt (g : Str → Bool) (xs : List Str) : List V := xs.map fun x => V.bl (g x)
theorem srt_len (g : Str → Bool) (xs : List Str) : (srt g xs).length = xs.length := List.length_map ..
theorem srt_app (g : Str → Bool) (xs ys : List Str) : srt g (xs ++ ys) = srt g xs ++ srt g ys := List.map_append ..
/-- the sorts so far -/
structure Srt (K : PySem.W.Frag) (ps : List Pin) (g : Str → Bool) (H0 : Hp) (a D d : Addr) (fs : List (Str × V)) (xs : List Str) (σ : L2.St) (H : Hp) : Prop where
  grow : Same H0 H
  ev : EvP ps H a D d fs
  is : ∃ p, σ = [some (.ref a), some (.ref p)] ∧ H p = some (.lst (srt g xs))
section
variable {K : PySem.W.Frag} {ps : List Pin} {g : Str → Bool} {H0 H : Hp} {a D d : Addr} {fs : List (Str × V)} {xs ys : List Str} {σ : L2.St}
theorem srt_new {u : Option V} {E : Ends} (ev : EvP ps H a D d fs) (C : ExcC K D) (kit : ∀ x ∈ ys, PySem.W.kitOne K (.ref D) (.ref (He.ga K x)) = some (g x)) (hl : ys.length ≤ 100)
    (k : ∀ σ' H', Srt K ps g H a D d fs ys σ' H' → E.nx σ' H') : tAsg (tLst (tIsL K ps 0 ys)) (gName 1) E [some (.ref a), u] H := by
  refine ⟨a, D, d, fs, g, rfl, ev, C, kit, ?_, fun p hp => ?_⟩
  · rw [List.length_map, sizeLine_eq]
    omega
  · exact k _ _ ⟨upd_grow hp, ev.mono (fun _ z => z) (upd_grow hp), p, rfl, upd_same⟩
theorem srt_cat {Q : VK} (h : Srt K ps g H0 a D d fs xs σ H) (C : ExcC K D) (kit : ∀ x ∈ ys, PySem.W.kitOne K (.ref D) (.ref (He.ga K x)) = some (g x)) (hl : xs.length + ys.length ≤ 100)
    (k : ∀ p H', Same H0 H' → EvP ps H' a D d fs → H' p = some (.lst (srt g (xs ++ ys))) → Q (.ref p) H') : tOp rCat (tVar 1) (tLst (tIsL K ps 0 ys)) σ H Q := by
  obtain ⟨g1, e1, p, rfl, hp⟩ := h
  refine ⟨_, rfl, a, D, d, fs, g, rfl, e1, C, kit, ?_, fun p1 hp1 => ?_⟩
  · rw [List.length_map, sizeLine_eq]
    omega
  · have hq := upd_grow (o := .lst (ys.map fun x => V.bl (g x))) hp1
    refine ⟨p, p1, _, _, rfl, rfl, hq _ _ hp, upd_same, ?_, fun p2 hp2 => ?_⟩
    · rw [List.length_map, srt_len, sizeLine_eq]
      omega
    · have hr := upd_grow (o := .lst (srt g xs ++ ys.map fun x => V.bl (g x))) hp2
      refine k p2 _ (g1.trans (hq.trans hr)) (e1.mono (fun _ z => z) (hq.trans hr)) ?_
      rw [srt_app]
      exact upd_same
theorem srt_add {E : Ends} (h : Srt K ps g H0 a D d fs xs σ H) (C : ExcC K D) (kit : ∀ x ∈ ys, PySem.W.kitOne K (.ref D) (.ref (He.ga K x)) = some (g x)) (hl : xs.length + ys.length ≤ 100)
    (k : ∀ σ' H', Srt K ps g H0 a D d fs (xs ++ ys) σ' H' → E.nx σ' H') : tAsg (tOp rCat (tVar 1) (tLst (tIsL K ps 0 ys))) (gName 1) E σ H := by
  have z := h
  obtain ⟨_, _, p, rfl, _⟩ := z
  exact srt_cat h C kit hl fun p2 H1 k1 e1 hp2 => k _ _ ⟨k1, e1, p2, rfl, hp2⟩
end
def spSorts (K : PySem.W.Frag) (p : Pin) : Sp := fun vs H Q _ => ∃ (a d : Addr) (fs : List (Str × V)) (x : Str), vs = [.ref a] ∧ x ∈ nms ∧ EvP [p] H a (He.ga K x) d fs ∧
  ∀ q H', Same H H' → H' q = some (.lst (srt (fun y => decide (x = y)) nms)) → Q (.ref q) H'
section
variable {P : Program} {w : World} {K : PySem.W.Frag} {mg : Str → Option Value} {base : Heap} {f : Addr} {fd : FuncData} {p : Pin}
theorem ok_sorts (F : Fd K "_law_sorts" sSorts f fd) (T : Cls1 K mg) (B : Blt2 mg) : FnP P w K mg base 1 f fd ["e"] p (spSorts K p) := by
  refine F.okP scSorts (fun vs H Q E h => ?_) (fun cdv A outer s H vs Q wc hr h => ?_)
  · obtain ⟨a, d, fs, x, rfl, _⟩ := h
    rfl
  · have hps : ∀ q ∈ [p], q ∈ (cxP P w K mg base ["e", "found"] "_law_sorts" (defScope sSorts) f cdv A outer s H p).pn := fun q hq => hq
    refine ⟨_, (pss_cons (ps_set (i := 1) scSorts.nd rfl (Or.inl rfl) (pe_lst (pa_i1 (pe_isC hps rfl B.isi (T.mgx (x := "InvalidLine") (by decide +kernel)) (pv 0) rfl) (pa_i1 (pe_isC hps rfl B.isi (T.mgx (x := "InvalidText") (by decide +kernel)) (pv 0) rfl) (pa_i1 (pe_isC hps rfl B.isi (T.mgx (x := "InvalidHouses") (by decide +kernel)) (pv 0) rfl) pa_i0)))))
      (pss_cons (ps_set (i := 1) scSorts.nd rfl (Or.inl rfl) (pe_op op_cat (pv 1) (pe_lst (pa_i1 (pe_isC hps rfl B.isi (T.mgx (x := "InvalidRoads") (by decide +kernel)) (pv 0) rfl) (pa_i1 (pe_isC hps rfl B.isi (T.mgx (x := "InvalidHouse") (by decide +kernel)) (pv 0) rfl) (pa_i1 (pe_isC hps rfl B.isi (T.mgx (x := "InvalidNames") (by decide +kernel)) (pv 0) rfl) pa_i0))))))
      (pss_cons (ps_set (i := 1) scSorts.nd rfl (Or.inl rfl) (pe_op op_cat (pv 1) (pe_lst (pa_i1 (pe_isC hps rfl B.isi (T.mgx (x := "InvalidScript") (by decide +kernel)) (pv 0) rfl) (pa_i1 (pe_isC hps rfl B.isi (T.mgx (x := "InvalidFounds") (by decide +kernel)) (pv 0) rfl) (pa_i1 (pe_isC hps rfl B.isi (T.mgx (x := "InvalidCount") (by decide +kernel)) (pv 0) rfl) pa_i0))))))
      (pss_cons (ps_set (i := 1) scSorts.nd rfl (Or.inl rfl) (pe_op op_cat (pv 1) (pe_lst (pa_i1 (pe_isC hps rfl B.isi (T.mgx (x := "InvalidCounts") (by decide +kernel)) (pv 0) rfl) (pa_i1 (pe_isC hps rfl B.isi (T.mgx (x := "InvalidLater") (by decide +kernel)) (pv 0) rfl) (pa_i1 (pe_isC hps rfl B.isi (T.mgx (x := "InvalidIndex") (by decide +kernel)) (pv 0) rfl) pa_i0))))))
      (pss_cons (ps_set (i := 1) scSorts.nd rfl (Or.inl rfl) (pe_op op_cat (pv 1) (pe_lst (pa_i1 (pe_isC hps rfl B.isi (T.mgx (x := "InvalidReaders") (by decide +kernel)) (pv 0) rfl) (pa_i1 (pe_isC hps rfl B.isi (T.mgx (x := "InvalidMap") (by decide +kernel)) (pv 0) rfl) (pa_i1 (pe_isC hps rfl B.isi (T.mgx (x := "InvalidLot") (by decide +kernel)) (pv 0) rfl) pa_i0))))))
      (pss_cons (ps_set (i := 1) scSorts.nd rfl (Or.inl rfl) (pe_op op_cat (pv 1) (pe_lst (pa_i1 (pe_isC hps rfl B.isi (T.mgx (x := "InvalidSeats") (by decide +kernel)) (pv 0) rfl) (pa_i1 (pe_isC hps rfl B.isi (T.mgx (x := "InvalidName") (by decide +kernel)) (pv 0) rfl) (pa_i1 (pe_isC hps rfl B.isi (T.mgx (x := "InvalidOwns") (by decide +kernel)) (pv 0) rfl) pa_i0))))))
      (pss_cons (ps_set (i := 1) scSorts.nd rfl (Or.inl rfl) (pe_op op_cat (pv 1) (pe_lst (pa_i1 (pe_isC hps rfl B.isi (T.mgx (x := "InvalidLines") (by decide +kernel)) (pv 0) rfl) (pa_i1 (pe_isC hps rfl B.isi (T.mgx (x := "InvalidWriters") (by decide +kernel)) (pv 0) rfl) (pa_i1 (pe_isC hps rfl B.isi (T.mgx (x := "InvalidRows") (by decide +kernel)) (pv 0) rfl) pa_i0))))))
      (pss_cons (ps_set (i := 1) scSorts.nd rfl (Or.inl rfl) (pe_op op_cat (pv 1) (pe_lst (pa_i1 (pe_isC hps rfl B.isi (T.mgx (x := "NotJoined") (by decide +kernel)) (pv 0) rfl) (pa_i1 (pe_isC hps rfl B.isi (T.mgx (x := "Stopped") (by decide +kernel)) (pv 0) rfl) pa_i0)))))
      (pss_cons (ps_set (i := 1) scSorts.nd rfl (Or.inl rfl) (pe_op op_cat (pv 1) (pe_lst (pa_i1 (pe_isC hps rfl B.isi (T.mgx (x := "Refused") (by decide +kernel)) (pv 0) rfl) (pa_i1 (pe_isC hps rfl B.isi (T.mgx (x := "Ringed") (by decide +kernel)) (pv 0) rfl) (pa_i1 (pe_isC hps rfl B.isi (T.mgx (x := "NoRow") (by decide +kernel)) (pv 0) rfl) pa_i0))))))
      (pss_cons (ps_set (i := 1) scSorts.nd rfl (Or.inl rfl) (pe_op op_cat (pv 1) (pe_lst (pa_i1 (pe_isC hps rfl B.isi (T.mgx (x := "NotTwo") (by decide +kernel)) (pv 0) rfl) (pa_i1 (pe_isC hps rfl B.isi (T.mgx (x := "Nobodys") (by decide +kernel)) (pv 0) rfl) (pa_i1 (pe_isC hps rfl B.isi (T.mgx (x := "Crossed") (by decide +kernel)) (pv 0) rfl) (pa_i1 (pe_isC hps rfl B.isi (T.mgx (x := "NotWhole") (by decide +kernel)) (pv 0) rfl) pa_i0)))))))
      (pss_cons (ps_set (i := 1) scSorts.nd rfl (Or.inl rfl) (pe_op op_cat (pv 1) (pe_lst (pa_i1 (pe_isC hps rfl B.isi (T.mgx (x := "Fitless") (by decide +kernel)) (pv 0) rfl) (pa_i1 (pe_isC hps rfl B.isi (T.mgx (x := "Clash") (by decide +kernel)) (pv 0) rfl) (pa_i1 (pe_isC hps rfl B.isi (T.mgx (x := "TooMany") (by decide +kernel)) (pv 0) rfl) (pa_i1 (pe_isC hps rfl B.isi (T.mgx (x := "NoLetter") (by decide +kernel)) (pv 0) rfl) pa_i0)))))))
      (pss_cons (ps_set (i := 1) scSorts.nd rfl (Or.inl rfl) (pe_op op_cat (pv 1) (pe_lst (pa_i1 (pe_isC hps rfl B.isi (T.mgx (x := "NotARoad") (by decide +kernel)) (pv 0) rfl) (pa_i1 (pe_isC hps rfl B.isi (T.mgx (x := "Twice") (by decide +kernel)) (pv 0) rfl) (pa_i1 (pe_isC hps rfl B.isi (T.mgx (x := "NothingUnderWay") (by decide +kernel)) (pv 0) rfl) pa_i0))))))
      (pss_one (ps_ret (pe_op op_cat (pv 1) (pe_lst (pa_i1 (pe_isC hps rfl B.isi (T.mgx (x := "NotRight") (by decide +kernel)) (pv 0) rfl) pa_i0))))))))))))))))), ?_⟩
    obtain ⟨a, d, fs, x, rfl, hx, ev, q⟩ := h
    have C := T.exc hx
    have kit : ∀ y ∈ nms, PySem.W.kitOne K (.ref (He.ga K x)) (.ref (He.ga K y)) = some ((fun y => decide (x = y)) y) := fun y hy => T.kit hx hy
    have part : ∀ ys : List Str, (∀ y ∈ ys, y ∈ nms) → ∀ y ∈ ys, PySem.W.kitOne K (.ref (He.ga K x)) (.ref (He.ga K y)) = some ((fun y => decide (x = y)) y) := fun ys h y hy => kit y (h y hy)
    refine srt_new ev C (part _ (by decide +kernel)) (Nat.le_of_ble_eq_true rfl) fun σ H1 h1 => ?_
    refine srt_add h1 C (part _ (by decide +kernel)) (Nat.le_of_ble_eq_true rfl) fun σ H1 h1 => ?_
    refine srt_add h1 C (part _ (by decide +kernel)) (Nat.le_of_ble_eq_true rfl) fun σ H1 h1 => ?_
    refine srt_add h1 C (part _ (by decide +kernel)) (Nat.le_of_ble_eq_true rfl) fun σ H1 h1 => ?_
    refine srt_add h1 C (part _ (by decide +kernel)) (Nat.le_of_ble_eq_true rfl) fun σ H1 h1 => ?_
    refine srt_add h1 C (part _ (by decide +kernel)) (Nat.le_of_ble_eq_true rfl) fun σ H1 h1 => ?_
    refine srt_add h1 C (part _ (by decide +kernel)) (Nat.le_of_ble_eq_true rfl) fun σ H1 h1 => ?_
    refine srt_add h1 C (part _ (by decide +kernel)) (Nat.le_of_ble_eq_true rfl) fun σ H1 h1 => ?_
    refine srt_add h1 C (part _ (by decide +kernel)) (Nat.le_of_ble_eq_true rfl) fun σ H1 h1 => ?_
    refine srt_add h1 C (part _ (by decide +kernel)) (Nat.le_of_ble_eq_true rfl) fun σ H1 h1 => ?_
    refine srt_add h1 C (part _ (by decide +kernel)) (Nat.le_of_ble_eq_true rfl) fun σ H1 h1 => ?_
    refine srt_add h1 C (part _ (by decide +kernel)) (Nat.le_of_ble_eq_true rfl) fun σ H1 h1 => ?_
    exact srt_cat h1 C (part _ (by decide +kernel)) (Nat.le_of_ble_eq_true rfl) fun p H2 k2 e2 hp => q p H2 k2 hp
end
end K00

namespace K00
open PySem PySem.Spec PyProof.Rows L2
abbrev sIs : Stmt := top 48
theorem scIs : FnScope ["e", "spot", "sorts", "k"] ["e", "spot"] (defScope sIs) := ⟨rfl, rfl, rfl, by decide +kernel, rfl, by decide +kernel, by decide +kernel⟩
/-- more of the top -/
structure Cls2 (K : PySem.W.Frag) (mg : Str → Option Value) : Prop where
  lost : mg "LostError" = some (.ref (He.ga K "LostError"))
  isLost : ∀ {x : Str}, x ∈ nms → PySem.W.kitOne K (.ref (He.ga K x)) (.ref (He.ga K "LostError")) = some true
  isVal : ∀ {x : Str}, x ∈ nms → PySem.W.kitOne K (.ref (He.ga K x)) (.type "ValueError") = some true
/-- of the spots up to i, s alone -/
def upto (s i : Nat) : List V := if s < i then [.int (s : Int)] else []
theorem nms_len : nms.length = 38 := rfl
theorem nms_nodup : nms.Nodup := by decide +kernel
theorem nms_at {s : Nat} {x : Str} (h : nms[s]? = some x) : x ∈ nms ∧ s < 38 := ⟨List.mem_of_getElem? h, by
  have z := (List.getElem?_eq_some_iff.mp h).1
  rw [nms_len] at z
  exact z⟩
theorem srt_at {s i : Nat} {x : Str} (h : nms[s]? = some x) (hi : i < 38) : (srt (fun y => decide (x = y)) nms)[i]? = some (.bl (decide (s = i))) := by
  have li : i < nms.length := by rw [nms_len]; exact hi
  unfold srt
  rw [List.getElem?_map, List.getElem?_eq_getElem li]
  show some (V.bl (decide (x = nms[i]))) = _
  have e : decide (x = nms[i]) = decide (s = i) := by
    by_cases z : s = i
    · subst z
      rw [List.getElem?_eq_getElem li] at h
      rw [decide_eq_true rfl, decide_eq_true (Option.some.inj h).symm]
    · rw [decide_eq_false z, decide_eq_false]
      intro q
      refine z ((List.getElem?_inj (by rw [nms_len]; exact (nms_at h).2) nms_nodup).mp ?_)
      rw [h, List.getElem?_eq_getElem li, q]
  rw [e]
def spIs (K : PySem.W.Frag) (p : Pin) : Sp := fun vs H Q _ => ∃ (a d : Addr) (fs : List (Str × V)) (x : Str) (s : Nat), vs = [.ref a, .int (s : Int)] ∧ nms[s]? = some x ∧ EvP [p] H a (He.ga K x) d fs ∧
  ∀ H', Same H H' → Q (.bl true) H'
section
variable {P : Program} {w : World} {K : PySem.W.Frag} {mg : Str → Option Value} {base : Heap} {f fS : Addr} {fd fdS : FuncData} {p : Pin}
theorem ok_is (F : Fd K "_law_is" sIs f fd) (FS : Fd K "_law_sorts" sSorts fS fdS) (T : Cls1 K mg) (T2 : Cls2 K mg) (B : Blt2 mg) (gS : mg "_law_sorts" = some (.ref fS)) :
    FnP P w K mg base 2 f fd ["e", "spot"] p (spIs K p) := by
  have GS : FnP P w K mg base 1 fS fdS ["e"] p (spSorts K p) := ok_sorts FS T B
  have bS : Binds K fdS ["e"] [] := FS.bindsN fun _ _ _ _ _ _ us hl => match us, hl with | [_], _ => rfl
  refine F.okP scIs (fun vs H Q E h => ?_) (fun cdv A outer s H vs Q wc hr h => ?_)
  · obtain ⟨a, d, fs, x, s, rfl, _⟩ := h
    rfl
  · have hps : ∀ q ∈ [p], q ∈ (cxP P w K mg base ["e", "spot", "sorts", "k"] "_law_is" (defScope sIs) f cdv A outer s H p).pn := fun q hq => hq
    have hu : (cxP P w K mg base ["e", "spot", "sorts", "k"] "_law_is" (defScope sIs) f cdv A outer s H p).A.units + 64 < cLine := by
      have z := hr.un
      show (A.deeper _).units + 64 < cLine
      omega
    refine ⟨_, pss_cons (ps_set (i := 2) scIs.nd rfl (Or.inr rfl) (pe_callP GS wc hr rfl gS FS.kp bS (pa_cons (pv 0) pa_nil)))
      (pss_cons (ps_if (pw_or (pt_not (pt_val (pe_isC hps rfl B.isi T2.lost (pv 0) rfl)))
          (pw_or1 (pt_not (pt_val (pe_callB (call_isEv hps) (by rfl) B.isi boot_isinstance (pa_cons (pv 0) (pa_cons (pe_bltn (by rfl) B.vae PyProof.Rows.Boot.«ValueError» (v := .ty "ValueError") rfl) pa_nil))))))).pt
        (pss_one (ps_ret pe_bl)) pss_nil)
      (pss_one (ps_ret (pe_cmpR (op_eqV hu) (pe_lcW (own := [("k", 3)]) (g := gName 3) wc scIs.nd (pi_range1W (by rfl) B.rng (pa_cons (pe_callB call_len (by rfl) B.len boot_len (pa_cons (pv 2) pa_nil)) pa_nil))
          (blkOk_by (N := ["e", "spot", "sorts", "k"]) (sc := defScope sIs) (by decide +kernel)) (fun _ _ _ _ _ => pg_name (i := 3) scIs.nd rfl (Or.inl rfl))
          (fun _ _ _ _ _ => pts_one (pt_val (pe_ix (r := rIx K) ix_seq (pv 2) (pv 3) fun _ _ => rfl))) (fun _ _ _ _ _ => pv 3))
        (pe_lst (pa_cons (pv 1) pa_nil)) (nomark _))))), ?_⟩
    obtain ⟨a, d, fs, x, s1, rfl, hx, ev, q⟩ := h
    obtain ⟨hm, hs38⟩ := nms_at hx
    refine ⟨_, rfl, a, d, fs, x, rfl, hm, ev, fun l H1 k1 hl => ?_⟩
    have ev1 := ev.mono (fun _ z => z) k1
    refine ⟨a, _, d, fs, true, rfl, ev1, T.exc hm, T2.isLost hm, true, rfl, iteF ?_⟩
    refine ⟨_, rfl, a, _, d, fs, .ty "ValueError", .type "ValueError", true, rfl, ev1, T.exc hm, .ty _, T2.isVal hm, true, rfl, iteF ?_⟩
    have hlen : (srt (fun y => decide (x = y)) nms).length = 38 := srt_len _ _
    refine ⟨_, rfl, _, 38, rfl, .inl ⟨_, SqL.of hl, hlen.symm⟩, 38, rfl, by decide, by decide, fun D hD => ?_⟩
    refine lc_range (n := 38) (fun i H' => Same H1 H' ∧ H' D = some (.lst (upto s1 i))) ⟨upd_grow hD, upd_same⟩ ?_ ?_
    · intro i H2 hi ⟨k2, h2⟩
      refine ⟨rfl, _, rfl, _, rfl, ixAt (k2 _ _ hl) (atI_nat (by rw [Nat.zero_add] <;> exact srt_at hx hi)) ⟨_, rfl, ?_⟩⟩
      by_cases e : s1 = i
      · subst e
        rw [decide_eq_true rfl]
        refine iteT ⟨_, rfl, upto s1 s1, h2, ?_, fun b o q => ?_, ?_⟩
        · show (upto s1 s1).length < sizeLine
          unfold upto
          rw [if_neg (Nat.lt_irrefl _), sizeLine_eq]
          decide
        · rw [upd_ne (ne_of_none q hD)]
          exact k2 _ _ q
        · rw [upd_same]
          unfold upto
          rw [if_neg (Nat.lt_irrefl _), if_pos (Nat.lt_succ_self _)]
          show some (HO.lst ([] ++ [V.int (0 + (s1 : Int))])) = _
          rw [Int.zero_add] <;> rfl
      · rw [decide_eq_false e]
        refine iteF ⟨k2, ?_⟩
        rw [h2]
        unfold upto
        have z : (s1 < i) = (s1 < i + 1) := by
          apply propext
          omega
        simp only [z]
    · intro H2 ⟨k2, h2⟩
      refine ⟨_, rfl, by show 1 ≤ sizeLine; rw [sizeLine_eq]; decide, fun r hr1 => ?_⟩
      have h3 : upd H2 r (.lst [V.int (s1 : Int)]) D = some (.lst [V.int (s1 : Int)]) := by
        rw [upd_ne (ne_of_none h2 hr1), h2]
        unfold upto
        rw [if_pos hs38]
      refine ⟨1, by decide, .inl ⟨D, r, _, _, rfl, rfl, SqL.of h3, SqL.of upd_same, .cons (.inl ⟨rfl, rfl⟩) .nil⟩, ?_⟩
      exact q _ (k1.trans (k2.trans (upd_grow hr1)))
end
end K00

namespace L2
open PySem PySem.Spec PyProof.Rows
theorem iteB {c : Bool} {A B : Prop} (h1 : c = true → A) (h2 : c = false → B) : if c = true then A else B := by
  cases c with
  | true => exact iteT (h1 rfl)
  | false => exact iteF (h2 rfl)
def tIsC2 (K : PySem.W.Frag) (ps : List Pin) (i : Nat) (x y : Str) : TE := fun σ H Q => ∃ (a D d : Addr) (fs : List (Str × V)) (b c : Bool), σ[i]? = some (some (.ref a)) ∧ EvP ps H a D d fs ∧ ExcC K D ∧
  PySem.W.kitOne K (.ref D) (.ref (He.ga K x)) = some b ∧ PySem.W.kitOne K (.ref D) (.ref (He.ga K y)) = some c ∧ ∀ H', Same H H' → Q (.bl (b || c)) H'
theorem upd_grow0 {H : Hp} {p : Addr} {o : HO} (h : H p = none) : Same H (upd H p o) := fun b u e => by
  rw [upd_ne (ne_of_none e h)]
  exact e
section
variable {X : Cx} {ps : List Pin} {i : Nat} {x y : Str} {v : Expr} {p1 p2 p3 tp pos : Pos} {ctx : Nat}
theorem kit_two {K : PySem.W.Frag} {t a b : Value} {r q : Bool} (h1 : PySem.W.kitOne K t a = some r) (h2 : PySem.W.kitOne K t b = some q) : PySem.W.kitAny K t [a, b] = some (r || q) := by
  refine kitAny_cons h1 (fun e => ?_) (fun e => by rw [e] <;> rfl)
  rw [e, Bool.false_or]
  refine kitAny_cons h2 (fun e2 => ?_) (fun e2 => e2)
  rw [e2]
  exact kitAny_nil
theorem pe_isC2 (hps : ∀ p ∈ ps, p ∈ X.pn) (hgi : Gl X "isinstance") (hmi : X.mg "isinstance" = none) (hm : X.mg x = some (.ref (He.ga X.K x))) (hm2 : X.mg y = some (.ref (He.ga X.K y))) (hv : PE X v (tVar i)) (hg : Gl X x) (hg2 : Gl X y)
    (hdb : (x == ("__debug__" : Str)) = false := by decide) (hdb2 : (y == ("__debug__" : Str)) = false := by decide)
    (he : starEach [v, .Tuple [.Name x p2, .Name y p3] ctx tp] X.env = (false, eval v X.env) :: starEach [.Tuple [.Name x p2, .Name y p3] ctx tp] X.env := by rfl)
    (he2 : starEach [.Tuple [.Name x p2, .Name y p3] ctx tp] X.env = (false, eval (.Tuple [.Name x p2, .Name y p3] ctx tp) X.env) :: starEach [] X.env := by rfl)
    (hpl : (backTo pos (starEach [.Tuple [.Name x p2, .Name y p3] ctx tp] X.env)).any (·.1) = false := by rfl) :
    PE X (.Call (.Name "isinstance" p1) [v, .Tuple [.Name x p2, .Name y p3] ctx tp] [] pos) (tIsC2 X.K ps i x y) := by
  refine (pe_callB (call_isEvT hps) hgi hmi boot_isinstance (pa_cons hv (pa_cons (pe_tup (pa_cons (pe_glob hg hm (v := .ref (He.ga X.K x)) rfl (hd := hdb)) (pa_cons (pe_glob hg2 hm2 (v := .ref (He.ga X.K y)) rfl (hd := hdb2)) pa_nil))) pa_nil he2) he) (hdb := by decide) (he := he) (hpl := hpl)).mono fun σ H Q h => ?_
  obtain ⟨a, D, d, fs, b, c, h1, h2, h3, h4, h5, q⟩ := h
  refine ⟨_, h1, by show 2 ≤ sizeLine; rw [sizeLine_eq]; decide, fun p hp => ?_⟩
  have g := upd_grow0 (o := .tup [.ref (He.ga X.K x), .ref (He.ga X.K y)]) hp
  exact ⟨a, D, d, p, fs, _, _, b || c, rfl, h2.mono (fun _ z => z) g, h3, upd_same, .cons (.own _) (.cons (.own _) .nil), kit_two h4 h5, q _ g⟩
end
end L2
namespace K00
open PySem PySem.Spec PyProof.Rows L2
abbrev sKept : Stmt := top 49
theorem scKept : FnScope ["e"] ["e"] (defScope sKept) := ⟨rfl, rfl, rfl, by decide +kernel, rfl, by decide +kernel, by decide +kernel⟩
theorem cl1_nms {x f : Str} (h : (x, f) ∈ cl1) : x ∈ nms := by
  have z : ∀ q ∈ cl1, q.1 ∈ nms := by decide +kernel
  exact z _ h
theorem cl2_nms {x f g : Str} (h : (x, f, g) ∈ cl2) : x ∈ nms := by
  have z : ∀ q ∈ cl2, q.1 ∈ nms := by decide +kernel
  exact z _ h
def spKept (K : PySem.W.Frag) (p : Pin) : Sp := fun vs H Q _ => ∃ (a d : Addr) (v : V) (x f0 : Str), vs = [.ref a] ∧ (x, f0) ∈ cl1 ∧ EvP [p] H a (He.ga K x) d [(f0, v)] ∧ ∀ H', Same H H' → Q v H'
section
variable {P : Program} {w : World} {K : PySem.W.Frag} {mg : Str → Option Value} {base : Heap} {f : Addr} {fd : FuncData} {p : Pin}
theorem ok_kept (F : Fd K "_law_kept" sKept f fd) (T : Cls1 K mg) (B : Blt2 mg) : FnP P w K mg base 1 f fd ["e"] p (spKept K p) := by
  refine F.okP scKept (fun vs H Q E h => ?_) (fun cdv A outer s H vs Q wc hr h => ?_)
  · obtain ⟨a, d, v, x, f0, rfl, _⟩ := h
    rfl
  · have hps : ∀ q ∈ [p], q ∈ (cxP P w K mg base ["e"] "_law_kept" (defScope sKept) f cdv A outer s H p).pn := fun q hq => hq
    refine ⟨_, (pss_cons (ps_if (pt_val (pe_isC2 hps rfl B.isi (T.mgx (x := "NotJoined") (by decide +kernel)) (T.mgx (x := "Stopped") (by decide +kernel)) (pv 0) rfl rfl)) (pss_one (ps_ret (pe_evF hps (pv 0)))) pss_nil)
      (pss_cons (ps_if (pt_val (pe_isC hps rfl B.isi (T.mgx (x := "Refused") (by decide +kernel)) (pv 0) rfl)) (pss_one (ps_ret (pe_evF hps (pv 0)))) pss_nil)
      (pss_cons (ps_if (pt_val (pe_isC2 hps rfl B.isi (T.mgx (x := "Ringed") (by decide +kernel)) (T.mgx (x := "NoRow") (by decide +kernel)) (pv 0) rfl rfl)) (pss_one (ps_ret (pe_evF hps (pv 0)))) pss_nil)
      (pss_cons (ps_if (pt_val (pe_isC hps rfl B.isi (T.mgx (x := "NotTwo") (by decide +kernel)) (pv 0) rfl)) (pss_one (ps_ret (pe_evF hps (pv 0)))) pss_nil)
      (pss_cons (ps_if (pt_val (pe_isC2 hps rfl B.isi (T.mgx (x := "Nobodys") (by decide +kernel)) (T.mgx (x := "Fitless") (by decide +kernel)) (pv 0) rfl rfl)) (pss_one (ps_ret (pe_evF hps (pv 0)))) pss_nil)
      (pss_cons (ps_if (pt_val (pe_isC hps rfl B.isi (T.mgx (x := "Crossed") (by decide +kernel)) (pv 0) rfl)) (pss_one (ps_ret (pe_evF hps (pv 0)))) pss_nil)
      (pss_cons (ps_if (pt_val (pe_isC2 hps rfl B.isi (T.mgx (x := "NotWhole") (by decide +kernel)) (T.mgx (x := "Clash") (by decide +kernel)) (pv 0) rfl rfl)) (pss_one (ps_ret (pe_evF hps (pv 0)))) pss_nil)
      (pss_cons (ps_if (pt_val (pe_isC hps rfl B.isi (T.mgx (x := "TooMany") (by decide +kernel)) (pv 0) rfl)) (pss_one (ps_ret (pe_evF hps (pv 0)))) pss_nil)
      (pss_cons (ps_if (pt_val (pe_isC hps rfl B.isi (T.mgx (x := "NoLetter") (by decide +kernel)) (pv 0) rfl)) (pss_one (ps_ret (pe_evF hps (pv 0)))) pss_nil)
      (pss_one (ps_ret (pe_evF hps (pv 0))))))))))))), ?_⟩
    obtain ⟨a, d, v, x, f0, rfl, hq, ev, q⟩ := h
    have hx := cl1_nms hq
    refine ⟨a, _, d, _, _, _, rfl, ev, T.exc hx, T.kit hx (by decide +kernel), T.kit hx (by decide +kernel), fun H1 k1 => ⟨_, rfl, ?_⟩⟩
    have ev := ev.mono (fun _ z => z) k1
    have q : ∀ H', Same H1 H' → Q v H' := fun H2 k2 => q H2 (k1.trans k2)
    refine iteB (c := decide (x = "NotJoined") || decide (x = "Stopped")) (fun c => ?_) (fun n0 => ?_)
    · have e : f0 = "house" := by
        have z : ∀ q ∈ cl1, (decide (q.1 = "NotJoined") || decide (q.1 = "Stopped")) = true → q.2 = "house" := by decide +kernel
        exact z _ hq c
      subst e
      exact ⟨_, rfl, a, _, d, _, v, rfl, ev, T.xfc hx, T.no1 hq, rfl, q _ (Same.refl _)⟩
    refine ⟨a, _, d, _, _, rfl, ev, T.exc hx, T.kit hx (by decide +kernel), _, rfl, ?_⟩
    refine iteB (c := decide (x = "Refused")) (fun c => ?_) (fun n1 => ?_)
    · have e : f0 = "at" := by
        have z : ∀ q ∈ cl1, (decide (q.1 = "Refused")) = true → q.2 = "at" := by decide +kernel
        exact z _ hq c
      subst e
      exact ⟨_, rfl, a, _, d, _, v, rfl, ev, T.xfc hx, T.no1 hq, rfl, q _ (Same.refl _)⟩
    refine ⟨a, _, d, _, _, _, rfl, ev, T.exc hx, T.kit hx (by decide +kernel), T.kit hx (by decide +kernel), fun H1 k1 => ⟨_, rfl, ?_⟩⟩
    have ev := ev.mono (fun _ z => z) k1
    have q : ∀ H', Same H1 H' → Q v H' := fun H2 k2 => q H2 (k1.trans k2)
    refine iteB (c := decide (x = "Ringed") || decide (x = "NoRow")) (fun c => ?_) (fun n2 => ?_)
    · have e : f0 = "names" := by
        have z : ∀ q ∈ cl1, (decide (q.1 = "Ringed") || decide (q.1 = "NoRow")) = true → q.2 = "names" := by decide +kernel
        exact z _ hq c
      subst e
      exact ⟨_, rfl, a, _, d, _, v, rfl, ev, T.xfc hx, T.no1 hq, rfl, q _ (Same.refl _)⟩
    refine ⟨a, _, d, _, _, rfl, ev, T.exc hx, T.kit hx (by decide +kernel), _, rfl, ?_⟩
    refine iteB (c := decide (x = "NotTwo")) (fun c => ?_) (fun n3 => ?_)
    · have e : f0 = "many" := by
        have z : ∀ q ∈ cl1, (decide (q.1 = "NotTwo")) = true → q.2 = "many" := by decide +kernel
        exact z _ hq c
      subst e
      exact ⟨_, rfl, a, _, d, _, v, rfl, ev, T.xfc hx, T.no1 hq, rfl, q _ (Same.refl _)⟩
    refine ⟨a, _, d, _, _, _, rfl, ev, T.exc hx, T.kit hx (by decide +kernel), T.kit hx (by decide +kernel), fun H1 k1 => ⟨_, rfl, ?_⟩⟩
    have ev := ev.mono (fun _ z => z) k1
    have q : ∀ H', Same H1 H' → Q v H' := fun H2 k2 => q H2 (k1.trans k2)
    refine iteB (c := decide (x = "Nobodys") || decide (x = "Fitless")) (fun c => ?_) (fun n4 => ?_)
    · have e : f0 = "picture" := by
        have z : ∀ q ∈ cl1, (decide (q.1 = "Nobodys") || decide (q.1 = "Fitless")) = true → q.2 = "picture" := by decide +kernel
        exact z _ hq c
      subst e
      exact ⟨_, rfl, a, _, d, _, v, rfl, ev, T.xfc hx, T.no1 hq, rfl, q _ (Same.refl _)⟩
    refine ⟨a, _, d, _, _, rfl, ev, T.exc hx, T.kit hx (by decide +kernel), _, rfl, ?_⟩
    refine iteB (c := decide (x = "Crossed")) (fun c => ?_) (fun n5 => ?_)
    · have e : f0 = "cross" := by
        have z : ∀ q ∈ cl1, (decide (q.1 = "Crossed")) = true → q.2 = "cross" := by decide +kernel
        exact z _ hq c
      subst e
      exact ⟨_, rfl, a, _, d, _, v, rfl, ev, T.xfc hx, T.no1 hq, rfl, q _ (Same.refl _)⟩
    refine ⟨a, _, d, _, _, _, rfl, ev, T.exc hx, T.kit hx (by decide +kernel), T.kit hx (by decide +kernel), fun H1 k1 => ⟨_, rfl, ?_⟩⟩
    have ev := ev.mono (fun _ z => z) k1
    have q : ∀ H', Same H1 H' → Q v H' := fun H2 k2 => q H2 (k1.trans k2)
    refine iteB (c := decide (x = "NotWhole") || decide (x = "Clash")) (fun c => ?_) (fun n6 => ?_)
    · have e : f0 = "reader" := by
        have z : ∀ q ∈ cl1, (decide (q.1 = "NotWhole") || decide (q.1 = "Clash")) = true → q.2 = "reader" := by decide +kernel
        exact z _ hq c
      subst e
      exact ⟨_, rfl, a, _, d, _, v, rfl, ev, T.xfc hx, T.no1 hq, rfl, q _ (Same.refl _)⟩
    refine ⟨a, _, d, _, _, rfl, ev, T.exc hx, T.kit hx (by decide +kernel), _, rfl, ?_⟩
    refine iteB (c := decide (x = "TooMany")) (fun c => ?_) (fun n7 => ?_)
    · have e : f0 = "count" := by
        have z : ∀ q ∈ cl1, (decide (q.1 = "TooMany")) = true → q.2 = "count" := by decide +kernel
        exact z _ hq c
      subst e
      exact ⟨_, rfl, a, _, d, _, v, rfl, ev, T.xfc hx, T.no1 hq, rfl, q _ (Same.refl _)⟩
    refine ⟨a, _, d, _, _, rfl, ev, T.exc hx, T.kit hx (by decide +kernel), _, rfl, ?_⟩
    refine iteB (c := decide (x = "NoLetter")) (fun c => ?_) (fun n8 => ?_)
    · have e : f0 = "k" := by
        have z : ∀ q ∈ cl1, (decide (q.1 = "NoLetter")) = true → q.2 = "k" := by decide +kernel
        exact z _ hq c
      subst e
      exact ⟨_, rfl, a, _, d, _, v, rfl, ev, T.xfc hx, T.no1 hq, rfl, q _ (Same.refl _)⟩
    have e : f0 = "given" := by
      have z : ∀ q ∈ cl1, (decide (q.1 = "NotJoined") || decide (q.1 = "Stopped")) = false → (decide (q.1 = "Refused")) = false → (decide (q.1 = "Ringed") || decide (q.1 = "NoRow")) = false → (decide (q.1 = "NotTwo")) = false → (decide (q.1 = "Nobodys") || decide (q.1 = "Fitless")) = false → (decide (q.1 = "Crossed")) = false → (decide (q.1 = "NotWhole") || decide (q.1 = "Clash")) = false → (decide (q.1 = "TooMany")) = false → (decide (q.1 = "NoLetter")) = false → q.2 = "given" := by decide +kernel
      exact z _ hq n0 n1 n2 n3 n4 n5 n6 n7 n8
    subst e
    exact ⟨_, rfl, a, _, d, _, v, rfl, ev, T.xfc hx, T.no1 hq, rfl, q _ (Same.refl _)⟩
end
end K00

namespace K00
open PySem PySem.Spec PyProof.Rows L2
abbrev sTwoKept : Stmt := top 50
abbrev sSame : Stmt := top 52
theorem scTwoKept : FnScope ["e"] ["e"] (defScope sTwoKept) := ⟨rfl, rfl, rfl, by decide +kernel, rfl, by decide +kernel, by decide +kernel⟩
theorem scSame : FnScope ["kept", "thing"] ["kept", "thing"] (defScope sSame) := ⟨rfl, rfl, rfl, by decide +kernel, rfl, by decide +kernel, by decide +kernel⟩
def spTwoKept (K : PySem.W.Frag) (p : Pin) : Sp := fun vs H Q _ => ∃ (a d : Addr) (v u : V) (x f0 g0 : Str), vs = [.ref a] ∧ (x, f0, g0) ∈ cl2 ∧ EvP [p] H a (He.ga K x) d [(g0, u), (f0, v)] ∧
  ∀ q H', Same H H' → H' q = some (.lst [v, u]) → Q (.ref q) H'
/-- a drawn thing: data, or an InvalidText of the text x -/
def Thing (K : PySem.W.Frag) (H : Hp) (v : V) : Prop :=
  (∃ d : PyData, Rdd H v d ∧ d.showable = true ∧ d.depth ≤ 32 ∧ d.shown.length ≤ sizeLine) ∨
    ∃ a d : Addr, v = .ref a ∧ EvP [] H a (He.ga K "InvalidText") d [("given", .str "x")]
theorem Thing.mono {K : PySem.W.Frag} {H H' : Hp} (k : Same H H') {v : V} (t : Thing K H v) : Thing K H' v :=
  t.imp (fun ⟨d, h1, h2⟩ => ⟨d, h1.mono k, h2⟩) fun ⟨a, d, h1, h2⟩ => ⟨a, d, h1, h2.mono (fun _ z => z) k⟩
/-- the type of data -/
def tyD : PyData → String
  | .none => "NoneType"
  | .bool _ => "bool"
  | .int _ => "int"
  | .str _ => "str"
  | .list _ => "list"
  | .tuple _ => "tuple"
  | .dict _ => "dict"
theorem rdd_ty {K : PySem.W.Frag} {H : Hp} {v : V} {d : PyData} (r : Rdd H v d) : TyX K H v (.type (tyD d)) := by
  cases r with
  | non => exact .base .non
  | bl b => exact .base (.bl b)
  | int i => exact .base (.int i)
  | str x => exact .base (.str x)
  | lst h _ => exact .base (.lst h)
  | tup h _ => exact .base (.tup h)
  | dK h _ _ => exact .base (.dK h)
/-- data are none of the own errors -/
structure Cls3 (K : PySem.W.Frag) : Prop where
  txt : ∀ d : PyData, PySem.W.kitOne K (.type (tyD d)) (.ref (He.ga K "InvalidText")) = some false
  los : ∀ d : PyData, PySem.W.kitOne K (.type (tyD d)) (.ref (He.ga K "LostError")) = some false
  sys : ∃ o, K.lookup sysModules = some o
def spSame (K : PySem.W.Frag) (p : Pin) : Sp := fun vs H Q _ => ∃ v : V, vs = [v, v] ∧ Thing K H v ∧ ∀ H', Same H H' → Q (.bl true) H'
section
variable {P : Program} {w : World} {K : PySem.W.Frag} {mg : Str → Option Value} {base : Heap} {f : Addr} {fd : FuncData} {p : Pin}
theorem ok_twoKept (F : Fd K "_law_two_kept" sTwoKept f fd) (T : Cls1 K mg) (B : Blt2 mg) : FnP P w K mg base 1 f fd ["e"] p (spTwoKept K p) := by
  refine F.okP scTwoKept (fun vs H Q E h => ?_) (fun cdv A outer s H vs Q wc hr h => ?_)
  · obtain ⟨a, d, v, u, x, f0, g0, rfl, _⟩ := h
    rfl
  · have hps : ∀ q ∈ [p], q ∈ (cxP P w K mg base ["e"] "_law_two_kept" (defScope sTwoKept) f cdv A outer s H p).pn := fun q hq => hq
    refine ⟨_, pss_cons (ps_if (pt_val (pe_isC hps rfl B.isi (T.mgx (x := "Twice") (by decide +kernel)) (pv 0) rfl)) (pss_one (ps_ret (pe_lst (pa_cons (pe_evF hps (pv 0)) (pa_cons (pe_evF hps (pv 0)) pa_nil))))) pss_nil)
      (pss_cons (ps_if (pt_val (pe_isC hps rfl B.isi (T.mgx (x := "NotRight") (by decide +kernel)) (pv 0) rfl)) (pss_one (ps_ret (pe_lst (pa_cons (pe_evF hps (pv 0)) (pa_cons (pe_evF hps (pv 0)) pa_nil))))) pss_nil)
      (pss_one (ps_ret (pe_lst (pa_cons (pe_evF hps (pv 0)) (pa_cons (pe_evF hps (pv 0)) pa_nil)))))), ?_⟩
    obtain ⟨a, d, v, u, x, f0, g0, rfl, hq, ev, q⟩ := h
    have hx := cl2_nms hq
    have two : (2 : Nat) ≤ sizeLine := by rw [sizeLine_eq]; decide
    refine ⟨a, _, d, _, _, rfl, ev, T.exc hx, T.kit hx (by decide +kernel), _, rfl, ?_⟩
    refine iteB (c := decide (x = "Twice")) (fun c => ?_) (fun n0 => ?_)
    · have e : f0 = "house" ∧ g0 = "text" := by
        have z : ∀ q ∈ cl2, decide (q.1 = "Twice") = true → q.2.1 = "house" ∧ q.2.2 = "text" := by decide +kernel
        exact z _ hq c
      obtain ⟨rfl, rfl⟩ := e
      exact ⟨_, rfl, a, _, d, _, v, rfl, ev, T.xfc hx, (T.no2 hq).1, rfl, _, rfl, a, _, d, _, u, rfl, ev, T.xfc hx, (T.no2 hq).2, rfl, two, fun r hr => q r _ (upd_grow hr) upd_same⟩
    refine ⟨a, _, d, _, _, rfl, ev, T.exc hx, T.kit hx (by decide +kernel), _, rfl, ?_⟩
    refine iteB (c := decide (x = "NotRight")) (fun c => ?_) (fun n1 => ?_)
    · have e : f0 = "road" ∧ g0 = "lines" := by
        have z : ∀ q ∈ cl2, decide (q.1 = "NotRight") = true → q.2.1 = "road" ∧ q.2.2 = "lines" := by decide +kernel
        exact z _ hq c
      obtain ⟨rfl, rfl⟩ := e
      exact ⟨_, rfl, a, _, d, _, v, rfl, ev, T.xfc hx, (T.no2 hq).1, rfl, _, rfl, a, _, d, _, u, rfl, ev, T.xfc hx, (T.no2 hq).2, rfl, two, fun r hr => q r _ (upd_grow hr) upd_same⟩
    have e : f0 = "u" ∧ g0 = "v" := by
      have z : ∀ q ∈ cl2, decide (q.1 = "Twice") = false → decide (q.1 = "NotRight") = false → q.2.1 = "u" ∧ q.2.2 = "v" := by decide +kernel
      exact z _ hq n0 n1
    obtain ⟨rfl, rfl⟩ := e
    exact ⟨_, rfl, a, _, d, _, v, rfl, ev, T.xfc hx, (T.no2 hq).1, rfl, _, rfl, a, _, d, _, u, rfl, ev, T.xfc hx, (T.no2 hq).2, rfl, two, fun r hr => q r _ (upd_grow hr) upd_same⟩
end
end K00
namespace K00
open PySem PySem.Spec PyProof.Rows L2
section
variable {P : Program} {w : World} {K : PySem.W.Frag} {mg : Str → Option Value} {base : Heap} {f : Addr} {fd : FuncData} {p : Pin}
theorem ok_same (F : Fd K "_law_same" sSame f fd) (T : Cls1 K mg) (T2 : Cls2 K mg) (T3 : Cls3 K) (B : Blt2 mg) : FnP P w K mg base 1 f fd ["kept", "thing"] p (spSame K p) := by
  refine F.okP scSame (fun vs H Q E h => ?_) (fun cdv A outer s H vs Q wc hr h => ?_)
  · obtain ⟨v, rfl, _⟩ := h
    rfl
  · have hps : ∀ q ∈ [p], q ∈ (cxP P w K mg base ["kept", "thing"] "_law_same" (defScope sSame) f cdv A outer s H p).pn := fun q hq => hq
    have hu : (cxP P w K mg base ["kept", "thing"] "_law_same" (defScope sSame) f cdv A outer s H p).A.units + 64 < cLine := by
      have z := hr.un
      show (A.deeper _).units + 64 < cLine
      omega
    have mT := T.mgx (x := "InvalidText") (by decide +kernel)
    refine ⟨_, pss_cons (ps_if (pt_val (pe_callB (call_isi.or (call_isEv hps)) (by rfl) B.isi boot_isinstance (pa_cons (pv 1) (pa_cons (pe_glob (by rfl) mT (v := .ref (He.ga K "InvalidText")) rfl) pa_nil))))
        (pss_one (ps_ret (pe_and (pe_callB (call_isEv hps) (by rfl) B.isi boot_isinstance (pa_cons (pv 0) (pa_cons (pe_glob (by rfl) mT (v := .ref (He.ga K "InvalidText")) rfl) pa_nil)))
          (pe_one (pe_cmpR op_eq (pe_evF hps (pv 0)) pe_str (nomark _)))))) pss_nil)
      (pss_one (ps_ret (pe_and (pe_not (pe_callB call_isi (by rfl) B.isi boot_isinstance (pa_cons (pv 0) (pa_cons (pe_glob (by rfl) T2.lost (v := .ref (He.ga K "LostError")) rfl) pa_nil))))
        (pe_one (pe_cmpR op_eq (pe_callB (call_repr wc.gd hu T3.sys) (by rfl) B.rep (by decide +kernel) (pa_cons (pv 0) pa_nil)) (pe_callB (call_repr wc.gd hu T3.sys) (by rfl) B.rep (by decide +kernel) (pa_cons (pv 1) pa_nil)) (nomark _)))))), ?_⟩
    obtain ⟨v, rfl, th, q⟩ := h
    rcases th with ⟨d, r, h1, h2, h3⟩ | ⟨a, d, rfl, ev⟩
    · refine ⟨_, rfl, .inl ⟨v, _, _, _, false, rfl, .own _, rdd_ty r, T3.txt d, false, rfl, iteF ?_⟩⟩
      refine ⟨_, rfl, v, _, _, _, false, rfl, .own _, rdd_ty r, T3.los d, false, rfl, true, rfl, iteT ?_⟩
      refine ⟨_, rfl, v, d, rfl, r, h1, h2, h3, _, rfl, v, d, rfl, r, h1, h2, h3, rfl, ?_⟩
      show Q (.bl (decide (V.str d.shown = V.str d.shown))) H
      rw [decide_eq_true rfl]
      exact q H (Same.refl H)
    · have ev : EvP [p] H a (He.ga K "InvalidText") d [("given", .str "x")] := ev.mono (fun _ z => nomatch z) (fun _ _ z => z)
      have hx : ("InvalidText" : Str) ∈ nms := by decide +kernel
      have hq : (("InvalidText", "given") : Str × Str) ∈ cl1 := by decide +kernel
      refine ⟨_, rfl, .inr ⟨a, _, d, _, _, _, _, rfl, ev, T.exc hx, .own _, T.kit hx hx, _, rfl, ?_⟩⟩
      rw [decide_eq_true rfl]
      refine iteT ⟨_, rfl, a, _, d, _, _, _, _, rfl, ev, T.exc hx, .own _, T.kit hx hx, _, rfl, ?_⟩
      rw [decide_eq_true rfl]
      refine iteT ⟨_, rfl, a, _, d, _, .str "x", rfl, ev, T.xfc hx, T.no1 hq, rfl, rfl, ?_⟩
      show Q (.bl (decide (V.str "x" = V.str "x"))) H
      rw [decide_eq_true rfl]
      exact q H (Same.refl H)
end
end K00

namespace K00
open PySem PySem.Spec PyProof.Rows L2
abbrev sThing : Stmt := top 51
theorem scThing : FnScope ["box", "menu"] ["box"] (defScope sThing) := ⟨rfl, rfl, rfl, by decide +kernel, rfl, by decide +kernel, by decide +kernel⟩
/-- all of H but what stands at p -/
theorem del_mono {p : Addr} {H H' : Hp} (k : Same H H') : Same (del H p) (del H' p) := fun b o e => by
  by_cases z : b = p
  · rw [z, del_same] at e
    cases e
  · rw [del_ne z] at e ⊢
    exact k b o e
theorem del_le {p : Addr} {H : Hp} : Same (del H p) H := fun b o e => by
  by_cases z : b = p
  · rw [z, del_same] at e
    cases e
  · rwa [del_ne z] at e
/-- new things, which do not reach p -/
def tTh (K : PySem.W.Frag) (p : Addr) : TE := fun _ H Q => (∃ o, H p = some o) ∧ ∀ v H', Same H H' → Thing K (del H' p) v → Q v H'
def tThs (K : PySem.W.Frag) (p : Addr) (n : Nat) : TA := fun _ H Q => (∃ o, H p = some o) ∧ ∀ vs H', Same H H' → vs.length = n → (∀ v ∈ vs, Thing K (del H' p) v) → Q vs H'
section
variable {X : Cx} {e : Expr} {es : List Expr} {n : Nat} {b : Addr}
theorem pa_t0 : PA X [] (tThs X.K b 0) := pa_nil.mono fun σ H Q ⟨_, q⟩ => q [] H (Same.refl H) rfl fun v z => nomatch z
theorem pa_t1 (he : PE X e (tTh X.K b)) (h : PA X es (tThs X.K b n)) (hs : starEach (e :: es) X.env = (false, eval e X.env) :: starEach es X.env := by rfl) : PA X (e :: es) (tThs X.K b (n + 1)) := by
  refine (pa_cons he h hs).mono fun σ H Q ⟨⟨o, ho⟩, q⟩ => ⟨⟨o, ho⟩, fun v H1 k1 t1 => ⟨⟨o, k1 _ _ ho⟩, fun vs H2 k2 l2 t2 => ?_⟩⟩
  refine q _ H2 (k1.trans k2) (by rw [List.length_cons, l2]) fun u hu => ?_
  rcases List.mem_cons.mp hu with rfl | hu
  · exact t1.mono (del_mono k2)
  · exact t2 u hu
end
theorem data {K : PySem.W.Frag} {H : Hp} {v : V} {d : PyData} (r : Rdd H v d) (hs : d.showable = true) (hd : d.depth ≤ 32) (hz : d.shown.length ≤ 16777216) : Thing K H v :=
  .inl ⟨d, r, hs, hd, by rw [sizeLine_eq]; exact hz⟩
theorem two_ln {n : Nat} (h : n ≤ 16777216) : n ≤ sizeLine := by
  rw [sizeLine_eq]
  exact h
section
variable {X : Cx} {P : Program} {w : World} {K : PySem.W.Frag} {mg : Str → Option Value} {base : Heap} {f fT : Addr} {fd fdT : FuncData}
def spThing (K : PySem.W.Frag) : Sp := fun vs H Q _ => ∃ (p : Addr) (xs : List V) (c : Nat), vs = [.ref p] ∧ H p = some (.lst xs) ∧ Box c xs ∧ c < 1000 ∧
  ∀ v ys H1, Same H H1 → Box (c + 1) ys → Thing K (del H1 p) v → Q v (upd H1 p (.lst ys))
theorem th_tC {b : Addr} {y : V} {d : PyData} (r : ∀ H, Rdd H y d) (hs : d.showable = true) (hd : d.depth ≤ 32) (hz : d.shown.length ≤ 16777216) : ∀ σ H Q, tTh K b σ H Q → tC y σ H Q :=
  fun _ H _ ⟨_, q⟩ => q y H (Same.refl H) (data (r _) hs hd hz)
theorem del_new {b p : Addr} {H : Hp} {o u : HO} (hb : H b = some o) (hp : H p = none) : del (upd H p u) b p = some u := by
  rw [del_ne (ne_of_none hb hp).symm]
  exact upd_same
theorem th_lst {b : Addr} {t : TA} {xs : List V} {ds : List PyData} (ht : ∀ σ H (Q : List V → Hp → Prop), Q xs H → t σ H Q) (hl : xs.length ≤ 100) (r : ∀ H, RddAll H xs ds) (hs : (PyData.list ds).showable = true) (hd : (PyData.list ds).depth ≤ 32)
    (hz : (PyData.list ds).shown.length ≤ 16777216) : ∀ σ H Q, tTh K b σ H Q → tLst t σ H Q := fun σ H Q ⟨⟨o, ho⟩, q⟩ => ht σ H _ ⟨two_ln (by omega), fun p hp =>
    q _ _ (upd_grow hp) (data (.lst (del_new ho hp) (r _)) hs hd hz)⟩
theorem th_tup {b : Addr} {t : TA} {xs : List V} {ds : List PyData} (ht : ∀ σ H (Q : List V → Hp → Prop), Q xs H → t σ H Q) (hl : xs.length ≤ 100) (r : ∀ H, RddAll H xs ds) (hs : (PyData.tuple ds).showable = true) (hd : (PyData.tuple ds).depth ≤ 32)
    (hz : (PyData.tuple ds).shown.length ≤ 16777216) : ∀ σ H Q, tTh K b σ H Q → tTup t σ H Q := fun σ H Q ⟨⟨o, ho⟩, q⟩ => ht σ H _ ⟨two_ln (by omega), fun p hp =>
    q _ _ (upd_grow hp) (data (.tup (del_new ho hp) (r _)) hs hd hz)⟩
theorem withEv_del {H : Hp} {a C d b : Addr} {o : HO} {fs : List (Str × V)} (hb : H b = some o) (ha : H a = none) (hd : H d = none) (ne : d ≠ a) : EvP [] (del (withEv H a C d fs) b) a C d fs := by
  have e := withEv_ev (H := H) (C := C) (fs := fs) ne
  refine ⟨e.at_.imp (fun z => ?_) (fun ⟨_, z, _⟩ => nomatch z), e.tab.imp (fun z => ?_) fun z => ?_⟩
  · rw [del_ne (ne_of_none hb ha).symm]
    exact z
  · rw [del_ne (ne_of_none hb hd).symm]
    exact z
  · rw [del_ne (ne_of_none hb hd).symm]
    exact z
theorem pe_e1C {x f0 : Str} {y : V} {v : Expr} {p pos : Pos} {b : Addr} (O : One X.prog X.w X.K X.mg X.base x f0) (hr : Room 2 X.A) (hv : PE X v (tC y)) (hg : Gl X x) (hdb : (x == ("__debug__" : Str)) = false := by decide)
    (he : starEach [v] X.env = (false, eval v X.env) :: starEach [] X.env := by rfl) (hpl : (backTo pos (starEach [] X.env)).any (·.1) = false := by rfl) :
    PE X (.Call (.Name x p) [v] [] pos) (fun σ H Q => (∃ o, H b = some o) ∧ ∀ a d H', Same H H' → EvP [] (del H' b) a (He.ga X.K x) d [(f0, y)] → Q (.ref a) H') := by
  obtain ⟨fd, F, b1, b2⟩ := O.ini
  refine (pe_mkEv O.T O.iC O.tI F hr b1 pass0 (by decide) hg O.mgx (pa_cons hv pa_nil he) hdb he hpl).mono fun σ H Q ⟨⟨o, ho⟩, q⟩ => ?_
  refine ⟨rfl, rfl, fun a ha => ⟨a, y, rfl, upd_same, fun dx n ne => ⟨rfl, ?_⟩⟩⟩
  rw [upd_withEv]
  have n2 : H dx = none := by rwa [upd_ne ne] at n
  exact q a dx _ (withEv_same ha n2) (withEv_del ho ha n2 ne)
theorem th_ev {a : Addr} {d : Addr} {H : Hp} (e : EvP [] H a (He.ga K "InvalidText") d [("given", .str "x")]) : Thing K H (.ref a) := .inr ⟨a, d, rfl, e⟩
theorem putK_nil {k : Key} {v : V} : putK ([] : List (Key × V)) k v = [(k, v)] := putK_new v rfl
theorem th_dict {b : Addr} : ∀ σ H Q, tTh K b σ H Q → tDisp [(tC (.str "a"), tLst (tCons (tC (.int 3)) tNil))] σ H Q := fun σ H Q ⟨⟨o, ho⟩, q⟩ p hp => by
  refine ⟨two_ln (by show 1 ≤ 16777216; decide), fun r hr => ⟨?_, [(.inr "a", .ref r)], rfl, (by show 1 ≤ 15; decide), ?_⟩⟩
  · rw [upd_ne (ne_of_none upd_same hr)]
    exact upd_same
  · have hpr : p ≠ r := ne_of_none upd_same hr
    have bp : b ≠ p := ne_of_none ho hp
    have br : b ≠ r := ne_of_none (o := o) (by rw [upd_ne bp]; exact ho) hr
    have e : mergeK [] [((.inr "a" : Key), V.ref r)] = [(.inr "a", .ref r)] := putK_nil
    rw [e]
    refine q _ _ (fun b o z => ?_) (data (d := .dict [(.str "a", .list [.int 3])]) (.dK (by rw [del_ne bp.symm]; exact upd_same) (.cons (.str _) .nil) (.cons (.lst (xs := [.int 3]) ?_ (.cons (.int 3) .nil)) .nil)) (by decide +kernel) (by decide +kernel) (by decide +kernel))
    · have hb : b ≠ p := ne_of_none z hp
      have z1 : upd H p (.dK []) b = some o := by rw [upd_ne hb]; exact z
      rw [upd_ne hb, upd_ne (ne_of_none z1 hr)]
      exact z1
    · rw [del_ne br.symm, upd_ne hpr.symm]
      exact upd_same
theorem th_tup2 {b : Addr} : ∀ σ H Q, tTh K b σ H Q → tTup (tCons (tC (.int 2)) (tCons (tTup (tCons (tC (.str "b")) tNil)) tNil)) σ H Q := fun σ H Q ⟨⟨o, ho⟩, q⟩ => by
  refine ⟨two_ln (by show 1 ≤ 16777216; decide), fun r hr => ⟨two_ln (by show 2 ≤ 16777216; decide), fun p hp => ?_⟩⟩
  have hb2 : upd H r (.tup [.str "b"]) b = some o := upd_grow hr _ _ ho
  refine q _ _ ((upd_grow hr).trans (upd_grow hp)) (data (d := .tuple [.int 2, .tuple [.str "b"]]) (.tup (del_new hb2 hp) (.cons (.int 2) (.cons (.tup (xs := [.str "b"]) ?_ (.cons (.str _) .nil)) .nil))) (by decide +kernel) (by decide +kernel) (by decide +kernel))
  rw [del_ne (ne_of_none ho hr).symm]
  exact upd_grow hp _ _ upd_same
theorem ok_thing (F : Fd K "_law_thing" sThing f fd) (FT : Fd K "_law_take" sTake fT fdT) (T : Cls0 P w K mg base) (B : Blt mg) (gT : mg "_law_take" = some (.ref fT)) : FnOk P w K mg base CX0 3 f fd ["box"] (spThing K) := by
  have GT : FnOk P w K mg base CX0 1 fT fdT ["box", "many"] spTake := ok_take FT B
  have bT : Binds K fdT ["box", "many"] [] := FT.bindsN fun _ _ _ _ _ _ us hl => match us, hl with | [_, _], _ => rfl
  refine F.ok scThing (fun vs H Q E h => ?_) (fun cdv A outer s H vs Q E hr h => ?_)
  · obtain ⟨p, xs, c, rfl, _⟩ := h
    rfl
  · obtain ⟨p, xs, c, rfl, hp, hb, hc, q⟩ := h
    refine ⟨_, pss_cons (ps_set (i := 1) scThing.nd rfl (Or.inl rfl) (pe_lst
        (pa_t1 (b := p) (pe_non.mono (th_tC (K := K) (d := .none) (fun _ => .non) (by decide +kernel) (by decide +kernel) (by decide +kernel)))
        (pa_t1 (b := p) (pe_bl.mono (th_tC (K := K) (d := .bool true) (fun _ => .bl _) (by decide +kernel) (by decide +kernel) (by decide +kernel)))
        (pa_t1 (b := p) (pe_bl.mono (th_tC (K := K) (d := .bool false) (fun _ => .bl _) (by decide +kernel) (by decide +kernel) (by decide +kernel)))
        (pa_t1 (b := p) (pe_int.mono (th_tC (K := K) (d := .int 0) (fun _ => .int _) (by decide +kernel) (by decide +kernel) (by decide +kernel)))
        (pa_t1 (b := p) (pe_int.mono (th_tC (K := K) (d := .int 7) (fun _ => .int _) (by decide +kernel) (by decide +kernel) (by decide +kernel)))
        (pa_t1 (b := p) (pe_str.mono (th_tC (K := K) (d := .str "") (fun _ => .str _) (by decide +kernel) (by decide +kernel) (by decide +kernel)))
        (pa_t1 (b := p) (pe_str.mono (th_tC (K := K) (d := .str "round 7") (fun _ => .str _) (by decide +kernel) (by decide +kernel) (by decide +kernel)))
        (pa_t1 (b := p) ((pe_lst pa_nil).mono (th_lst (K := K) (xs := []) (ds := []) (fun _ _ _ q => q) (by decide) (fun _ => .nil) (by decide +kernel) (by decide +kernel) (by decide +kernel)))
        (pa_t1 (b := p) ((pe_lst (pa_cons pe_int (pa_cons pe_str pa_nil))).mono (th_lst (K := K) (xs := [.int 1, .str "a"]) (ds := [.int 1, .str "a"]) (fun _ _ _ q => q) (by decide) (fun _ => .cons (.int 1) (.cons (.str _) .nil)) (by decide +kernel) (by decide +kernel) (by decide +kernel)))
        (pa_t1 (b := p) ((pe_tup pa_nil).mono (th_tup (K := K) (xs := []) (ds := []) (fun _ _ _ q => q) (by decide) (fun _ => .nil) (by decide +kernel) (by decide +kernel) (by decide +kernel)))
        (pa_t1 (b := p) ((pe_tup (pa_cons pe_int (pa_cons pe_bl pa_nil))).mono (th_tup (K := K) (xs := [.int 1, .bl true]) (ds := [.int 1, .bool true]) (fun _ _ _ q => q) (by decide) (fun _ => .cons (.int 1) (.cons (.bl _) .nil)) (by decide +kernel) (by decide +kernel) (by decide +kernel)))
        (pa_t1 (b := p) (pe_dnewK.mono fun σ H Q q p hp => q.2 _ _ (upd_grow hp) (data (d := .dict []) (.dK (del_new q.1.choose_spec hp) .nil .nil) (by decide +kernel) (by decide +kernel) (by decide +kernel)))
        (pa_t1 (b := p) ((pe_disp (pps_cons pe_str (pe_lst (pa_cons pe_int pa_nil)) pps_nil) rfl rfl (by simp) (by decide)).mono th_dict)
        (pa_t1 (b := p) ((pe_lst (pa_cons pe_non pa_nil)).mono (th_lst (K := K) (xs := [.non]) (ds := [.none]) (fun _ _ _ q => q) (by decide) (fun _ => .cons .non .nil) (by decide +kernel) (by decide +kernel) (by decide +kernel)))
        (pa_t1 (b := p) ((pe_tup (pa_cons pe_int (pa_cons (pe_tup (pa_cons pe_str pa_nil)) pa_nil))).mono th_tup2)
        (pa_t0 (b := p)))))))))))))))))))
      (pss_cons (ps_set (i := 1) scThing.nd rfl (Or.inl rfl) (pe_op op_cat (pv 1) (pe_lst
        (pa_t1 (b := p) ((pe_un un_neg (pe_op op_pow pe_int pe_int)).mono fun σ H Q q => ⟨_, _, rfl, rfl, ⟨by decide, by decide, by decide⟩, _, rfl, q.2 _ H (Same.refl H) (data (d := .int (-(10 ^ 19))) (.int _) (by decide +kernel) (by decide +kernel) (by decide +kernel))⟩)
        (pa_t1 (b := p) ((pe_tup (pa_cons pe_str (pa_cons pe_str pa_nil))).mono (th_tup (K := K) (xs := [.str "ann", .str "x"]) (ds := [.str "ann", .str "x"]) (fun _ _ _ q => q) (by decide) (fun _ => .cons (.str _) (.cons (.str _) .nil)) (by decide +kernel) (by decide +kernel) (by decide +kernel)))
        (pa_t1 (b := p) ((pe_e1C (b := p) (T.one (i := 1) rfl) hr pe_str (by rfl)).mono fun σ H Q (h : tTh K p σ H Q) => ⟨h.1, fun a d H1 k1 e1 => h.2 _ H1 k1 (th_ev e1)⟩)
        (pa_t0 (b := p))))))))
      (pss_one (ps_ret (pe_ix ix_seq (pv 1) (pe_call GT (hr.mono (by decide)) rfl gT FT.kp bT .nil pass0 (pa_cons (pv 0) (pa_cons pe_int pa_nil))) fun _ _ => rfl)))), ?_⟩
    refine ⟨⟨_, hp⟩, fun vs H1 k1 l1 t1 => ?_⟩
    refine ⟨two_ln (by omega), fun r1 hr1 => ?_⟩
    refine ⟨_, rfl, ⟨_, upd_grow hr1 _ _ (k1 _ _ hp)⟩, fun us H2 k2 l2 t2 => ⟨two_ln (by omega), fun r2 hr2 => ?_⟩⟩
    have g2 := upd_grow (o := .lst us) hr2
    have h1 : upd H2 r2 (.lst us) r1 = some (.lst vs) := g2 _ _ (k2 _ _ upd_same)
    refine ⟨r1, r2, vs, us, rfl, rfl, h1, upd_same, two_ln (by omega), fun r3 hr3 => ?_⟩
    have g3 := upd_grow (o := .lst (vs ++ us)) hr3
    have all : Same H (upd (upd H2 r2 (.lst us)) r3 (.lst (vs ++ us))) := k1.trans ((upd_grow hr1).trans (k2.trans (g2.trans g3)))
    have hp3 := all _ _ hp
    refine ⟨_, rfl, _, rfl, p, 18, xs, c, rfl, hp3, hb, hc, by decide, by decide, fun i ys i0 i1 hb2 => ?_⟩
    have hl : (vs ++ us).length = 18 := by rw [List.length_append, l1, l2]
    have hi : i.toNat < (vs ++ us).length := by omega
    have hne : r3 ≠ p := (ne_of_none (o := .lst xs) (H := upd H2 r2 (.lst us)) (g2 _ _ (k2 _ _ (upd_grow hr1 _ _ (k1 _ _ hp)))) hr3).symm
    have at3 : atI (vs ++ us) i = some (vs ++ us)[i.toNat] := by
      have z := atI_nat (xs := vs ++ us) (j := i.toNat) (List.getElem?_eq_getElem hi)
      rwa [Int.toNat_of_nonneg i0] at z
    refine ixAt (xs := vs ++ us) (by rw [upd_ne hne]; exact upd_same) at3 ?_
    refine q _ ys _ all hb2 ?_
    rcases List.mem_append.mp (List.getElem_mem hi) with z | z
    · exact (t1 _ z).mono (del_mono ((upd_grow hr1).trans (k2.trans (g2.trans g3))))
    · exact (t2 _ z).mono (del_mono (g2.trans g3))
end
end K00

namespace K00
open PySem PySem.Spec PyProof.Rows L2
abbrev sOnes : Stmt := top 54
theorem scOnes : FnScope ["first", "last", "lists", "spot", "turn", "e"] ["first", "last"] (defScope sOnes) := ⟨rfl, rfl, rfl, by decide +kernel, rfl, by decide +kernel, by decide +kernel⟩
/-- a def of the law as a pin for calls outside of a suite -/
theorem pin_of {K : PySem.W.Frag} {x : Str} {st : Stmt} {f : Addr} {fd : FuncData} (F : Fd K x st f fd) : ∃ o : Obj, K.lookup f = some o ∧ ∀ v, o.data ≠ .cell v := by
  obtain ⟨oc, od, dV, kV, doc, pm, an, cdv, ct, osl, rfl, lk, _⟩ := F.ex
  exact ⟨_, lk, fun v z => by cases z⟩
/-- the defs that are called in a suite and outside of one -/
structure Hot (P : Program) (w : World) (K : PySem.W.Frag) (mg : Str → Option Value) (base : Heap) (fI fK fT fS : Addr) (dI dK dT dS : FuncData) : Prop where
  gI : mg "_law_is" = some (.ref fI)
  gK : mg "_law_kept" = some (.ref fK)
  gT : mg "_law_two_kept" = some (.ref fT)
  gS : mg "_law_same" = some (.ref fS)
  kI : PySem.W.keepIn K (.ref fI) = true
  kK : PySem.W.keepIn K (.ref fK) = true
  kT : PySem.W.keepIn K (.ref fT) = true
  kS : PySem.W.keepIn K (.ref fS) = true
  bI : Binds K dI ["e", "spot"] []
  bK : Binds K dK ["e"] []
  bT : Binds K dT ["e"] []
  bS : Binds K dS ["kept", "thing"] []
  oI : ∀ p, FnP P w K mg base 2 fI dI ["e", "spot"] p (spIs K p)
  oK : ∀ p, FnP P w K mg base 1 fK dK ["e"] p (spKept K p)
  oT : ∀ p, FnP P w K mg base 1 fT dT ["e"] p (spTwoKept K p)
  oS : ∀ p, FnP P w K mg base 1 fS dS ["kept", "thing"] p (spSame K p)
  pin : ∃ (a : Addr) (o : Obj), K.lookup a = some o ∧ ∀ v, o.data ≠ .cell v
theorem nms_of {i : Nat} {x f0 : Str} (h : cl1[i]? = some (x, f0)) : nms[i]? = some x := by
  have li : i < cl1.length := (List.getElem?_eq_some_iff.mp h).1
  unfold nms
  rw [List.getElem?_append_left (by rw [List.length_map]; exact li), List.getElem?_map, h] <;> rfl
theorem cs_of {K : PySem.W.Frag} {i : Nat} {x f0 : Str} (h : cl1[i]? = some (x, f0)) : (cs1 K)[i]? = some (He.ga K x, f0) := by
  unfold cs1
  rw [List.getElem?_map, h] <;> rfl
theorem cl1_at {i : Nat} (h : i < 34) : ∃ x f0, cl1[i]? = some (x, f0) := by
  have li : i < cl1.length := h
  exact ⟨_, _, List.getElem?_eq_getElem li⟩
def spOnes (K : PySem.W.Frag) : Sp := fun vs H Q _ => ∃ v u : V, vs = [v, u] ∧ Thing K H v ∧ Thing K H u ∧ ∀ H', Same H H' → Q (.bl true) H'
section
variable {P : Program} {w : World} {K : PySem.W.Frag} {mg : Str → Option Value} {base : Heap} {f fP fN fI fK fT fS : Addr} {fd dP dN dI dK dT dS : FuncData}
theorem ok_ones (F : Fd K "_law_ones_right" sOnes f fd) (FP : Fd K "_law_by_place" sPlace fP dP) (FN : Fd K "_law_by_name" sName fN dN) (C : Cls0 P w K mg base) (B : Blt2 mg) (Y : Hot P w K mg base fI fK fT fS dI dK dT dS)
    (gP : mg "_law_by_place" = some (.ref fP)) (gN : mg "_law_by_name" = some (.ref fN)) : FnG P w K mg base 4 f fd ["first", "last"] (spOnes K) := by
  have GP : FnOk P w K mg base CX0 3 fP dP ["thing"] (spPlace K) := ok_place FP C
  have GN : FnOk P w K mg base CX0 3 fN dN ["thing"] (spPlace K) := ok_name FN C
  have bP : Binds K dP ["thing"] [] := FP.bindsN fun _ _ _ _ _ _ us hl => match us, hl with | [_], _ => rfl
  have bN : Binds K dN ["thing"] [] := FN.bindsN fun _ _ _ _ _ _ us hl => match us, hl with | [_], _ => rfl
  obtain ⟨pa, po, hpo, hpc⟩ := Y.pin
  have gI := (Y.oI (pa, po)).ok hpo hpc
  have gK := (Y.oK (pa, po)).ok hpo hpc
  have gS := (Y.oS (pa, po)).ok hpo hpc
  refine F.okG scOnes (fun vs H Q E h => ?_) (fun cdv A outer s H vs Q hgd hr h => ?_)
  · obtain ⟨v, u, rfl, _⟩ := h
    rfl
  · refine ⟨_, pss_cons (ps_set (i := 2) scOnes.nd rfl (Or.inl rfl) (pe_lst (pa_cons (pe_call GP hr rfl gP FP.kp bP .nil pass0 (pa_cons (pv 0) pa_nil)) (pa_cons (pe_call GN hr rfl gN FN.kp bN .nil pass0 (pa_cons (pv 1) pa_nil))
        (pa_cons (pe_call GN hr rfl gN FN.kp bN .nil pass0 (pa_cons (pv 0) pa_nil)) (pa_cons (pe_call GP hr rfl gP FP.kp bP .nil pass0 (pa_cons (pv 1) pa_nil)) pa_nil))))))
      (pss_cons (ps_for (passes_of rfl) rfl (pi_range1 (by rfl) B.rng (pa_cons pe_int pa_nil)) (pg_name (i := 3) scOnes.nd rfl (Or.inl rfl))
        (pss_one (ps_for (passes_of rfl) rfl (pi_range1 (by rfl) B.rng (pa_cons pe_int pa_nil)) (pg_name (i := 4) scOnes.nd rfl (Or.inl rfl))
          (pss_cons (ps_set (i := 5) scOnes.nd rfl (Or.inl rfl) (pe_ix ix_seq (pe_ix ix_seq (pv 2) (pv 4) fun _ _ => rfl) (pv 3) fun _ _ => rfl))
          (pss_one (ps_if (pw_or (pt_not (pt_val (pe_callG gI hgd (hr.mono (by decide)) (by rfl) Y.gI Y.kI Y.bI (pa_cons (pv 5) (pa_cons (pv 3) pa_nil)))))
              (pw_or1 (pt_not (pt_val (pe_callG gS hgd (hr.mono (by decide)) (by rfl) Y.gS Y.kS Y.bS (pa_cons (pe_callG gK hgd (hr.mono (by decide)) (by rfl) Y.gK Y.kK Y.bK (pa_cons (pv 5) pa_nil))
                (pa_cons (pe_ix ix_seq (pe_lst (pa_cons (pv 0) (pa_cons (pv 1) pa_nil))) (pe_op op_mod (pv 4) pe_int) fun _ _ => rfl) pa_nil))))))).pt
            (pss_one (ps_ret pe_bl)) pss_nil))))))
      (pss_one (ps_ret pe_bl))), ?_⟩
    obtain ⟨v, u, rfl, tv, tu, q⟩ := h
    refine ⟨_, rfl, v, rfl, fun p0 x0 H0 k0 e0 h0 => ?_⟩
    refine ⟨_, rfl, u, rfl, fun p1 x1 H1 k1 e1 h1 => ?_⟩
    refine ⟨_, rfl, v, rfl, fun p2 x2 H2 k2 e2 h2 => ?_⟩
    refine ⟨_, rfl, u, rfl, fun p3 x3 H3 k3 e3 h3 => ?_⟩
    refine ⟨two_ln (by show 4 ≤ 16777216; decide), fun L hL => ?_⟩
    have gL := upd_grow (o := .lst [.ref p0, .ref p1, .ref p2, .ref p3]) hL
    generalize hH4 : upd H3 L (.lst [.ref p0, .ref p1, .ref p2, .ref p3]) = H4 at gL ⊢
    have hLL : H4 L = some (.lst [.ref p0, .ref p1, .ref p2, .ref p3]) := by rw [← hH4]; exact upd_same
    have all : Same H H4 := k0.trans (k1.trans (k2.trans (k3.trans gL)))
    have row : ∀ t : Nat, t < 4 → ∃ (pt : Addr) (xt : List V) (y : V), ([.ref p0, .ref p1, .ref p2, .ref p3] : List V)[t]? = some (.ref pt) ∧ H4 pt = some (.lst xt) ∧ Evs H4 y xt (cs1 K) ∧ ([v, u] : List V)[t % 2]? = some y ∧ Thing K H4 y := by
      intro t ht
      have tv4 := tv.mono all
      have tu4 := tu.mono all
      match t, ht with
      | 0, _ => exact ⟨p0, x0, v, rfl, (k1.trans (k2.trans (k3.trans gL))) _ _ h0, e0.mono (k1.trans (k2.trans (k3.trans gL))), rfl, tv4⟩
      | 1, _ => exact ⟨p1, x1, u, rfl, (k2.trans (k3.trans gL)) _ _ h1, e1.mono (k2.trans (k3.trans gL)), rfl, tu4⟩
      | 2, _ => exact ⟨p2, x2, v, rfl, (k3.trans gL) _ _ h2, e2.mono (k3.trans gL), rfl, tv4⟩
      | 3, _ => exact ⟨p3, x3, u, rfl, gL _ _ h3, e3.mono gL, rfl, tu4⟩
    refine ⟨34, rfl, by decide, by decide, for_range (n := 34) (fun i σ H' => Same H4 H' ∧ ∃ a b c : Option V, σ = [some v, some u, some (.ref L), a, b, c]) ⟨Same.refl _, none, none, none, rfl⟩ ?_ ?_⟩
    · rintro i σ H5 hi ⟨k5, a, b, c, rfl⟩
      obtain ⟨x, f0, hx⟩ := cl1_at hi
      have hm := List.mem_of_getElem? hx
      refine ⟨4, rfl, by decide, by decide, for_range (n := 4) (fun j σ H' => Same H4 H' ∧ ∃ b c : Option V, σ = [some v, some u, some (.ref L), some (.int (0 + (i : Int))), b, c]) ⟨k5, b, c, rfl⟩ ?_ ?_⟩
      · rintro j σ H6 hj ⟨k6, b, c, rfl⟩
        obtain ⟨pt, xt, y, ey, hpt, evs, ev2, th⟩ := row j hj
        obtain ⟨a1, d1, ga1, ev1⟩ := evs.get (cs_of hx)
        have ev6 : EvP [] H6 a1 (He.ga K x) d1 [(f0, y)] := ev1.mono (fun _ z => z) k6
        have evp : EvP [(pa, po)] H6 a1 (He.ga K x) d1 [(f0, y)] := ev6.mono (fun _ z => nomatch z) (fun _ _ z => z)
        refine ⟨_, rfl, _, rfl, ixAt (k6 _ _ hLL) (atI_nat (by rw [Nat.zero_add] <;> exact ey)) ?_⟩
        refine ⟨_, rfl, ixAt (k6 _ _ hpt) (atI_nat (by rw [Nat.zero_add] <;> exact ga1)) ?_⟩
        refine ⟨_, rfl, _, rfl, a1, d1, _, x, 0 + i, rfl, (by rw [Nat.zero_add] <;> exact nms_of hx), evp, fun H7 k7 => ⟨true, rfl, iteF ?_⟩⟩
        refine ⟨_, rfl, a1, d1, y, x, f0, rfl, hm, evp.mono (fun _ z => z) k7, fun H8 k8 => ?_⟩
        refine ⟨_, rfl, _, rfl, two_ln (by show 2 ≤ 16777216; decide), fun r hr8 => ⟨_, rfl, _, _, rfl, rfl, (by show (0 : Int) < 2; decide), ?_⟩⟩
        have gr := upd_grow (o := .lst [v, u]) hr8
        have ej : ((0 : Int) + (j : Int)) % 2 = ((j % 2 : Nat) : Int) := by omega
        refine ixAt (xs := [v, u]) (v := y) upd_same (by rw [ej]; exact atI_nat ev2) ?_
        refine ⟨y, rfl, th.mono (k6.trans (k7.trans (k8.trans gr))), fun H9 k9 => ⟨true, rfl, iteF ?_⟩⟩
        exact ⟨k6.trans (k7.trans (k8.trans (gr.trans k9))), _, _, rfl⟩
      · rintro σ H6 ⟨k6, b, c, rfl⟩
        exact ⟨k6, _, b, c, rfl⟩
    · rintro σ H5 ⟨k5, a, b, c, rfl⟩
      exact q H5 (all.trans k5)
end
end K00

namespace K00
open PySem PySem.Spec PyProof.Rows L2
abbrev sTwosR : Stmt := top 55
theorem scTwosR : FnScope ["first", "last", "turn", "due", "found", "spot", "told"] ["first", "last"] (defScope sTwosR) := ⟨rfl, rfl, rfl, by decide +kernel, rfl, by decide +kernel, by decide +kernel⟩
theorem nms_of2 {i : Nat} {x f0 g0 : Str} (h : cl2[i]? = some (x, f0, g0)) : nms[34 + i]? = some x := by
  have e : (cl1.map fun q => q.1).length = 34 := rfl
  unfold nms
  rw [List.getElem?_append_right (by rw [e]; omega), e, show 34 + i - 34 = i by omega, List.getElem?_map, h] <;> rfl
theorem cs_of2 {K : PySem.W.Frag} {i : Nat} {x f0 g0 : Str} (h : cl2[i]? = some (x, f0, g0)) : (cs2 K)[i]? = some (He.ga K x, f0, g0) := by
  unfold cs2
  rw [List.getElem?_map, h] <;> rfl
theorem cl2_at {i : Nat} (h : i < 4) : ∃ x f0 g0, cl2[i]? = some (x, f0, g0) := by
  have li : i < cl2.length := h
  exact ⟨_, _, _, List.getElem?_eq_getElem li⟩
section
variable {P : Program} {w : World} {K : PySem.W.Frag} {mg : Str → Option Value} {base : Heap} {f f2 fI fK fT fS : Addr} {fd d2 dI dK dT dS : FuncData}
theorem ok_twosR (F : Fd K "_law_twos_right" sTwosR f fd) (F2 : Fd K "_law_twos" sTwos f2 d2) (C : Cls0 P w K mg base) (B : Blt2 mg) (B1 : Blt mg) (Y : Hot P w K mg base fI fK fT fS dI dK dT dS)
    (g2 : mg "_law_twos" = some (.ref f2)) : FnG P w K mg base 4 f fd ["first", "last"] (spOnes K) := by
  have G2 : FnOk P w K mg base CX0 3 f2 d2 ["one", "other", "way"] (spTwos K) := ok_twos F2 C
  have b2 : Binds K d2 ["one", "other", "way"] [] := F2.bindsN fun _ _ _ _ _ _ us hl => match us, hl with | [_, _, _], _ => rfl
  obtain ⟨pa, po, hpo, hpc⟩ := Y.pin
  have gI := (Y.oI (pa, po)).ok hpo hpc
  have gT := (Y.oT (pa, po)).ok hpo hpc
  have gS := (Y.oS (pa, po)).ok hpo hpc
  refine F.okG scTwosR (fun vs H Q E h => ?_) (fun cdv A outer s H vs Q hgd hr h => ?_)
  · obtain ⟨v, u, rfl, _⟩ := h
    rfl
  · refine ⟨_, pss_cons (ps_for (passes_of rfl) rfl (pi_range1 (by rfl) B.rng (pa_cons pe_int pa_nil)) (pg_name (i := 2) scTwosR.nd rfl (Or.inl rfl))
        (pss_cons (ps_set (i := 3) scTwosR.nd rfl (Or.inl rfl) (pe_ix ix_seq (pe_lst (pa_cons (pe_lst (pa_cons (pv 0) (pa_cons (pv 1) pa_nil))) (pa_cons (pe_lst (pa_cons (pv 1) (pa_cons (pv 0) pa_nil))) pa_nil))) (pe_op op_fdiv (pv 2) pe_int) fun _ _ => rfl))
        (pss_cons (ps_set (i := 4) scTwosR.nd rfl (Or.inl rfl) (pe_call G2 hr (by rfl) g2 F2.kp b2 .nil pass0 (pa_cons (pe_ix ix_seq (pv 3) pe_int fun _ _ => rfl) (pa_cons (pe_ix ix_seq (pv 3) pe_int fun _ _ => rfl)
          (pa_cons (pe_op op_mod (pe_callTy call_int1 (by rfl) B1.int (by decide +kernel) (pa_cons (pv 2) pa_nil)) pe_int) pa_nil)))))
        (pss_one (ps_for (passes_of rfl) rfl (pi_range1 (by rfl) B.rng (pa_cons pe_int pa_nil)) (pg_name (i := 5) scTwosR.nd rfl (Or.inl rfl))
          (pss_cons (ps_set (i := 6) scTwosR.nd rfl (Or.inl rfl) (pe_callG gT hgd (hr.mono (by decide)) (by rfl) Y.gT Y.kT Y.bT (pa_cons (pe_ix ix_seq (pv 4) (pv 5) fun _ _ => rfl) pa_nil)))
          (pss_cons (ps_if (pt_not (pt_val (pe_callG gI hgd (hr.mono (by decide)) (by rfl) Y.gI Y.kI Y.bI (pa_cons (pe_ix ix_seq (pv 4) (pv 5) fun _ _ => rfl) (pa_cons (pe_op op_add pe_int (pv 5)) pa_nil)))))
            (pss_one (ps_ret pe_bl)) pss_nil)
          (pss_one (ps_if (pw_or (pt_not (pt_val (pe_callG gS hgd (hr.mono (by decide)) (by rfl) Y.gS Y.kS Y.bS (pa_cons (pe_ix ix_seq (pv 6) pe_int fun _ _ => rfl) (pa_cons (pe_ix ix_seq (pv 3) pe_int fun _ _ => rfl) pa_nil)))))
              (pw_or1 (pt_not (pt_val (pe_callG gS hgd (hr.mono (by decide)) (by rfl) Y.gS Y.kS Y.bS (pa_cons (pe_ix ix_seq (pv 6) pe_int fun _ _ => rfl) (pa_cons (pe_ix ix_seq (pv 3) pe_int fun _ _ => rfl) pa_nil))))))).pt
            (pss_one (ps_ret pe_bl)) pss_nil)))))))))
      (pss_one (ps_ret pe_bl)), ?_⟩
    obtain ⟨v, u, rfl, tv, tu, q⟩ := h
    refine ⟨8, rfl, by decide, by decide, for_range (n := 8) (fun i σ H' => Same H H' ∧ ∃ a b c d e : Option V, σ = [some v, some u, a, b, c, d, e]) ⟨Same.refl _, none, none, none, none, none, rfl⟩ ?_ ?_⟩
    · rintro i σ H1 hi ⟨k1, a, b, c, d, e, rfl⟩
      refine ⟨_, rfl, _, rfl, two_ln (by show 2 ≤ 16777216; decide), fun r1 hr1 => ?_⟩
      refine ⟨_, rfl, _, rfl, two_ln (by show 2 ≤ 16777216; decide), fun r2 hr2 => ⟨two_ln (by show 2 ≤ 16777216; decide), fun r3 hr3 => ?_⟩⟩
      have g1 := upd_grow (o := .lst [v, u]) hr1
      have g2' := upd_grow (o := .lst [u, v]) hr2
      have g3 := upd_grow (o := .lst [.ref r1, .ref r2]) hr3
      have at1 := (g2'.trans g3) _ _ (upd_same (H := H1) (a := r1) (o := .lst [v, u]))
      have at2 := g3 _ _ (upd_same (H := upd H1 r1 (.lst [v, u])) (a := r2) (o := .lst [u, v]))
      have at3 := upd_same (H := upd (upd H1 r1 (.lst [v, u])) r2 (.lst [u, v])) (a := r3) (o := .lst [.ref r1, .ref r2])
      have gg : Same H1 _ := g1.trans (g2'.trans g3)
      generalize upd (upd (upd H1 r1 (.lst [v, u])) r2 (.lst [u, v])) r3 (.lst [.ref r1, .ref r2]) = H2 at at1 at2 at3 gg ⊢
      -- the pair that is due
      have pick : ∃ (rd : Addr) (x1 x2 : V), ([.ref r1, .ref r2] : List V)[i / 4]? = some (.ref rd) ∧ H2 rd = some (.lst [x1, x2]) ∧ Thing K H2 x1 ∧ Thing K H2 x2 := by
        have tv2 := tv.mono (k1.trans gg)
        have tu2 := tu.mono (k1.trans gg)
        have z : i / 4 = 0 ∨ i / 4 = 1 := by omega
        rcases z with z | z
        · rw [z]
          exact ⟨r1, v, u, rfl, at1, tv2, tu2⟩
        · rw [z]
          exact ⟨r2, u, v, rfl, at2, tu2, tv2⟩
      obtain ⟨rd, x1, x2, erd, hrd, t1, t2⟩ := pick
      have ei : ((0 : Int) + (i : Int)) / 4 = ((i / 4 : Nat) : Int) := by omega
      refine ⟨_, rfl, _, _, rfl, rfl, ⟨by decide, by decide⟩, ixAt at3 (by rw [ei]; exact atI_nat erd) ?_⟩
      refine ⟨_, rfl, ixAt hrd rfl ⟨_, rfl, ixAt hrd rfl ⟨_, rfl, .inl ⟨_, rfl, _, _, rfl, rfl, (by show (0 : Int) < 4; decide), ?_⟩⟩⟩⟩
      refine ⟨x1, x2, _, rfl, fun pf xs H3 k3 evs hpf => ?_⟩
      refine ⟨4, rfl, by decide, by decide, for_range (n := 4) (fun j σ H' => Same H3 H' ∧ ∃ b c : Option V, σ = [some v, some u, some (.int (0 + (i : Int))), some (.ref rd), some (.ref pf), b, c]) ⟨Same.refl _, _, _, rfl⟩ ?_ ?_⟩
      · rintro j σ H4 hj ⟨k4, b, c, rfl⟩
        obtain ⟨x, f0, g0, hx⟩ := cl2_at hj
        have hm := List.mem_of_getElem? hx
        obtain ⟨a1, d1, ga1, ev1⟩ := evs.get (cs_of2 hx)
        have ev4 : EvP [(pa, po)] H4 a1 (He.ga K x) d1 [(g0, x2), (f0, x1)] := ev1.mono (fun _ z => nomatch z) k4
        have hp4 := k4 _ _ hpf
        refine ⟨_, rfl, _, rfl, ixAt hp4 (atI_nat (by rw [Nat.zero_add] <;> exact ga1)) ?_⟩
        refine ⟨a1, d1, x1, x2, x, f0, g0, rfl, hm, ev4, fun tl H5 k5 htl => ?_⟩
        refine ⟨_, rfl, _, rfl, ixAt (k5 _ _ hp4) (atI_nat (by rw [Nat.zero_add] <;> exact ga1)) ⟨_, rfl, _, _, rfl, rfl, ?_⟩⟩
        refine ⟨a1, d1, _, x, 34 + (0 + j), rfl, (by rw [Nat.zero_add] <;> exact nms_of2 hx), ev4.mono (fun _ z => z) k5, fun H6 k6 => ⟨true, rfl, iteF ?_⟩⟩
        have hrd6 := (k3.trans (k4.trans (k5.trans k6))) _ _ hrd
        refine ⟨_, rfl, ixAt (k6 _ _ htl) rfl ⟨_, rfl, ixAt hrd6 rfl ?_⟩⟩
        refine ⟨x1, rfl, t1.mono (k3.trans (k4.trans (k5.trans k6))), fun H7 k7 => ⟨true, rfl, iteF ?_⟩⟩
        refine ⟨_, rfl, ixAt (k7 _ _ (k6 _ _ htl)) rfl ⟨_, rfl, ixAt (k7 _ _ hrd6) rfl ?_⟩⟩
        refine ⟨x2, rfl, t2.mono (k3.trans (k4.trans (k5.trans (k6.trans k7)))), fun H8 k8 => ⟨true, rfl, iteF ?_⟩⟩
        exact ⟨k4.trans (k5.trans (k6.trans (k7.trans k8))), _, _, rfl⟩
      · rintro σ H4 ⟨k4, b, c, rfl⟩
        exact ⟨k1.trans (gg.trans (k3.trans k4)), _, _, _, _, _, rfl⟩
    · rintro σ H1 ⟨k1, a, b, c, d, e, rfl⟩
      exact q H1 k1
end
end K00

namespace L2
open PySem PySem.Spec PyProof.Rows
/-- a list or a dict is none of an exception's objects -/
def Plainly : HO → Prop
  | .lst _ => True
  | .dK _ => True
  | _ => False
theorem EvP.upd {H : Hp} {a C d g : Addr} {fs : List (Str × V)} {o o' : HO} (e : EvP [] H a C d fs) (hg : H g = some o) (ho : Plainly o) : EvP [] (L2.upd H g o') a C d fs := by
  have ne : ∀ {b : Addr} {φ : Heap → Prop}, H b = some (.ext φ) → b ≠ g := fun {b φ} hb => ne_of hb hg (fun z => by rw [← z] at ho; exact ho)
  have nx : ∀ {b : Addr} {fs : List (Str × V)}, H b = some (.xd fs) → b ≠ g := fun {b fs} hb => ne_of hb hg (fun z => by rw [← z] at ho; exact ho)
  refine ⟨?_, ?_⟩
  · rcases e.at_ with h | ⟨oe, h, _⟩
    · exact .inl (by rw [upd_ne (ne h)]; exact h)
    · exact (List.not_mem_nil h).elim
  · rcases e.tab with h | h
    · exact .inl (by rw [upd_ne (ne h)]; exact h)
    · exact .inr (by rw [upd_ne (nx h)]; exact h)
theorem Evs.upd {H : Hp} {g : Addr} {v : V} {xs : List V} {cs : List (Addr × Str)} {o o' : HO} (e : Evs H v xs cs) (hg : H g = some o) (ho : Plainly o) : Evs (L2.upd H g o') v xs cs := by
  induction e with
  | nil => exact .nil
  | cons h _ ih => exact .cons (h.upd hg ho) ih
theorem Evs2.upd {H : Hp} {g : Addr} {v w : V} {xs : List V} {cs : List (Addr × Str × Str)} {o o' : HO} (e : Evs2 H v w xs cs) (hg : H g = some o) (ho : Plainly o) : Evs2 (L2.upd H g o') v w xs cs := by
  induction e with
  | nil => exact .nil
  | cons h _ ih => exact .cons (h.upd hg ho) ih
/-- all but what stands at p is kept -/
def But (p : Addr) (H H' : Hp) : Prop := ∀ b o, b ≠ p → H b = some o → H' b = some o
theorem But.of {p : Addr} {H H' : Hp} (k : Same H H') : But p H H' := fun b o _ e => k b o e
theorem But.trans {p : Addr} {H H1 H2 : Hp} (a : But p H H1) (b : But p H1 H2) : But p H H2 := fun c o hc e => b c o hc (a c o hc e)
theorem But.upd {p : Addr} {H : Hp} {o : HO} : But p H (L2.upd H p o) := fun b u hb e => by
  rw [upd_ne hb]
  exact e
end L2
namespace K00
open PySem PySem.Spec PyProof.Rows L2
abbrev sGrown : Stmt := top 56
theorem scGrown : FnScope ["box", "first", "grown", "table", "kept", "twos", "due", "k", "e"] ["box"] (defScope sGrown) := ⟨rfl, rfl, rfl, by decide +kernel, rfl, by decide +kernel, by decide +kernel⟩
def spGrown : Sp := fun vs H Q _ => ∃ (p : Addr) (xs : List V) (c : Nat), vs = [.ref p] ∧ H p = some (.lst xs) ∧ Box c xs ∧ c < 1000 ∧ ∀ H', But p H H' → Q (.bl true) H'
theorem two_lt {n : Nat} (h : n < 16777216) : n < sizeLine := by
  rw [sizeLine_eq]
  exact h
theorem cs1_len (K : PySem.W.Frag) : (cs1 K).length = 34 := rfl
theorem cs2_len (K : PySem.W.Frag) : (cs2 K).length = 4 := rfl
theorem cs1_at {K : PySem.W.Frag} {k : Nat} (h : k < 68) : ∃ x f0, (x, f0) ∈ cl1 ∧ (cs1 K ++ cs1 K)[k]? = some (He.ga K x, f0) := by
  by_cases z : k < 34
  · obtain ⟨x, f0, e⟩ := cl1_at z
    refine ⟨x, f0, List.mem_of_getElem? e, ?_⟩
    rw [List.getElem?_append_left (by rw [cs1_len]; exact z)]
    exact cs_of e
  · obtain ⟨x, f0, e⟩ := cl1_at (i := k - 34) (by omega)
    refine ⟨x, f0, List.mem_of_getElem? e, ?_⟩
    rw [List.getElem?_append_right (by rw [cs1_len]; omega), cs1_len]
    exact cs_of e
theorem cs2_at {K : PySem.W.Frag} {k : Nat} (h : k < 16) : ∃ x f0 g0, (x, f0, g0) ∈ cl2 ∧ (cs2 K ++ cs2 K ++ cs2 K ++ cs2 K)[k]? = some (He.ga K x, f0, g0) := by
  have go : ∀ j, j < 4 → ∃ x f0 g0, (x, f0, g0) ∈ cl2 ∧ (cs2 K)[j]? = some (He.ga K x, f0, g0) := fun j hj => by
    obtain ⟨x, f0, g0, e⟩ := cl2_at hj
    exact ⟨x, f0, g0, List.mem_of_getElem? e, cs_of2 e⟩
  have l1 := cs2_len K
  have l2 : (cs2 K ++ cs2 K).length = 8 := rfl
  have l3 : (cs2 K ++ cs2 K ++ cs2 K).length = 12 := rfl
  by_cases z3 : k < 12
  · rw [List.getElem?_append_left (by omega)]
    by_cases z2 : k < 8
    · rw [List.getElem?_append_left (by omega)]
      by_cases z1 : k < 4
      · rw [List.getElem?_append_left (by omega)]
        exact go k z1
      · rw [List.getElem?_append_right (by omega), l1]
        exact go _ (by omega)
    · rw [List.getElem?_append_right (by omega), l2]
      exact go _ (by omega)
  · rw [List.getElem?_append_right (by omega), l3]
    exact go _ (by omega)
theorem merge_one {x : V} : mergeK [] [((.inr "a" : Key), x)] = [(.inr "a", x)] := putK_nil
theorem put_more {x y : V} : putK [((Sum.inr "a" : Key), x)] (Sum.inr "more" : Key) y = [((Sum.inr "a" : Key), x), ((Sum.inr "more" : Key), y)] := putK_new y rfl
theorem merge_two {x y : V} : mergeK [] [((.inr "a" : Key), x), (.inr "more", y)] = [(.inr "a", x), (.inr "more", y)] := by
  show putK (putK [] (Sum.inr "a" : Key) x) (Sum.inr "more" : Key) y = _
  rw [putK_nil, put_more]
section
variable {P : Program} {w : World} {K : PySem.W.Frag} {mg : Str → Option Value} {base : Heap} {f f2 fP fN fA fI fK fT fS : Addr} {fd d2 dP dN dA dI dK dT dS : FuncData}
theorem ok_grown (F : Fd K "_law_grown_right" sGrown f fd) (F2 : Fd K "_law_twos" sTwos f2 d2) (FP : Fd K "_law_by_place" sPlace fP dP) (FN : Fd K "_law_by_name" sName fN dN) (FA : Fd K "_law_take" sTake fA dA)
    (C : Cls0 P w K mg base) (B : Blt2 mg) (B1 : Blt mg) (Y : Hot P w K mg base fI fK fT fS dI dK dT dS) (g2 : mg "_law_twos" = some (.ref f2)) (gP : mg "_law_by_place" = some (.ref fP)) (gN : mg "_law_by_name" = some (.ref fN)) (gA : mg "_law_take" = some (.ref fA)) :
    FnG P w K mg base 4 f fd ["box"] spGrown := by
  have G2 : FnOk P w K mg base CX0 3 f2 d2 ["one", "other", "way"] (spTwos K) := ok_twos F2 C
  have GP : FnOk P w K mg base CX0 3 fP dP ["thing"] (spPlace K) := ok_place FP C
  have GN : FnOk P w K mg base CX0 3 fN dN ["thing"] (spPlace K) := ok_name FN C
  have GA : FnOk P w K mg base CX0 1 fA dA ["box", "many"] spTake := ok_take FA B1
  have b2 : Binds K d2 ["one", "other", "way"] [] := F2.bindsN fun _ _ _ _ _ _ us hl => match us, hl with | [_, _, _], _ => rfl
  have bP : Binds K dP ["thing"] [] := FP.bindsN fun _ _ _ _ _ _ us hl => match us, hl with | [_], _ => rfl
  have bN : Binds K dN ["thing"] [] := FN.bindsN fun _ _ _ _ _ _ us hl => match us, hl with | [_], _ => rfl
  have bA : Binds K dA ["box", "many"] [] := FA.bindsN fun _ _ _ _ _ _ us hl => match us, hl with | [_, _], _ => rfl
  obtain ⟨pa, po, hpo, hpc⟩ := Y.pin
  have gK := (Y.oK (pa, po)).ok hpo hpc
  have gT := (Y.oT (pa, po)).ok hpo hpc
  refine F.okG scGrown (fun vs H Q E h => ?_) (fun cdv A outer s H vs Q hgd hr h => ?_)
  · obtain ⟨p, xs, c, rfl, _⟩ := h
    rfl
  · have hu : (cxOf CX0 P w K mg base ["box", "first", "grown", "table", "kept", "twos", "due", "k", "e"] "_law_grown_right" (defScope sGrown) f cdv A outer s H noE).A.units + 64 < cLine := by
      have z := hr.un
      show (A.deeper _).units + 64 < cLine
      omega
    refine ⟨_, pss_cons (ps_set (i := 1) scGrown.nd rfl (Or.inl rfl) (pe_call GA (hr.mono (by decide)) (by rfl) gA FA.kp bA .nil pass0 (pa_cons (pv 0) (pa_cons pe_int pa_nil))))
      (pss_cons (ps_par (i := 2) (j := 3) rfl scGrown.nd rfl rfl (by decide) rfl rfl (pa_cons (pe_lst (pa_cons (pv 1) pa_nil)) (pa_cons (pe_disp (pps_cons pe_str (pv 1) pps_nil) rfl rfl (by simp) (by decide)) pa_nil)) rfl)
      (pss_cons (ps_set (i := 4) scGrown.nd rfl (Or.inr rfl) (pe_op op_cat (pe_op op_cat (pe_op op_cat (pe_call GP hr (by rfl) gP FP.kp bP .nil pass0 (pa_cons (pv 2) pa_nil)) (pe_call GN hr (by rfl) gN FN.kp bN .nil pass0 (pa_cons (pv 2) pa_nil)))
          (pe_call GP hr (by rfl) gP FP.kp bP .nil pass0 (pa_cons (pv 3) pa_nil))) (pe_call GN hr (by rfl) gN FN.kp bN .nil pass0 (pa_cons (pv 3) pa_nil))))
      (pss_cons (ps_set (i := 5) scGrown.nd rfl (Or.inl rfl) (pe_op op_cat (pe_op op_cat (pe_call G2 hr (by rfl) g2 F2.kp b2 .nil pass0 (pa_cons (pv 2) (pa_cons (pv 3) (pa_cons pe_int pa_nil)))) (pe_call G2 hr (by rfl) g2 F2.kp b2 .nil pass0 (pa_cons (pv 2) (pa_cons (pv 3) (pa_cons pe_int pa_nil)))))
          (pe_call G2 hr (by rfl) g2 F2.kp b2 .nil pass0 (pa_cons (pv 2) (pa_cons (pv 3) (pa_cons pe_int pa_nil))))))
      (pss_cons (ps_set (i := 5) scGrown.nd rfl (Or.inl rfl) (pe_op op_cat (pv 5) (pe_call G2 hr (by rfl) g2 F2.kp b2 .nil pass0 (pa_cons (pv 2) (pa_cons (pv 3) (pa_cons pe_int pa_nil))))))
      (pss_cons (ps_expr (pe_bm PySem.F.plainAttrs_list PySem.F.slot_list_append PySem.F.type_list_append mt_append (pv 2) (pa_cons pe_str pa_nil)))
      (pss_cons (ps_dput (hu_of hr) (pv 3) pe_str pe_int rfl)
      (pss_cons (ps_set (i := 6) scGrown.nd rfl (Or.inr rfl) (pe_lst (pa_cons (pe_lst (pa_cons (pv 1) (pa_cons pe_str pa_nil))) (pa_cons (pe_disp (pps_cons pe_str (pv 1) (pps_cons pe_str pe_int pps_nil)) rfl rfl (by simp) (by decide)) pa_nil))))
      (pss_cons (ps_if (pt_cmpR (op_neV hu) (pe_lc (own := [("k", 7)]) (g := gName 7) rfl scGrown.nd (pi_range1 (by rfl) B.rng (pa_cons pe_int pa_nil))
            (blkOk_by (N := ["box", "first", "grown", "table", "kept", "twos", "due", "k", "e"]) (sc := defScope sGrown) (by decide +kernel)) (fun _ _ _ _ _ => pg_name (i := 7) scGrown.nd rfl (Or.inl rfl))
            (fun _ _ _ _ _ => pts_one (pt_cmpR (r := fun x y H Q => rNeV K x y H Q ∨ rNeDA x y H Q) ((op_neV (by exact hu)).or (op_ne_dictA (by exact Nat.lt_of_le_of_lt (Nat.le_add_right _ 64) hu))) (pe_callG gK hgd (hr.mono (by decide)) (by rfl) Y.gK Y.kK Y.bK (pa_cons (pe_ix (r := rIx K) ix_seq (pv 4) (pv 7) fun _ _ => rfl) pa_nil))
              (pe_ix (r := rIx K) ix_seq (pv 6) (pe_op op_fdiv (pv 7) pe_int) fun _ _ => rfl) (nomark _))) (fun _ _ _ _ _ => pv 7)) (pe_lst pa_nil) (nomark _))
          (pss_one (ps_ret pe_bl)) pss_nil)
      (pss_one (ps_ret (pe_cmpR (op_eqV hu) (pe_lc (own := [("e", 8)]) (g := gName 8) rfl scGrown.nd (pi_list (pv 5))
            (blkOk_by (N := ["box", "first", "grown", "table", "kept", "twos", "due", "k", "e"]) (sc := defScope sGrown) (by decide +kernel)) (fun _ _ _ _ _ => pg_name (i := 8) scGrown.nd rfl (Or.inl rfl))
            (fun _ _ _ _ _ => pts_one (pt_cmpR (r := rNeV K) (op_neV (by exact hu)) (pe_callG gT hgd (hr.mono (by decide)) (by rfl) Y.gT Y.kT Y.bT (pa_cons (pv 8) pa_nil)) (pv 6) (nomark _))) (fun _ _ _ _ _ => pv 8)) (pe_lst pa_nil) (nomark _)))))))))))), ?_⟩
    obtain ⟨p, xs, c, rfl, hp, hb, hc, q⟩ := h
    refine ⟨_, rfl, p, 9, xs, c, rfl, hp, hb, hc, by decide, by decide, fun n ys n0 n1 hb2 => ?_⟩
    have b0 : But p H (upd H p (.lst ys)) := But.upd
    generalize upd H p (.lst ys) = H0 at b0 ⊢
    -- grown, table
    refine ⟨_, rfl, two_ln (by show 1 ≤ 16777216; decide), fun gr hgr => fun tb htb => ⟨_, rfl, upd_same, [(.inr "a", .int n)], rfl, (by show 1 ≤ 15; decide), _, _, rfl, ?_⟩⟩
    have nb : ∀ b o, b ≠ p → H b = some o → b ≠ gr ∧ b ≠ tb := fun b o h1 h2 => ⟨ne_of_none (b0 b o h1 h2) hgr, ne_of_none (upd_grow hgr _ _ (b0 b o h1 h2)) htb⟩
    rw [upd_upd, merge_one]
    have s1 : Same H0 (upd (upd H0 gr (.lst [.int n])) tb (.dK [(.inr "a", .int n)])) := (upd_grow hgr).trans (upd_grow htb)
    have hg1 : upd (upd H0 gr (.lst [.int n])) tb (.dK [(.inr "a", .int n)]) gr = some (.lst [.int n]) := upd_grow htb _ _ upd_same
    have ht1 : upd (upd H0 gr (.lst [.int n])) tb (.dK [(.inr "a", .int n)]) tb = some (.dK [(.inr "a", .int n)]) := upd_same
    generalize upd (upd H0 gr (.lst [.int n])) tb (.dK [(.inr "a", .int n)]) = H1 at s1 hg1 ht1 ⊢
    have b1 := b0.trans (But.of s1)
    -- kept
    have cl := cs1_len K
    refine ⟨_, rfl, .ref gr, rfl, fun p0 x0 H2 k2 e0 h0 => ⟨_, rfl, .ref gr, rfl, fun p1 x1 H3 k3 e1 h1 => ?_⟩⟩
    refine ⟨p0, p1, x0, x1, rfl, rfl, k3 _ _ h0, h1, two_ln (by rw [e0.length, e1.length]; omega), fun r1 hr1 => ?_⟩
    have k4 := upd_grow (o := .lst (x0 ++ x1)) hr1
    have h4 := upd_same (H := H3) (a := r1) (o := .lst (x0 ++ x1))
    have E1 := ((e0.mono k3).append e1).mono k4
    generalize upd H3 r1 (.lst (x0 ++ x1)) = H4 at k4 h4 E1 ⊢
    refine ⟨_, rfl, .ref tb, rfl, fun p2 x2 H5 k5 e2 h5 => ?_⟩
    refine ⟨r1, p2, _, x2, rfl, rfl, k5 _ _ h4, h5, two_ln (by rw [E1.length, e2.length, List.length_append]; omega), fun r2 hr2 => ?_⟩
    have k6 := upd_grow (o := .lst (x0 ++ x1 ++ x2)) hr2
    have h6 := upd_same (H := H5) (a := r2) (o := .lst (x0 ++ x1 ++ x2))
    have e2' := e2.mono k6
    generalize upd H5 r2 (.lst (x0 ++ x1 ++ x2)) = H6 at k6 h6 e2' ⊢
    refine ⟨_, rfl, .ref tb, rfl, fun p3 x3 H7 k7 e3 h7 => ?_⟩
    refine ⟨r2, p3, _, x3, rfl, rfl, k7 _ _ h6, h7, two_ln (by rw [List.length_append, E1.length, e2.length, e3.length, List.length_append]; omega), fun r3 hr3 => ?_⟩
    have nKg : gr ≠ r3 ∧ tb ≠ r3 := ⟨ne_of_none ((k2.trans (k3.trans (k4.trans (k5.trans (k6.trans k7))))) _ _ hg1) hr3, ne_of_none ((k2.trans (k3.trans (k4.trans (k5.trans (k6.trans k7))))) _ _ ht1) hr3⟩
    have k8 := upd_grow (o := .lst (x0 ++ x1 ++ x2 ++ x3)) hr3
    have h8 := upd_same (H := H7) (a := r3) (o := .lst (x0 ++ x1 ++ x2 ++ x3))
    have E1' := E1.mono (k5.trans (k6.trans (k7.trans k8)))
    have E2 := ((e2'.mono k7).append e3).mono k8
    have hg8 := (k2.trans (k3.trans (k4.trans (k5.trans (k6.trans (k7.trans k8)))))) _ _ hg1
    have ht8 := (k2.trans (k3.trans (k4.trans (k5.trans (k6.trans (k7.trans k8)))))) _ _ ht1
    have b8 := b1.trans (But.of (k2.trans (k3.trans (k4.trans (k5.trans (k6.trans (k7.trans k8)))))))
    generalize upd H7 r3 (.lst (x0 ++ x1 ++ x2 ++ x3)) = H8 at k8 h8 E1' E2 hg8 ht8 b8 ⊢
    -- twos
    have c2l := cs2_len K
    refine ⟨_, rfl, _, rfl, .ref gr, .ref tb, _, rfl, fun q0 y0 H9 k9 f0 g0 => ⟨_, rfl, _, rfl, .ref gr, .ref tb, _, rfl, fun q1 y1 H10 k10 f1 g1 => ?_⟩⟩
    refine ⟨q0, q1, y0, y1, rfl, rfl, k10 _ _ g0, g1, two_ln (by rw [f0.length, f1.length]; omega), fun r4 hr4 => ?_⟩
    have k11 := upd_grow (o := .lst (y0 ++ y1)) hr4
    have h11 := upd_same (H := H10) (a := r4) (o := .lst (y0 ++ y1))
    have G1 := ((f0.mono k10).append f1).mono k11
    generalize upd H10 r4 (.lst (y0 ++ y1)) = H11 at k11 h11 G1 ⊢
    refine ⟨_, rfl, _, rfl, .ref gr, .ref tb, _, rfl, fun q2 y2 H12 k12 f2' g2' => ?_⟩
    refine ⟨r4, q2, _, y2, rfl, rfl, k12 _ _ h11, g2', two_ln (by rw [G1.length, f2'.length, List.length_append]; omega), fun r5 hr5 => ?_⟩
    have k13 := upd_grow (o := .lst (y0 ++ y1 ++ y2)) hr5
    have h13 := upd_same (H := H12) (a := r5) (o := .lst (y0 ++ y1 ++ y2))
    have G2' := ((G1.mono k12).append f2').mono k13
    generalize upd H12 r5 (.lst (y0 ++ y1 ++ y2)) = H13 at k13 h13 G2' ⊢
    refine ⟨_, rfl, _, rfl, _, rfl, .ref gr, .ref tb, _, rfl, fun q3 y3 H14 k14 f3 g3 => ?_⟩
    refine ⟨r5, q3, _, y3, rfl, rfl, k14 _ _ h13, g3, two_ln (by rw [G2'.length, f3.length, List.length_append, List.length_append]; omega), fun r6 hr6 => ?_⟩
    have nWg : gr ≠ r6 ∧ tb ≠ r6 := ⟨ne_of_none ((k9.trans (k10.trans (k11.trans (k12.trans (k13.trans k14))))) _ _ hg8) hr6, ne_of_none ((k9.trans (k10.trans (k11.trans (k12.trans (k13.trans k14))))) _ _ ht8) hr6⟩
    have k15 := upd_grow (o := .lst (y0 ++ y1 ++ y2 ++ y3)) hr6
    have h15 := upd_same (H := H14) (a := r6) (o := .lst (y0 ++ y1 ++ y2 ++ y3))
    have kk : Same H8 _ := k9.trans (k10.trans (k11.trans (k12.trans (k13.trans (k14.trans k15)))))
    have G3 := ((G2'.mono k14).append f3).mono k15
    have E1t := E1'.mono kk
    have E2t := E2.mono kk
    have hK := kk _ _ h8
    have hg15 := kk _ _ hg8
    have ht15 := kk _ _ ht8
    have b15 := b8.trans (But.of kk)
    generalize upd H14 r6 (.lst (y0 ++ y1 ++ y2 ++ y3)) = H15 at kk h15 G3 E1t E2t hK hg15 ht15 b15 ⊢
    have ngt : gr ≠ tb := ne_of hg15 ht15 (by intro z; cases z)
    -- grown.append("more")
    refine ⟨_, rfl, .inl ⟨rfl, _, .inl (.inl hg15)⟩, gr, _, _, rfl, rfl, hg15, two_lt (by show 1 < 16777216; decide), ?_⟩
    have E1u := E1t.upd (o' := .lst ([.int n] ++ [.str "more"])) hg15 True.intro
    have E2u := E2t.upd (o' := .lst ([.int n] ++ [.str "more"])) hg15 True.intro
    have G3u := G3.upd (o' := .lst ([.int n] ++ [.str "more"])) hg15 True.intro
    have hK2 : upd H15 gr (.lst ([.int n] ++ [.str "more"])) r3 = _ := (upd_ne nKg.1.symm).trans hK
    have hW2 : upd H15 gr (.lst ([.int n] ++ [.str "more"])) r6 = _ := (upd_ne nWg.1.symm).trans h15
    have ht2 : upd H15 gr (.lst ([.int n] ++ [.str "more"])) tb = _ := (upd_ne ngt.symm).trans ht15
    have hg2 : upd H15 gr (.lst ([.int n] ++ [.str "more"])) gr = _ := upd_same
    have b16 : But p H (upd H15 gr (.lst ([.int n] ++ [.str "more"]))) := fun b o h1 h2 => (upd_ne (nb b o h1 h2).1).trans (b15 b o h1 h2)
    generalize upd H15 gr (.lst ([.int n] ++ [.str "more"])) = H16 at E1u E2u G3u hK2 hW2 ht2 hg2 b16 ⊢
    -- table["more"] = 1
    refine ⟨_, rfl, tb, _, rfl, DPut.k (k := .inr "more") ht2 (two_lt (by show 1 < 16777216; decide)), ?_⟩
    rw [put_more]
    have E1v := E1u.upd (o' := .dK [(.inr "a", .int n), (.inr "more", .int 1)]) ht2 True.intro
    have E2v := E2u.upd (o' := .dK [(.inr "a", .int n), (.inr "more", .int 1)]) ht2 True.intro
    have G3v := G3u.upd (o' := .dK [(.inr "a", .int n), (.inr "more", .int 1)]) ht2 True.intro
    have hK3 : upd H16 tb (.dK [(.inr "a", .int n), (.inr "more", .int 1)]) r3 = _ := (upd_ne nKg.2.symm).trans hK2
    have hW3 : upd H16 tb (.dK [(.inr "a", .int n), (.inr "more", .int 1)]) r6 = _ := (upd_ne nWg.2.symm).trans hW2
    have hg3 : upd H16 tb (.dK [(.inr "a", .int n), (.inr "more", .int 1)]) gr = _ := (upd_ne ngt).trans hg2
    have ht3 : upd H16 tb (.dK [(.inr "a", .int n), (.inr "more", .int 1)]) tb = _ := upd_same
    have b17 : But p H (upd H16 tb (.dK [(.inr "a", .int n), (.inr "more", .int 1)])) := fun b o h1 h2 => (upd_ne (nb b o h1 h2).2).trans (b16 b o h1 h2)
    generalize upd H16 tb (.dK [(.inr "a", .int n), (.inr "more", .int 1)]) = H17 at E1v E2v G3v hK3 hW3 hg3 ht3 b17 ⊢
    -- due
    refine ⟨_, rfl, two_ln (by show 2 ≤ 16777216; decide), fun d0 hd0 => fun d1 hd1 => ⟨_, rfl, upd_same, [(.inr "a", .int n), (.inr "more", .int 1)], rfl, (by show 2 ≤ 15; decide), two_ln (by show 2 ≤ 16777216; decide), fun d2 hd2 => ?_⟩⟩
    rw [upd_upd, merge_two] at hd2 ⊢
    have k18 : Same H17 _ := (upd_grow (o := .lst [.int n, .str "more"]) hd0).trans ((upd_grow (o := .dK [(.inr "a", .int n), (.inr "more", .int 1)]) hd1).trans (upd_grow (o := .lst [.ref d0, .ref d1]) hd2))
    have q0' := upd_grow (o := .lst [.ref d0, .ref d1]) hd2 _ _ (upd_grow (o := .dK [(.inr "a", .int n), (.inr "more", .int 1)]) hd1 _ _ (upd_same (H := H17) (a := d0) (o := .lst [.int n, .str "more"])))
    have q1' := upd_grow (o := .lst [.ref d0, .ref d1]) hd2 _ _ (upd_same (H := upd H17 d0 (.lst [.int n, .str "more"])) (a := d1) (o := .dK [(.inr "a", .int n), (.inr "more", .int 1)]))
    have q2' := upd_same (H := upd (upd H17 d0 (.lst [.int n, .str "more"])) d1 (.dK [(.inr "a", .int n), (.inr "more", .int 1)])) (a := d2) (o := .lst [.ref d0, .ref d1])
    generalize upd (upd (upd H17 d0 (.lst [.int n, .str "more"])) d1 (.dK [(.inr "a", .int n), (.inr "more", .int 1)])) d2 (.lst [.ref d0, .ref d1]) = H18 at k18 q0' q1' q2' ⊢
    have F1 := E1v.mono k18
    have F2w := E2v.mono k18
    have F3 := G3v.mono k18
    have hK4 := k18 _ _ hK3
    have hW4 := k18 _ _ hW3
    have hg4 := k18 _ _ hg3
    have ht4 := k18 _ _ ht3
    have b18 := b17.trans (But.of k18)
    refine ⟨136, rfl, by decide, by decide, fun D hD => lc_range (n := 136) (fun i H' => Same H18 H' ∧ H' D = some (.lst [])) ⟨upd_grow hD, upd_same⟩ ?_ ?_⟩
    · intro i H19 hi ⟨k19, h19⟩
      -- the i-th of the kept
      have it : ∃ (a1 d3 : Addr) (y : V) (x f0 : Str) (dd : Addr), (x0 ++ x1 ++ x2 ++ x3)[i]? = some (.ref a1) ∧ (x, f0) ∈ cl1 ∧ EvP [] H19 a1 (He.ga K x) d3 [(f0, y)] ∧ ([.ref d0, .ref d1] : List V)[i / 68]? = some (.ref dd) ∧
          (∀ H', Same H19 H' → rNeV K y (.ref dd) H' (fun v _ => v = .bl false) ∨ rNeDA y (.ref dd) H' (fun v _ => v = .bl false)) := by
        have la : (x0 ++ x1).length = 68 := by rw [F1.length] <;> rfl
        by_cases z : i < 68
        · obtain ⟨x, f0, hm, e⟩ := cs1_at (K := K) z
          obtain ⟨a1, d3, ga1, ev1⟩ := F1.get e
          refine ⟨a1, d3, .ref gr, x, f0, d0, ?_, hm, ev1.mono (fun _ z => z) k19, ?_, fun H' k' => .inl ⟨1, gr, d0, _, _, by decide, rfl, rfl, SqL.of (k' _ _ (k19 _ _ hg4)), SqL.of (k' _ _ (k19 _ _ q0')), .cons (.inl ⟨rfl, rfl⟩) (.cons (.inl ⟨rfl, rfl⟩) .nil), rfl⟩⟩
          · rw [List.append_assoc, List.getElem?_append_left (by omega)]
            exact ga1
          · rw [show i / 68 = 0 by omega] <;> rfl
        · obtain ⟨x, f0, hm, e⟩ := cs1_at (K := K) (k := i - 68) (by omega)
          obtain ⟨a1, d3, ga1, ev1⟩ := F2w.get e
          refine ⟨a1, d3, .ref tb, x, f0, d1, ?_, hm, ev1.mono (fun _ z => z) k19, ?_, fun H' k' => .inr ⟨tb, d1, _, _, rfl, rfl, k' _ _ (k19 _ _ ht4), k' _ _ (k19 _ _ q1'), rfl, fun q hq => ?_, rfl⟩⟩
          · rw [List.append_assoc, List.getElem?_append_right (by omega), la]
            exact ga1
          · rw [show i / 68 = 1 by omega] <;> rfl
          · rcases List.mem_cons.mp hq with rfl | hq
            · exact ⟨rfl, rfl⟩
            · rcases List.mem_cons.mp hq with rfl | hq
              · exact ⟨rfl, rfl⟩
              · cases hq
      obtain ⟨a1, d3, y, x, f0, dd, ga1, hm, ev1, ed, cmp⟩ := it
      refine ⟨rfl, _, rfl, _, rfl, ixAt (k19 _ _ hK4) (atI_nat (by rw [Nat.zero_add] <;> exact ga1)) ?_⟩
      refine ⟨a1, d3, y, x, f0, rfl, hm, ev1.mono (fun _ z => nomatch z) (fun _ _ z => z), fun H20 k20 => ?_⟩
      have ei : ((0 : Int) + (i : Int)) / 68 = ((i / 68 : Nat) : Int) := by omega
      refine ⟨_, rfl, _, rfl, _, _, rfl, rfl, ⟨by decide, by decide⟩, ixAt (k20 _ _ (k19 _ _ q2')) (by rw [ei]; exact atI_nat ed) ?_⟩
      have fin : Same H18 H20 ∧ H20 D = some (.lst []) := ⟨k19.trans k20, k20 _ _ h19⟩
      rcases cmp H20 k20 with h | h
      · obtain ⟨m, a, b, xs, ys, hm, e1, e2, s1, s2, pr, _⟩ := h
        exact .inl ⟨m, a, b, xs, ys, hm, e1, e2, s1, s2, pr, false, rfl, iteF fin⟩
      · obtain ⟨a, b, ks, ls, e1, e2, h1, h2, hl, hp, _⟩ := h
        exact .inr ⟨a, b, ks, ls, e1, e2, h1, h2, hl, hp, false, rfl, iteF fin⟩
    · intro H19 ⟨k19, h19⟩
      refine ⟨two_ln (by show 0 ≤ 16777216; decide), fun e0 he0 => ⟨1, D, e0, [], [], by decide, rfl, rfl, SqL.of (upd_grow he0 _ _ h19), SqL.of upd_same, .nil, false, rfl, iteF ?_⟩⟩
      have k20 : Same H18 (upd H19 e0 (.lst [])) := k19.trans (upd_grow he0)
      generalize upd H19 e0 (.lst []) = H20 at k20
      refine ⟨_, rfl, _, rfl, ⟨_, SqL.of (k20 _ _ hW4)⟩, fun D2 hD2 => lc_list (K := K) (xs := y0 ++ y1 ++ y2 ++ y3) (fun i H' => Same H20 H' ∧ H' D2 = some (.lst [])) ⟨upd_grow hD2, upd_same⟩ (fun _ H' _ ⟨z, _⟩ => SqL.of (z _ _ (k20 _ _ hW4))) ?_ ?_⟩
      · intro i x H21 hx ⟨k21, h21⟩
        have hi : i < 16 := by
          have z := List.getElem?_eq_some_iff.mp hx |>.1
          rw [F3.length] at z
          have l16 : (cs2 K ++ cs2 K ++ cs2 K ++ cs2 K).length = 16 := rfl
          omega
        obtain ⟨C1, f0, g0, hm, e⟩ := cs2_at (K := K) hi
        obtain ⟨a1, d3, ga1, ev1⟩ := F3.get e
        obtain rfl : x = .ref a1 := Option.some.inj (hx.symm.trans ga1)
        have k1821 : Same H18 H21 := k20.trans k21
        refine ⟨rfl, _, rfl, a1, d3, .ref gr, .ref tb, C1, f0, g0, rfl, hm, ev1.mono (fun _ z => nomatch z) k1821, fun rq H22 k22 hq => ?_⟩
        have k1822 : Same H18 H22 := k1821.trans k22
        refine ⟨_, rfl, 2, rq, d2, [.ref gr, .ref tb], [.ref d0, .ref d1], by decide, rfl, rfl, SqL.of hq, SqL.of (k1822 _ _ q2'), ?_, false, rfl, iteF ⟨k21.trans k22, k22 _ _ h21⟩⟩
        refine .cons (.inr (.inr (.inl ⟨gr, d0, _, _, rfl, rfl, SqL.of (k1822 _ _ hg4), SqL.of (k1822 _ _ q0'), ?_⟩))) (.cons (.inr (.inr (.inr ⟨tb, d1, _, _, rfl, rfl, k1822 _ _ ht4, k1822 _ _ q1', rfl, fun q hq => ?_⟩))) .nil)
        · exact .cons (.inl ⟨rfl, rfl⟩) (.cons (.inl ⟨rfl, rfl⟩) .nil)
        · rcases List.mem_cons.mp hq with rfl | hq
          · exact ⟨_, rfl, .inl ⟨rfl, rfl⟩⟩
          · rcases List.mem_cons.mp hq with rfl | hq
            · exact ⟨_, rfl, .inl ⟨rfl, rfl⟩⟩
            · cases hq
      · intro H21 ⟨k21, h21⟩
        refine ⟨two_ln (by show 0 ≤ 16777216; decide), fun e1 he1 => ⟨1, by decide, .inl ⟨D2, e1, [], [], rfl, rfl, SqL.of (upd_grow he1 _ _ h21), SqL.of upd_same, .nil⟩, q _ (b18.trans (But.of (k20.trans (k21.trans (upd_grow he1)))))⟩⟩
end
end K00

/-! raise C(..), a class with an __init__ of its own, values by name too -/
namespace L2
open PySem PySem.Spec PyProof.Rows
/-- what is asked of C(..) that is raised -/
def tMkN (C : Addr) (n m : Nat) (sp : Sp) (gV : List V → List V → List V) (t tk : TA) : St → Hp → XK → Prop := fun σ H Q =>
  t σ H fun vs H1 => tk σ H1 fun zs H2 => vs.length = n ∧ zs.length = m ∧ ∀ a, H2 a = none → sp (gV (.ref a :: vs) zs) (upd H2 a (exo a C none))
    (fun v H3 => v = .non ∧ ∃ (d : Addr) (fs : List (Str × V)), H3 a = some (exo a C (some d)) ∧ H3 d = some (exd d fs) ∧ H2 d = none ∧ Q (.ref C) (some d) (upd (del H3 a) d (.xd fs))) fun _ _ _ => False
section
variable {X : Cx} {CX : CXT} {k n : Nat} {C fI : Addr} {fd : FuncData} {ps ks : List Str} {sp : Sp} {x : Str} {p pos : Pos}
variable {e : Expr} {es : List Expr} {kws : List Keyword} {t tk : TA} {g : List Value → List Value → List Value} {gV : List V → List V → List V}
theorem run_mkN {pins : List Pin} {σ : St} {H : Hp} {s : Shared} {Q : XK} {us ws : List Value} {vs zs : List V} (T : OexC X.K C)
    (iC : PySem.W.findIn X.K (.ref C) "__init__" = some (some (.ref fI))) (tI : PySem.W.typeIn X.K (.ref fI) = some (.type "function"))
    (F : FnOk X.prog X.w X.K X.mg X.base CX k fI fd ps sp) (hr : Room (k + 1) X.A) (hb : KBn X.K fd ps (n + 1) ks g gV)
    (hx : Passes CX X fun _ _ _ => False) (I : Inv X pins σ H s) (r : Vals vs us) (rz : Vals zs ws) (l1 : vs.length = n)
    (l2 : zs.length = ks.length) (hn : n ≤ 1000)
    (h : ∀ a, H a = none → sp (gV (.ref a :: vs) zs) (upd H a (exo a C none)) (fun v H3 => v = .non ∧ ∃ (d : Addr) (fs : List (Str × V)), H3 a = some (exo a C (some d)) ∧ H3 d = some (exd d fs) ∧ H d = none ∧ Q (.ref C) (some d) (upd (del H3 a) d (.xd fs))) fun _ _ _ => False) :
    wpAny (model X.prog X.w) X.A (call (.ref C) us (ks.zip ws)) (L2N.MkP X pins σ Q) X.xe s := by
  obtain ⟨nm, q, N, bs, bm, sn, sub, ab, col, dd, k0, k1, k2, k3, k5, hC, hbm⟩ := T.cls
  obtain ⟨hp, gs, dr, tk0, os⟩ := s
  have le1 : hp.objs.size ≤ hp.objs.size + 1 := Nat.le_succ _
  have hq := h (hp.objs.size + 1) (I.hok.fresh le1)
  have up : ∀ b o, hp.get? b = some o → (PySem.MlE.withNew hp C us).get? b = some o :=
    fun b o e => Heap.get?_push_of_some _ (Heap.get?_push_of_some _ e)
  have atE : (PySem.MlE.withNew hp C us).get? (hp.objs.size + 1) = some (PySem.HandSPX.excO C hp.objs.size) := by heap_get
  have I2 : Inv X pins σ (upd H (hp.objs.size + 1) (exo (hp.objs.size + 1) C none)) ⟨PySem.MlE.withNew hp C us, gs, dr, tk0, os⟩ :=
    I.laid (t' := tk0) (a := hp.objs.size + 1) (o := exo (hp.objs.size + 1) C none) (h' := PySem.MlE.withNew hp C us) up le1 (exo_ok atE)
  have r1 : Vals (V.ref (hp.objs.size + 1) :: vs) (Value.ref (hp.objs.size + 1) :: us) := .cons rfl r
  have r2 := hb.rel r1 rz
  have e1 : (Value.ref (hp.objs.size + 1) :: us).length = n + 1 := r1.length.symm.trans (congrArg Nat.succ l1)
  have e2 : ws.length = ks.length := rz.length.symm.trans l2
  have hus : us.length ≤ sizeLine := by
    have z := r.length
    rw [sizeLine_eq]
    omega
  refine wpAny_call (PySem.MlE.callK PySem.F.excBase_ValueError (fun Y => PySem.HandSPX.refsVE_contains Y bm hbm)
    (I.kIn _ _ hC) (PySem.W.looks_findIn I.kIn iC) (fun self => PySem.W.bind_fn I.kIn self tI) hus ?_)
  refine codeAny_mono (F.run _ X.stack _ _ ⟨Value.ref (hp.objs.size + 1) :: us, ks.zip ws⟩ (g (Value.ref (hp.objs.size + 1) :: us) ws)
    _ _ (fun _ _ _ => False) (hr.make C us (ks.zip ws)) (I2.env0.make C us (ks.zip ws))
    (hb.to _ (Value.ref (hp.objs.size + 1) :: us) ws I2.kIn e1 e2) r2 hq) fun r s1 h1 => ?_
  cases r with
  | error er => exact hx pins σ _ _ er s1 I2 h1
  | ok fl =>
    cases fl with
    | ret u =>
      obtain ⟨v, H3, os2, bare2, un2, hok2, rv, ev, d, fs, ea, ed, hd1, q2⟩ := h1
      subst ev
      obtain ⟨h2, g2, d2, t2, os'⟩ := s1
      obtain ⟨t0, G, J, kG, ge, hoe, na⟩ := mk_end0 (d2 := d2) (t2 := t2) I le1 up un2 hok2 os2 bare2 ea ed hd1
      refine ⟨rv, ⟨hp.objs.size + 1, _, _, ⟨G, g2, d2, t2, os'⟩, _, .ref C, some d, rfl, J, kG, ge, hoe, ⟨rfl, rfl, fun vs hv => ?_⟩, rfl, rfl, na, rfl, bare2, raises_own T.exC T.tyC, q2⟩⟩
      cases hv
      rfl
    | next => exact False.elim h1
    | brk => exact False.elim h1
    | cont => exact False.elim h1
theorem pmk_mkN (T : OexC X.K C) (iC : PySem.W.findIn X.K (.ref C) "__init__" = some (some (.ref fI)))
    (tI : PySem.W.typeIn X.K (.ref fI) = some (.type "function")) (FI : FnOk X.prog X.w X.K X.mg X.base CX k fI fd ps sp) (hr : Room (k + 1) X.A)
    (hb : KBn X.K fd ps (n + 1) [] g gV) (hx : Passes CX X fun _ _ _ => False) (hn : n ≤ 1000) (hg : Gl X x) (hm : X.mg x = some (.ref C)) (ha : PA X (e :: es) t)
    (hdb : (x == ("__debug__" : Str)) = false := by decide) (he : starEach (e :: es) X.env = (false, eval e X.env) :: starEach es X.env := by rfl)
    (hpl : (backTo pos (starEach es X.env)).any (·.1) = false := by rfl) : L2N.PMk X (.Call (.Name x p) (e :: es) [] pos) (tMkN C n 0 sp gV t tNil) := by
  intro pins s σ H Q I h
  refine wpAny_Call_Name_kw (ld_glob I hg hm ?_ hdb)
  refine PySem.W.callWith_K (h₀ := X.base) I.ok.mod.kin T.kC ?_ he hpl
  refine thn (ha.run pos pins s σ H _ I h) fun us s1 ⟨vs, H1, I1, r, l1, l2, q⟩ => ⟨I1.kIn, ?_⟩
  exact run_mkN (ks := []) (ws := []) (zs := []) T iC tI FI hr hb hx I1 r .nil l1 rfl hn q
theorem pmk_mkNK (T : OexC X.K C) (iC : PySem.W.findIn X.K (.ref C) "__init__" = some (some (.ref fI)))
    (tI : PySem.W.typeIn X.K (.ref fI) = some (.type "function")) (FI : FnOk X.prog X.w X.K X.mg X.base CX k fI fd ps sp) (hr : Room (k + 1) X.A)
    (hb : KBn X.K fd ps 1 ks g gV) (hx : Passes CX X fun _ _ _ => False) (hg : Gl X x) (hm : X.mg x = some (.ref C)) (hkw : PK X kws tk)
    (hall : (backToKw pos (keywordEach kws X.env)).all (·.1.isSome) = true := by rfl)
    (hks : (backToKw pos (keywordEach kws X.env)).filterMap (·.1) = ks := by rfl) (hdb : (x == ("__debug__" : Str)) = false := by decide)
    (hpl : ((backTo pos (starEach [] X.env)).any (·.1) || (backToKw pos (keywordEach kws X.env)).any (·.1.isNone)) = false := by rfl) :
    L2N.PMk X (.Call (.Name x p) [] kws pos) (tMkN C 0 ks.length sp gV tNil tk) := by
  intro pins s σ H Q I h
  refine wpAny_Call_Name_kw (ld_glob I hg hm ?_ hdb)
  refine PySem.W.callWith_KW0 (h₀ := X.base) I.ok.mod.kin T.kC hall ?_ hpl
  refine thn (hkw.run pos pins s σ H _ I h) fun ws s2 ⟨zs, H2, I2, rz, l1, l2, q2⟩ => ⟨I2.kIn, ?_⟩
  rw [hks]
  exact run_mkN (us := []) (vs := []) T iC tI FI hr hb hx I2 .nil rz rfl l2 (Nat.zero_le _) q2
end
theorem pmk_mono {X : Cx} {e : Expr} {t u : St → Hp → XK → Prop} (h : L2N.PMk X e t) (k : ∀ σ H Q, u σ H Q → t σ H Q) : L2N.PMk X e u := fun pins s σ H Q I q => h pins s σ H Q I (k _ _ _ q)
/-- X(v), v in slot i, that is raised -/
def tRs1 (i : Nat) (C : Addr) (f : Str) : St → Hp → XK → Prop := fun σ H Q => ∃ v, σ[i]? = some (some v) ∧ ∀ d H', Same H H' → H' d = some (.xd [(f, v)]) → Q (.ref C) (some d) H'
def tRs2 (i j : Nat) (C : Addr) (f g : Str) : St → Hp → XK → Prop := fun σ H Q => ∃ v w, σ[i]? = some (some v) ∧ σ[j]? = some (some w) ∧ ∀ d H', Same H H' → H' d = some (.xd [(g, w), (f, v)]) → Q (.ref C) (some d) H'
theorem raised_at {H : Hp} {a C d : Addr} {fs : List (Str × V)} {Q : XK} (ha : H a = none) (n : upd H a (exo a C none) d = none) (ne : d ≠ a) (q : ∀ d H', Same H H' → H' d = some (.xd fs) → Q (.ref C) (some d) H') :
    ∃ (d' : Addr) (fs' : List (Str × V)), withEv (upd H a (exo a C none)) a C d fs a = some (exo a C (some d')) ∧ withEv (upd H a (exo a C none)) a C d fs d' = some (exd d' fs') ∧ H d' = none ∧
      Q (.ref C) (some d') (upd (del (withEv (upd H a (exo a C none)) a C d fs) a) d' (.xd fs')) := by
  rw [upd_withEv]
  have n2 : H d = none := by rwa [upd_ne ne] at n
  refine ⟨d, fs, by unfold withEv; rw [upd_same], by unfold withEv; rw [upd_ne ne, upd_same], n2, q _ _ (fun b o z => ?_) upd_same⟩
  have hb : b ≠ a := ne_of_none z ha
  have hd : b ≠ d := ne_of_none z n2
  unfold withEv
  rw [upd_ne hd, del_ne hb, upd_ne hb, upd_ne hd]
  exact z
section
variable {X : Cx} {x f g : Str} {i j : Nat} {v u : Expr} {p pos kp kp2 : Pos}
theorem pmk_e1 (O : One X.prog X.w X.K X.mg X.base x f) (hr : Room 2 X.A) (hv : PE X v (tVar i)) (hg : Gl X x) (hdb : (x == ("__debug__" : Str)) = false := by decide)
    (he : starEach [v] X.env = (false, eval v X.env) :: starEach [] X.env := by rfl) (hpl : (backTo pos (starEach [] X.env)).any (·.1) = false := by rfl) :
    L2N.PMk X (.Call (.Name x p) [v] [] pos) (tRs1 i (He.ga X.K x) f) := by
  obtain ⟨fd, F, b1, b2⟩ := O.ini
  refine pmk_mono (pmk_mkN O.T O.iC O.tI F hr b1 pass0 (by decide) hg O.mgx (pa_cons hv pa_nil he) hdb he hpl) fun σ H Q h => ?_
  obtain ⟨y, hy, q⟩ := h
  exact ⟨y, hy, rfl, rfl, fun a ha => ⟨a, y, rfl, upd_same, fun dx n ne => ⟨rfl, raised_at ha n ne q⟩⟩⟩
theorem pmk_e1K (O : One X.prog X.w X.K X.mg X.base x f) (hr : Room 2 X.A) (hv : PE X v (tVar i)) (hg : Gl X x) (hdb : (x == ("__debug__" : Str)) = false := by decide)
    (hall : (backToKw pos (keywordEach [⟨some f, v, kp⟩] X.env)).all (·.1.isSome) = true := by rfl)
    (hks : (backToKw pos (keywordEach [⟨some f, v, kp⟩] X.env)).filterMap (·.1) = [f] := by rfl)
    (hpl : ((backTo pos (starEach [] X.env)).any (·.1) || (backToKw pos (keywordEach [⟨some f, v, kp⟩] X.env)).any (·.1.isNone)) = false := by rfl) :
    L2N.PMk X (.Call (.Name x p) [] [⟨some f, v, kp⟩] pos) (tRs1 i (He.ga X.K x) f) := by
  obtain ⟨fd, F, b1, b2⟩ := O.ini
  refine pmk_mono (pmk_mkNK O.T O.iC O.tI F hr b2 pass0 hg O.mgx (pk_cons hv pk_nil) hall hks hdb hpl) fun σ H Q h => ?_
  obtain ⟨y, hy, q⟩ := h
  exact ⟨y, hy, rfl, rfl, fun a ha => ⟨a, y, rfl, upd_same, fun dx n ne => ⟨rfl, raised_at ha n ne q⟩⟩⟩
theorem pmk_e2 (O : Two X.prog X.w X.K X.mg X.base x f g) (hr : Room 2 X.A) (hv : PE X v (tVar i)) (hu : PE X u (tVar j)) (hg : Gl X x) (hdb : (x == ("__debug__" : Str)) = false := by decide)
    (he : starEach [v, u] X.env = (false, eval v X.env) :: starEach [u] X.env := by rfl) (he2 : starEach [u] X.env = (false, eval u X.env) :: starEach [] X.env := by rfl)
    (hpl : (backTo pos (starEach [u] X.env)).any (·.1) = false := by rfl) : L2N.PMk X (.Call (.Name x p) [v, u] [] pos) (tRs2 i j (He.ga X.K x) f g) := by
  obtain ⟨fd, F, b1, b2, b3, b4⟩ := O.ini
  refine pmk_mono (pmk_mkN O.T O.iC O.tI F hr b1 pass0 (by decide) hg O.mgx (pa_cons hv (pa_cons hu pa_nil he2) he) hdb he hpl) fun σ H Q h => ?_
  obtain ⟨y, z, hy, hz, q⟩ := h
  exact ⟨y, hy, z, hz, rfl, rfl, fun a ha => ⟨a, y, z, rfl, upd_same, fun dx n ne => ⟨rfl, raised_at ha n ne q⟩⟩⟩
theorem pmk_e2R (O : Two X.prog X.w X.K X.mg X.base x f g) (hr : Room 2 X.A) (hv : PE X v (tVar i)) (hu : PE X u (tVar j)) (hg : Gl X x) (hdb : (x == ("__debug__" : Str)) = false := by decide)
    (hall : (backToKw pos (keywordEach [⟨some g, u, kp⟩, ⟨some f, v, kp2⟩] X.env)).all (·.1.isSome) = true := by rfl)
    (hks : (backToKw pos (keywordEach [⟨some g, u, kp⟩, ⟨some f, v, kp2⟩] X.env)).filterMap (·.1) = [g, f] := by rfl)
    (hpl : ((backTo pos (starEach [] X.env)).any (·.1) || (backToKw pos (keywordEach [⟨some g, u, kp⟩, ⟨some f, v, kp2⟩] X.env)).any (·.1.isNone)) = false := by rfl) :
    L2N.PMk X (.Call (.Name x p) [] [⟨some g, u, kp⟩, ⟨some f, v, kp2⟩] pos) (tRs2 i j (He.ga X.K x) f g) := by
  obtain ⟨fd, F, b1, b2, b3, b4⟩ := O.ini
  refine pmk_mono (pmk_mkNK O.T O.iC O.tI F hr b3 pass0 hg O.mgx (pk_cons hu (pk_cons hv pk_nil)) hall hks hdb hpl) fun σ H Q h => ?_
  obtain ⟨y, z, hy, hz, q⟩ := h
  exact ⟨z, hz, y, hy, rfl, rfl, fun a ha => ⟨a, y, z, rfl, upd_same, fun dx n ne => ⟨rfl, raised_at ha n ne q⟩⟩⟩
end
end L2

namespace K00
open PySem PySem.Spec PyProof.Rows L2
abbrev sCaught : Stmt := top 53
theorem scCaught : FnScope ["box", "thing", "more", "way", "e", "told"] ["box", "thing", "more"] (defScope sCaught) := ⟨rfl, rfl, rfl, by decide +kernel, rfl, by decide +kernel, by decide +kernel⟩
theorem pss_mono {X : Cx} {st : List Stmt} {t u : TS} (h : PSs X st t) (k : ∀ D σ H, u D σ H → t D σ H) : PSs X st u := ⟨fun pins s σ H D I q => h.run pins s σ H D I (k _ _ _ q)⟩
theorem takes_none {X : Cx} : L2N.Takes X fun _ _ _ _ => False := fun _ _ ⟨_, _, _, _, _, _, _, _, _, _, _, _, _, _, _, _, w⟩ => w.elim
/-- what a clause of the raise asks -/
def tRz (i : Int) (t : L2.St → Hp → XK → Prop) (W : WX) : TS := tIfS (tB (tEqI (tVar 3) (tC (.int i)))) (fun _ σ H => t σ H fun cls d H' => W cls d σ H') tNext
def spots : List V := [.int 22, .int 9, .int 35, .int 36, .int 37, .int 28]
def pairs : List V := [.int 2, .int 3, .int 4]
/-- the state in which the exception at a is caught -/
def Ready (K : PySem.W.Frag) (a : Addr) (cls : Value) (d : Option Addr) : TS := fun D σ H =>
  ∃ (p dd : Addr) (v u : V) (way s : Nat) (told : Option V) (x : Str) (fs : List (Str × V)), σ = [some (.ref p), some v, some u, some (.int (way : Int)), some (.ref a), told] ∧ Thing K H v ∧ Thing K H u ∧
    cls = .ref (He.ga K x) ∧ d = some dd ∧ H dd = some (.xd fs) ∧ nms[s]? = some x ∧ spots[way]? = some (.int (s : Int)) ∧
    ((inV (.int (way : Int)) pairs = true ∧ ∃ f0 g0, (x, f0, g0) ∈ cl2 ∧ fs = [(g0, u), (f0, v)]) ∨ (inV (.int (way : Int)) pairs = false ∧ ∃ f0, (x, f0) ∈ cl1 ∧ fs = [(f0, v)])) ∧
    ∀ H', Same H H' → D.rt (.bl true) H'
theorem rz_no {i n : Int} {t : L2.St → Hp → XK → Prop} {W : WX} {D : Ends} {σ : L2.St} {H : Hp} (hσ : σ[3]? = some (some (.int n))) (ne : n ≠ i) (q : D.nx σ H) : tRz i t W D σ H :=
  ⟨_, hσ, _, _, rfl, rfl, false, congrArg V.bl (decide_eq_false ne), iteF q⟩
theorem rz_yes {n : Int} {t : L2.St → Hp → XK → Prop} {W : WX} {D : Ends} {σ : L2.St} {H : Hp} (hσ : σ[3]? = some (some (.int n))) (q : t σ H fun cls d H' => W cls d σ H') : tRz n t W D σ H :=
  ⟨_, hσ, _, _, rfl, rfl, true, congrArg V.bl (decide_eq_true rfl), iteT q⟩
def spCaught (K : PySem.W.Frag) : Sp := fun vs H Q _ => ∃ (p : Addr) (xs : List V) (c : Nat) (v u : V), vs = [.ref p, v, u] ∧ H p = some (.lst xs) ∧ Box c xs ∧ c < 1000 ∧ Thing K (del H p) v ∧ Thing K (del H p) u ∧
  ∀ ys H1 H', H1 = upd H p (.lst ys) → Box (c + 1) ys → Same H1 H' → Q (.bl true) H'
structure Cls4 (K : PySem.W.Frag) : Prop where
  exm : ∀ {x : Str}, x ∈ nms → PySem.W.exmOne K (.ref (He.ga K x)) (.ref (He.ga K "LostError")) = some true
section
variable {P : Program} {w : World} {K : PySem.W.Frag} {mg : Str → Option Value} {base : Heap} {f fA fI fK fT fS : Addr} {fd dA dI dK dT dS : FuncData}
theorem ok_caught (F : Fd K "_law_caught" sCaught f fd) (FA : Fd K "_law_take" sTake fA dA) (C : Cls0 P w K mg base) (B1 : Blt mg) (T2 : Cls2 K mg) (T4 : Cls4 K) (Y : Hot P w K mg base fI fK fT fS dI dK dT dS)
    (gA : mg "_law_take" = some (.ref fA)) : FnG P w K mg base 4 f fd ["box", "thing", "more"] (spCaught K) := by
  have GA : FnOk P w K mg base CX0 1 fA dA ["box", "many"] spTake := ok_take FA B1
  have bA : Binds K dA ["box", "many"] [] := FA.bindsN fun _ _ _ _ _ _ us hl => match us, hl with | [_, _], _ => rfl
  refine F.okG scCaught (fun vs H Q E h => ?_) (fun cdv A outer s H vs Q hgd hr h => ?_)
  · obtain ⟨p, xs, c, v, u, rfl, _⟩ := h
    rfl
  · refine ⟨_, pss_cons (ps_set (i := 3) scCaught.nd rfl (Or.inl rfl) (pe_call GA (hr.mono (by decide)) (by rfl) gA FA.kp bA .nil pass0 (pa_cons (pv 0) (pa_cons pe_int pa_nil))))
      (pss_one (L2N.ps_try_as (i := 4) (Wout := fun _ _ _ _ => False) (ts := Ready K)
        (tb := fun W => tSeq (tRz 0 (tRs1 1 (He.ga K "Stopped") "house") W) (tSeq (tRz 1 (tRs1 1 (He.ga K "InvalidCounts") "given") W) (tSeq (tRz 2 (tRs2 1 2 (He.ga K "Twice") "house" "text") W)
          (tSeq (tRz 3 (tRs2 1 2 (He.ga K "NothingUnderWay") "u" "v") W) (tSeq (tRz 4 (tRs2 1 2 (He.ga K "NotRight") "road" "lines") W) fun _ σ H => tRs1 1 (He.ga K "Crossed") "cross" σ H fun cls d H' => W cls d σ H')))))
        rfl rfl scCaught.nd rfl rfl ⟨by rfl, by decide, .inl T2.lost⟩ takes_none
        (fun W pn xe tk _ => pss_cons (ps_if (pt_cmp (pc_eqI (pv 3) pe_int)) (pss_one (L2N.ps_raise rfl tk (by exact pmk_e1 (C.one (i := 22) rfl) (hr.mono (by decide)) (pv 1) (by rfl)))) pss_nil)
          (pss_cons (ps_if (pt_cmp (pc_eqI (pv 3) pe_int)) (pss_one (L2N.ps_raise rfl tk (by exact pmk_e1K (C.one (i := 9) rfl) (hr.mono (by decide)) (pv 1) (by rfl)))) pss_nil)
          (pss_cons (ps_if (pt_cmp (pc_eqI (pv 3) pe_int)) (pss_one (L2N.ps_raise rfl tk (by exact pmk_e2R (C.two (i := 1) rfl) (hr.mono (by decide)) (pv 1) (pv 2) (by rfl)))) pss_nil)
          (pss_cons (ps_if (pt_cmp (pc_eqI (pv 3) pe_int)) (pss_one (L2N.ps_raise rfl tk (by exact pmk_e2 (C.two (i := 2) rfl) (hr.mono (by decide)) (pv 1) (pv 2) (by rfl)))) pss_nil)
          (pss_cons (ps_if (pt_cmp (pc_eqI (pv 3) pe_int)) (pss_one (L2N.ps_raise rfl tk (by exact pmk_e2R (C.two (i := 3) rfl) (hr.mono (by decide)) (pv 1) (pv 2) (by rfl)))) pss_nil)
          (pss_one (L2N.ps_raise rfl tk (by exact pmk_e1K (C.one (i := 28) rfl) (hr.mono (by decide)) (pv 1) (by rfl)))))))))
        (fun a oe cls d pn hz hv => ?_))), ?_⟩
    · -- the clause
      have wc : WarmC ((cxOf CX0 P w K mg base ["box", "thing", "more", "way", "e", "told"] "_law_caught" (defScope sCaught) f cdv A outer s H noE).suite a ((a, oe) :: pn)) (a, oe) := by
        obtain ⟨z1, z2, z3⟩ := hz
        obtain ⟨fv, hv⟩ := hv
        exact ⟨List.mem_cons_self, hgd, .inr ⟨rfl, fv, hv, z3 _ hv⟩⟩
      have hrH : L2H.RoomH 3 ((cxOf CX0 P w K mg base ["box", "thing", "more", "way", "e", "told"] "_law_caught" (defScope sCaught) f cdv A outer s H noE).suite a ((a, oe) :: pn)).A := L2H.roomH_mark hr _
      refine pss_mono (pss_cons (ps_if (pt_not (pt_val (pe_callP (Y.oI (a, oe)) wc (hrH.mono (by decide)) (by rfl) Y.gI Y.kI Y.bI (pa_cons (pv 4) (pa_cons (pe_ix ix_seq (pe_lst (pa_cons pe_int (pa_cons pe_int (pa_cons pe_int (pa_cons pe_int (pa_cons pe_int (pa_cons pe_int pa_nil))))))) (pv 3) fun _ _ => rfl) pa_nil)))))
          (pss_one (ps_ret pe_bl)) pss_nil)
        (pss_cons (ps_if (pt_cmpR op_in_seq (pv 3) (pe_lst (pa_cons pe_int (pa_cons pe_int (pa_cons pe_int pa_nil)))) rfl)
          (pss_cons (ps_set (i := 5) scCaught.nd rfl (Or.inl rfl) (pe_callP (Y.oT (a, oe)) wc (hrH.mono (by decide)) (by rfl) Y.gT Y.kT Y.bT (pa_cons (pv 4) pa_nil)))
          (pss_one (ps_ret (pe_and (pe_callP (Y.oS (a, oe)) wc (hrH.mono (by decide)) (by rfl) Y.gS Y.kS Y.bS (pa_cons (pe_ix ix_seq (pv 5) pe_int fun _ _ => rfl) (pa_cons (pv 1) pa_nil)))
            (pe_one (pe_callP (Y.oS (a, oe)) wc (hrH.mono (by decide)) (by rfl) Y.gS Y.kS Y.bS (pa_cons (pe_ix ix_seq (pv 5) pe_int fun _ _ => rfl) (pa_cons (pv 2) pa_nil))))))))
          pss_nil)
        (pss_one (ps_ret (pe_callP (Y.oS (a, oe)) wc (hrH.mono (by decide)) (by rfl) Y.gS Y.kS Y.bS (pa_cons (pe_callP (Y.oK (a, oe)) wc (hrH.mono (by decide)) (by rfl) Y.gK Y.kK Y.bK (pa_cons (pv 4) pa_nil)) (pa_cons (pv 1) pa_nil))))))) fun D σ H1 h => ?_
      obtain ⟨p, dd, v, u, way, s1, told, x, fs, rfl, tv, tu, rfl, rfl, hdd, hx, hs, hc, q⟩ := h
      have ev : EvP [(a, oe)] H1 a (He.ga K x) dd fs := ⟨.inr ⟨oe, List.mem_cons_self, hz.1, hz.2.1, hv⟩, .inr hdd⟩
      refine ⟨_, rfl, two_ln (by show 6 ≤ 16777216; decide), fun r1 hr1 => ⟨_, rfl, ixAt upd_same (atI_nat hs) ?_⟩⟩
      have k1 := upd_grow (o := .lst spots) hr1
      refine ⟨a, dd, fs, x, s1, rfl, hx, ev.mono (fun _ z => z) k1, fun H2 k2 => ⟨true, rfl, iteF ?_⟩⟩
      refine ⟨_, rfl, two_ln (by show 3 ≤ 16777216; decide), fun r2 hr2 => ?_⟩
      have k3 := upd_grow (o := .lst pairs) hr2
      have kk : Same H1 _ := k1.trans (k2.trans k3)
      have h3 := upd_same (H := H2) (a := r2) (o := .lst pairs)
      generalize e3 : upd H2 r2 (.lst pairs) = H3 at kk h3
      have e3' : upd H2 r2 (.lst [.int 2, .int 3, .int 4]) = H3 := e3
      rw [e3']
      have ev3 := ev.mono (fun _ z => z) kk
      rcases hc with ⟨e, f0, g0, hm, rfl⟩ | ⟨e, f0, hm, rfl⟩
      · refine ⟨r2, pairs, rfl, .inl (SqL.of h3), rfl, rfl, true, congrArg V.bl e, iteT ?_⟩
        refine ⟨_, rfl, a, dd, v, u, x, f0, g0, rfl, hm, ev3, fun tl H4 k4 htl => ?_⟩
        refine ⟨_, rfl, ixAt htl rfl ⟨_, rfl, v, rfl, tv.mono (kk.trans k4), fun H5 k5 => ⟨true, rfl, iteT ?_⟩⟩⟩
        refine ⟨_, rfl, ixAt (k5 _ _ htl) rfl ⟨_, rfl, u, rfl, tu.mono (kk.trans (k4.trans k5)), fun H6 k6 => ?_⟩⟩
        exact q H6 (kk.trans (k4.trans (k5.trans k6)))
      · refine ⟨r2, pairs, rfl, .inl (SqL.of h3), rfl, rfl, false, congrArg V.bl e, iteF ?_⟩
        refine ⟨_, rfl, a, dd, v, x, f0, rfl, hm, ev3, fun H4 k4 => ?_⟩
        exact ⟨_, rfl, v, rfl, tv.mono (kk.trans k4), fun H5 k5 => q H5 (kk.trans (k4.trans k5))⟩
    · obtain ⟨p, xs, c, v, u, rfl, hp, hb, hc, tv, tu, q⟩ := h
      refine ⟨_, rfl, p, 6, xs, c, rfl, hp, hb, hc, by decide, by decide, fun n ys n0 n1 hb2 => ?_⟩
      have kb : Same (del H p) (upd H p (.lst ys)) := fun b o e => by
        have hb : b ≠ p := fun z => by
          rw [z, del_same] at e
          cases e
        rw [upd_ne hb]
        rwa [del_ne hb] at e
      have tv1 := tv.mono kb
      have tu1 := tu.mono kb
      -- caught
      have fin : ∀ (way s1 : Nat) (x : Str) (fs : List (Str × V)) (d : Addr) (H' : Hp), Same (upd H p (.lst ys)) H' → H' d = some (.xd fs) → nms[s1]? = some x → spots[way]? = some (.int (s1 : Int)) →
          ((inV (.int (way : Int)) pairs = true ∧ ∃ f0 g0, (x, f0, g0) ∈ cl2 ∧ fs = [(g0, u), (f0, v)]) ∨ (inV (.int (way : Int)) pairs = false ∧ ∃ f0, (x, f0) ∈ cl1 ∧ fs = [(f0, v)])) →
          wAs K (.ref (He.ga K "LostError")) 4 (Ready K) (fun _ _ _ _ => False) { nx := fun _ H' => Q .non H', rt := Q } (.ref (He.ga K x)) (some d)
            [some (.ref p), some v, some u, some (.int (way : Int)), none, none] H' := fun way s1 x fs d H' k hd hx hs hcs =>
        ⟨true, T4.exm (nms_at hx).1, fun _ a ha => ⟨p, d, v, u, way, s1, none, x, fs, rfl, tv1.mono k, tu1.mono k, rfl, rfl, hd, hx, hs, hcs, fun H2 k2 => q ys _ H2 rfl hb2 (k.trans k2)⟩, fun z => nomatch z⟩
      have ways : n = ((0 : Nat) : Int) ∨ n = ((1 : Nat) : Int) ∨ n = ((2 : Nat) : Int) ∨ n = ((3 : Nat) : Int) ∨ n = ((4 : Nat) : Int) ∨ n = ((5 : Nat) : Int) := by omega
      rcases ways with rfl | rfl | rfl | rfl | rfl | rfl
      · exact rz_yes rfl ⟨v, rfl, fun d H' k hd => fin 0 22 "Stopped" _ d H' k hd rfl rfl (.inr ⟨rfl, _, (by decide +kernel : (("Stopped", "house") : Str × Str) ∈ cl1), rfl⟩)⟩
      · exact rz_no rfl (by decide) (rz_yes rfl ⟨v, rfl, fun d H' k hd => fin 1 9 "InvalidCounts" _ d H' k hd rfl rfl (.inr ⟨rfl, _, (by decide +kernel : (("InvalidCounts", "given") : Str × Str) ∈ cl1), rfl⟩)⟩)
      · exact rz_no rfl (by decide) (rz_no rfl (by decide) (rz_yes rfl ⟨v, u, rfl, rfl, fun d H' k hd => fin 2 35 "Twice" _ d H' k hd rfl rfl (.inl ⟨rfl, _, _, (by decide +kernel : (("Twice", "house", "text") : Str × Str × Str) ∈ cl2), rfl⟩)⟩))
      · exact rz_no rfl (by decide) (rz_no rfl (by decide) (rz_no rfl (by decide) (rz_yes rfl ⟨v, u, rfl, rfl, fun d H' k hd => fin 3 36 "NothingUnderWay" _ d H' k hd rfl rfl (.inl ⟨rfl, _, _, (by decide +kernel : (("NothingUnderWay", "u", "v") : Str × Str × Str) ∈ cl2), rfl⟩)⟩)))
      · exact rz_no rfl (by decide) (rz_no rfl (by decide) (rz_no rfl (by decide) (rz_no rfl (by decide) (rz_yes rfl ⟨v, u, rfl, rfl, fun d H' k hd => fin 4 37 "NotRight" _ d H' k hd rfl rfl (.inl ⟨rfl, _, _, (by decide +kernel : (("NotRight", "road", "lines") : Str × Str × Str) ∈ cl2), rfl⟩)⟩))))
      · exact rz_no rfl (by decide) (rz_no rfl (by decide) (rz_no rfl (by decide) (rz_no rfl (by decide) (rz_no rfl (by decide) ⟨v, rfl, fun d H' k hd => fin 5 28 "Crossed" _ d H' k hd rfl rfl (.inr ⟨rfl, _, (by decide +kernel : (("Crossed", "cross") : Str × Str) ∈ cl1), rfl⟩)⟩))))
end
end K00

namespace K00
open PySem PySem.Spec PyProof.Rows L2
abbrev sLaw : Stmt := top 57
theorem scLaw : FnScope ["script", "k", "box", "first", "last"] ["script"] (defScope sLaw) := ⟨rfl, rfl, rfl, by decide +kernel, rfl, by decide +kernel, by decide +kernel⟩
def spLaw (K : PySem.W.Frag) : Sp := fun vs H Q _ => ∃ (l : Addr) (ns : List Int), vs = [.ref l] ∧ SqL K H l (ns.map V.int) ∧ ∀ H', Q (.bl true) H'
/-- what the law calls -/
structure Calls (P : Program) (w : World) (K : PySem.W.Frag) (mg : Str → Option Value) (base : Heap) (fC fB fT fO f2 fX fG : Addr) (dC dB dT dO d2 dX dG : FuncData) : Prop where
  gC : mg "_law_cell" = some (.ref fC)
  gB : mg "_law_box" = some (.ref fB)
  gT : mg "_law_thing" = some (.ref fT)
  gO : mg "_law_ones_right" = some (.ref fO)
  g2 : mg "_law_twos_right" = some (.ref f2)
  gX : mg "_law_caught" = some (.ref fX)
  gG : mg "_law_grown_right" = some (.ref fG)
  FC : Fd K "_law_cell" sCell fC dC
  FB : Fd K "_law_box" sBox fB dB
  FT : Fd K "_law_thing" sThing fT dT
  FO : Fd K "_law_ones_right" sOnes fO dO
  F2 : Fd K "_law_twos_right" sTwosR f2 d2
  FX : Fd K "_law_caught" sCaught fX dX
  FG : Fd K "_law_grown_right" sGrown fG dG
  oC : FnOk P w K mg base CX0 1 fC dC ["script", "k"] (spCell K)
  oB : FnOk P w K mg base CX0 1 fB dB ["great"] spBox
  oT : FnOk P w K mg base CX0 3 fT dT ["box"] (spThing K)
  oO : FnG P w K mg base 4 fO dO ["first", "last"] (spOnes K)
  o2 : FnG P w K mg base 4 f2 d2 ["first", "last"] (spOnes K)
  oX : FnG P w K mg base 4 fX dX ["box", "thing", "more"] (spCaught K)
  oG : FnG P w K mg base 4 fG dG ["box"] spGrown
structure Blt4 (mg : Str → Option Value) : Prop where
  mx : mg "max" = none
  mn : mg "min" = none
theorem but_del {p : Addr} {H H' : Hp} (k : But p H H') : Same (del H p) (del H' p) := fun b o e => by
  by_cases z : b = p
  · rw [z, del_same] at e
    cases e
  · rw [del_ne z] at e ⊢
    exact k b o z e
theorem sql_same {K : PySem.W.Frag} {H H' : Hp} {l : Addr} {xs : List V} (h : SqL K H l xs) (k : Same H H') : SqL K H' l xs := by
  rcases h with h | h
  · exact .inl (h.imp (k _ _) fun ⟨o, z⟩ => ⟨o, k _ _ z⟩)
  · exact .inr h
theorem but_upd_same {p : Addr} {H H' : Hp} {o : HO} (k : Same (upd H p o) H') : But p H H' := fun b u hb e => k b u (by rw [upd_ne hb]; exact e)
section
variable {P : Program} {w : World} {K : PySem.W.Frag} {mg : Str → Option Value} {base : Heap} {f fC fB fT fO f2 fX fG : Addr} {fd dC dB dT dO d2 dX dG : FuncData}
theorem ok_law (F : Fd K "law" sLaw f fd) (L : Calls P w K mg base fC fB fT fO f2 fX fG dC dB dT dO d2 dX dG) (B2 : Blt2 mg) (B4 : Blt4 mg) : FnG P w K mg base 5 f fd ["script"] (spLaw K) := by
  have bC : Binds K dC ["script", "k"] [] := L.FC.bindsN fun _ _ _ _ _ _ us hl => match us, hl with | [_, _], _ => rfl
  have bB : Binds K dB ["great"] [] := L.FB.bindsN fun _ _ _ _ _ _ us hl => match us, hl with | [_], _ => rfl
  have bT : Binds K dT ["box"] [] := L.FT.bindsN fun _ _ _ _ _ _ us hl => match us, hl with | [_], _ => rfl
  have bO : Binds K dO ["first", "last"] [] := L.FO.bindsN fun _ _ _ _ _ _ us hl => match us, hl with | [_, _], _ => rfl
  have b2 : Binds K d2 ["first", "last"] [] := L.F2.bindsN fun _ _ _ _ _ _ us hl => match us, hl with | [_, _], _ => rfl
  have bX : Binds K dX ["box", "thing", "more"] [] := L.FX.bindsN fun _ _ _ _ _ _ us hl => match us, hl with | [_, _, _], _ => rfl
  have bG : Binds K dG ["box"] [] := L.FG.bindsN fun _ _ _ _ _ _ us hl => match us, hl with | [_], _ => rfl
  refine F.okG scLaw (fun vs H Q E h => ?_) (fun cdv A outer s H vs Q hgd hr h => ?_)
  · obtain ⟨l, ns, rfl, _⟩ := h
    rfl
  · refine ⟨_, pss_cons (ps_for (passes_of rfl) rfl (pi_range1 (by rfl) B2.rng (pa_cons (pe_callB (call_max2 rfl) (by rfl) B4.mx (by decide +kernel) (pa_cons pe_int (pa_cons (pe_callB (call_min2 rfl) (by rfl) B4.mn (by decide +kernel) (pa_cons pe_int (pa_cons (pe_callB call_len (by rfl) B2.len boot_len (pa_cons (pv 0) pa_nil)) pa_nil))) pa_nil))) pa_nil)) (pg_name (i := 1) scLaw.nd rfl (Or.inl rfl))
        (pss_cons (ps_set (i := 2) scLaw.nd rfl (Or.inl rfl) (pe_call L.oB (hr.mono (by decide)) (by rfl) L.gB L.FB.kp bB .nil pass0 (pa_cons (pe_call L.oC (hr.mono (by decide)) (by rfl) L.gC L.FC.kp bC .nil pass0 (pa_cons (pv 0) (pa_cons (pv 1) pa_nil))) pa_nil)))
        (pss_cons (ps_par (i := 3) (j := 4) rfl scLaw.nd rfl rfl (by decide) rfl rfl (pa_cons (pe_call L.oT (hr.mono (by decide)) (by rfl) L.gT L.FT.kp bT .nil pass0 (pa_cons (pv 2) pa_nil)) (pa_cons (pe_call L.oT (hr.mono (by decide)) (by rfl) L.gT L.FT.kp bT .nil pass0 (pa_cons (pv 2) pa_nil)) pa_nil)) rfl)
        (pss_cons (ps_if (pw_or (pt_not (pt_val (pe_callG L.oO hgd hr (by rfl) L.gO L.FO.kp bO (pa_cons (pv 3) (pa_cons (pv 4) pa_nil)))))
            (pw_or1 (pt_not (pt_val (pe_callG L.o2 hgd hr (by rfl) L.g2 L.F2.kp b2 (pa_cons (pv 3) (pa_cons (pv 4) pa_nil))))))).pt
          (pss_one (ps_ret pe_bl)) pss_nil)
        (pss_one (ps_if (pw_or (pt_not (pt_val (pe_callG L.oX hgd hr (by rfl) L.gX L.FX.kp bX (pa_cons (pv 2) (pa_cons (pv 4) (pa_cons (pv 3) pa_nil))))))
            (pw_or1 (pt_not (pt_val (pe_callG L.oG hgd hr (by rfl) L.gG L.FG.kp bG (pa_cons (pv 2) pa_nil)))))).pt
          (pss_one (ps_ret pe_bl)) pss_nil))))))
      (pss_one (ps_ret pe_bl)), ?_⟩
    obtain ⟨l, ns, rfl, hl, q⟩ := h
    refine ⟨_, rfl, _, _, rfl, .inl ⟨_, hl, rfl⟩, _, _, rfl, _, _, rfl, _, rfl, ?_⟩
    generalize hJ : (if (if ((List.map V.int ns).length : Int) < 5 then ((List.map V.int ns).length : Int) else 5) > 3 then (if ((List.map V.int ns).length : Int) < 5 then ((List.map V.int ns).length : Int) else 5) else (3 : Int)) = J
    have j0 : 3 ≤ J := by rw [← hJ]; split <;> omega
    have j1 : J ≤ 5 := by rw [← hJ]; split <;> (try split) <;> omega
    refine ⟨by omega, by omega, for_range (n := J.toNat) (fun i σ H' => Same H H' ∧ ∃ a b c d : Option V, σ = [some (.ref l), a, b, c, d]) ⟨Same.refl _, none, none, none, none, rfl⟩ ?_ ?_⟩
    · rintro i σ H1 hi ⟨k1, a, b, c, d, rfl⟩
      refine ⟨_, rfl, _, rfl, l, ns, 0 + (i : Int), rfl, sql_same hl k1, by omega, by omega, fun n H2 k2 => ⟨n, rfl, fun p xs hp hb => ?_⟩⟩
      have b03 : But p H (upd H2 p (.lst xs)) := (But.of (k1.trans k2)).trans But.upd
      have fresh : ∀ b o, H b = some o → b ≠ p := fun b o e => ne_of_none ((k1.trans k2) _ _ e) hp
      generalize e3 : upd H2 p (.lst xs) = H3 at b03
      have h3 : H3 p = some (.lst xs) := by rw [← e3]; exact upd_same
      refine ⟨_, rfl, p, xs, 0, rfl, h3, hb, by decide, fun v ys H4 k4 hb4 tv => ⟨_, rfl, p, ys, 1, rfl, upd_same, hb4, by decide, fun u zs H6 k6 hb6 tu => ?_⟩⟩
      have b46 : But p H4 H6 := but_upd_same k6
      have b67 : But p H6 (upd H6 p (.lst zs)) := But.upd
      generalize e7 : upd H6 p (.lst zs) = H7 at b67
      have h7 : H7 p = some (.lst zs) := by rw [← e7]; exact upd_same
      have b07 : But p H H7 := b03.trans ((But.of k4).trans (b46.trans b67))
      have tv7 := tv.mono (but_del (b46.trans b67))
      have tu7 := tu.mono (but_del b67)
      refine ⟨_, _, rfl, ?_⟩
      refine ⟨_, rfl, _, rfl, v, u, rfl, tv7.mono del_le, tu7.mono del_le, fun H8 k8 => ⟨true, rfl, iteF ?_⟩⟩
      refine ⟨_, rfl, _, rfl, v, u, rfl, (tv7.mono del_le).mono k8, (tu7.mono del_le).mono k8, fun H9 k9 => ⟨true, rfl, iteF ?_⟩⟩
      have k79 := k8.trans k9
      refine ⟨_, rfl, _, rfl, _, rfl, p, zs, 2, u, v, rfl, k79 _ _ h7, hb6, by decide, tu7.mono (del_mono k79), tv7.mono (del_mono k79), fun ws H10 H11 e10 hb10 k11 => ⟨true, rfl, iteF ?_⟩⟩
      have b0a : But p H H10 := (b07.trans (But.of k79)).trans (by rw [e10]; exact But.upd)
      have h11 : H11 p = some (.lst ws) := k11 _ _ (by rw [e10]; exact upd_same)
      refine ⟨_, rfl, p, ws, 3, rfl, h11, hb10, by decide, fun H12 k12 => ⟨true, rfl, iteF ?_⟩⟩
      exact ⟨fun b o e => ((b0a.trans (But.of k11)).trans k12) b o (fresh b o e) e, _, _, _, _, rfl⟩
    · rintro σ H1 ⟨k1, a, b, c, d, rfl⟩
      exact q H1
end
end K00

/-! the law's call, its def one that is called where no repr is under way -/
namespace L2
open PySem PySem.Spec PyProof.Rows
/-- the script's object -/
def scriptO (vs : List Value) : Obj := { cls := .type "list", data := .seq vs.toArray }
/-- what is tracked at the call: at most the script, at a -/
structure Entry (P : Program) (w : World) (K : PySem.W.Frag) (a : Addr) (H : Hp) (h : Heap) : Prop where
  only : Only H
  ok : HOk P w H h
  at_ : ∀ b, H b ≠ none → b = a
  own : H a ≠ none → K.lookup a = none
section
variable {P : Program} {w : World} {K : PySem.W.Frag} {mg mb : Str → Option Value} {k : Nat} {fa a : Addr} {fd : FuncData} {x : Str}
variable {sp : Sp} {z : Shared} {vs : List Value} {ns : List Int} {H : Hp}
theorem Entry.free (e : Entry P w K a H z.heap) (ha : z.heap.get? a = some (scriptO vs)) {b : Addr} (hb : b ≠ a) : H b = none := by
  cases q : H b with
  | none => rfl
  | some u => exact absurd (e.at_ b (by rw [q]; exact fun y => nomatch y)) hb
theorem Entry.base (e : Entry P w K a H z.heap) (KX : K.In z.heap) : K.In (hidT z.heap H) := by
  intro b o h
  refine hidT_get (KX b o h) ?_
  cases q : H b with
  | none => rfl
  | some u =>
    have y : H b ≠ none := by
      rw [q]
      exact fun y => nomatch y
    have i := e.at_ b y
    subst i
    rw [e.own y] at h
    cases h
theorem Entry.keepNs (e : Entry P w K a H z.heap) (ha : z.heap.get? a = some (scriptO vs)) {b : Addr} {m : Str → Option Value} (n : z.heap.Ns b m) : (hidT z.heap H).Ns b m := by
  obtain ⟨o, es, ep, g, d, r⟩ := n
  refine ⟨o, es, ep, hidT_get g (e.free ha fun i => ?_), d, r⟩
  rw [i, ha] at g
  cases g
  cases d
theorem law_coreG (e : Entry P w K a H z.heap) (KX : K.In z.heap) (hns : z.heap.Ns mainGlobals mg) (hb : z.heap.Ns builtinsNs mb)
    (hbb : ∀ y : Str, y ≠ "__name__" → mb y = bootBuiltins y) (hlim : z.heap.NoLimit) (hg : z.gens = #[])
    (ha : z.heap.get? a = some (scriptO vs)) (hr : Room k callerA)
    (F : ∀ base : Heap, K.In base → base.Ns mainGlobals mg → FnG P w K mg base k fa fd [x] sp)
    (hbind : ∀ (s : Shared) (u : Value), BindsTo s fd ⟨[u], []⟩ [(x, u)])
    (hsp : sp [.ref a] H (fun v _ => v = .bl true) noE) :
    codeAny (model P w) callerA (.call (.ref fa) ⟨[.ref a], []⟩)
      (fun r t => r = .ok (.ret (.bool true)) ∧ OldK z.heap t.heap ∧ t.os = z.os ∧ AllBare t.gens) z := by
  have kb := e.base KX
  have main := e.keepNs ha hns
  obtain ⟨mc, c1, c2⟩ := hlim
  have env : Env0 P w K mg (hidT z.heap H) callerA [] z H := by
    refine ⟨rfl, ⟨kb, main, ⟨mb, e.keepNs ha hb, hbb⟩, ⟨mc, e.keepNs ha c1, c2⟩⟩, fun b o y => of_hidT y, ?_, trivial, (fun b y => nomatch y), e.ok, .of_eq hg⟩
    exact Nat.le_of_eq (hidT_size _ _)
  have run := (F _ kb main).run callerA [] z H ⟨[.ref a], []⟩ [.ref a] [.ref a] _ hr rfl env (hbind z (.ref a)) (.cons rfl .nil) hsp
  refine codeAny_mono run fun r t h => ?_
  rcases r with er | fl
  · exact h.elim
  · cases fl with
    | ret u =>
      obtain ⟨v, H2, os, bare, un, ok2, ru, rfl⟩ := h
      have eu : u = Value.bool true := ru
      refine ⟨by rw [eu], OldK.of_keep fun b o y => ?_, os, bare⟩
      by_cases i : H b = none
      · exact un.keep b o y i (fun m => nomatch m) fun m => nomatch m
      · rcases e.only b with j | ⟨ob, ys, j⟩
        · exact absurd j i
        · have o1 := (e.ok b _ j).1
          rw [o1] at y
          cases y
          exact (ok2 b _ (un.frzs b _ _ j)).1
    | next => exact h.elim
    | brk => exact h.elim
    | cont => exact h.elim
/-- the script as one that is tracked -/
def trackO (a : Addr) (vs : List Value) (ns : List Int) : Hp := upd (fun _ => none) a (.frz (scriptO vs) (.lst (ns.map V.int)))
theorem law_callG (KX : K.In z.heap) (hns : z.heap.Ns mainGlobals mg) (hb : z.heap.Ns builtinsNs mb)
    (hbb : ∀ y : Str, y ≠ "__name__" → mb y = bootBuiltins y) (hlim : z.heap.NoLimit) (hg : z.gens = #[])
    (ha : z.heap.get? a = some (scriptO vs)) (hi : IntsAre vs ns) (hl : ns.length ≤ sizeLine) (hr : Room k callerA)
    (F : ∀ base : Heap, K.In base → base.Ns mainGlobals mg → FnG P w K mg base k fa fd [x] sp)
    (hbind : ∀ (s : Shared) (u : Value), BindsTo s fd ⟨[u], []⟩ [(x, u)])
    (hsp : ∀ H : Hp, SqL K H a (ns.map V.int) → sp [.ref a] H (fun v _ => v = .bl true) noE) :
    codeAny (model P w) callerA (.call (.ref fa) ⟨[.ref a], []⟩)
      (fun r t => r = .ok (.ret (.bool true)) ∧ OldK z.heap t.heap ∧ t.os = z.os ∧ AllBare t.gens) z := by
  have rel := vals_ints hi
  cases q : K.lookup a with
  | some o =>
    have g := KX a o q
    rw [ha] at g
    cases g
    have e : Entry P w K a (fun _ => none) z.heap := ⟨fun _ => .inl rfl, (fun b u y => nomatch y), fun b y => absurd rfl y, fun y => absurd rfl y⟩
    refine law_coreG e KX hns hb hbb hlim hg ha hr F hbind (hsp _ (.inr ⟨_, vs.toArray, _, q, rfl, rfl, rfl, ?_, by simpa using rel⟩))
    rw [List.size_toArray, hi.length]
    exact hl
  | none =>
    have e : Entry P w K a (trackO a vs ns) z.heap := by
      refine Entry.mk (fun b => ?_) (fun b u y => ?_) (fun b y => ?_) fun _ => q
      · by_cases i : b = a
        · exact .inr ⟨_, _, by rw [i]; exact upd_same⟩
        · exact .inl (upd_ne i)
      · by_cases i : b = a
        · subst i
          have y2 : some (HO.frz (scriptO vs) (.lst (ns.map V.int))) = some u := upd_same.symm.trans y
          cases y2
          refine ⟨ha, ?_, vs, _, rel, ha⟩
          rw [List.length_map]
          exact hl
        · have y2 : (none : Option HO) = some u := (upd_ne i).symm.trans y
          cases y2
      · by_cases i : b = a
        · exact i
        · exact absurd (upd_ne i) y
    exact law_coreG e KX hns hb hbb hlim hg ha hr F hbind (hsp _ (.inl (.inr ⟨scriptO vs, upd_same⟩)))
end
/-- the end of a law whose def is called where no repr is under way -/
theorem walk_G {l : PySem.W.OpenLaw} {n k : Nat} {q : Program} {loose : List Str} {XP : (Str → Option Value) → Heap → Prop} {YP : World → Heap → Prop} {d : DefRec} {x : Str}
    (hn : l.most = some n) (hn2 : n ≤ sizeLine) (hdf : d.params.defaults = []) (hr : Room k callerA)
    (F : ∀ (w : World) (mg : Str → Option Value) (fa : Addr) (h : Heap), YP w h → h.Ns mainGlobals mg → mg d.name = some (.ref fa) →
      ∃ (K : PySem.W.Frag) (fd : FuncData) (sp : Sp), K.In h ∧ (∀ (s : Shared) (u : Value), BindsTo s fd ⟨[u], []⟩ [(x, u)]) ∧
        (∀ (H : Hp) (a : Addr) (ns : List Int), SqL K H a (ns.map V.int) → sp [.ref a] H (fun v _ => v = .bl true) noE) ∧
        ∀ base : Heap, K.In base → base.Ns mainGlobals mg → FnG l.prog w K mg base k fa fd [x] sp) :
    PySem.W.WalkO q loose XP YP l.row.toRowW d [] (fun f vs => PySem.call f vs) := by
  refine Att.attach_call hn hdf fun w s0 z mg mb fa o pm cd doc a vs ns G Y ho hd hcd hmg hobj hints hlen hg => ?_
  obtain ⟨K, fd, sp, KX, hb, hsp, hF⟩ := F w mg fa _ Y G.T.g hmg
  exact law_callG KX G.T.g G.T.b G.T.builtins G.T.nolimit hg hobj hints (Nat.le_trans hlen hn2) hr hF hb fun H => hsp H a ns
end L2


namespace K00
open PySem PySem.Spec PyProof.Rows L2 Ml
abbrev Fi (K : PySem.W.Frag) (i : Nat) (x qual : Str) (fd : FuncData) : Prop := FunD K "__init__" qual (defArgs (ini i)) (defBody (ini i)) (defScope (ini i)) [] [] (He.ma K (He.ga K x) "__init__") fd
section
variable {P : Program} {w : World} {K : PySem.W.Frag} {mg : Str → Option Value} {base : Heap} {fd : FuncData} {x f g qual : Str} {i : Nat}
theorem one_of {q1 q2 q3 q4 : Pos} (F : Fi K i x qual fd) (G : mg x = some (.ref (He.ga K x))) (B : ClsI K (He.ga K x) (He.ga K "LostError")) (no : PySem.W.findIn K (.ref (He.ga K x)) f = some none)
    (S : FnScope ["self", f] ["self", f] (defScope (ini i))) (hb : defBody (ini i) = iB1 f q1 q2 q3 q4) (pf : Plain f) (b1 : KBn K fd ["self", f] 2 [] (fun us _ => us) (fun vs _ => vs))
    (b2 : KBn K fd ["self", f] 1 [f] (fun us ws => us ++ ws) (fun vs zs => vs ++ zs)) : One P w K mg base x f :=
  ⟨G, B.T, B.iC, B.tI, fd, ok_init1 F S hb B.T no pf, b1, b2⟩
theorem two_of {q1 q2 q3 q4 r1 r2 r3 r4 : Pos} (F : Fi K i x qual fd) (G : mg x = some (.ref (He.ga K x))) (B : ClsI K (He.ga K x) (He.ga K "LostError")) (no : PySem.W.findIn K (.ref (He.ga K x)) f = some none) (no2 : PySem.W.findIn K (.ref (He.ga K x)) g = some none)
    (S : FnScope ["self", f, g] ["self", f, g] (defScope (ini i))) (hb : defBody (ini i) = iB2 f g q1 q2 q3 q4 r1 r2 r3 r4) (pf : Plain f) (pg : Plain g)
    (b1 : KBn K fd ["self", f, g] 3 [] (fun us _ => us) (fun vs _ => vs)) (b2 : KBn K fd ["self", f, g] 1 [f, g] (fun us ws => us ++ ws) (fun vs zs => vs ++ zs))
    (b3 : KBn K fd ["self", f, g] 1 [g, f] (fun us ws => us ++ ws.reverse) (fun vs zs => vs ++ zs.reverse)) (b4 : KBn K fd ["self", f, g] 2 [g] (fun us ws => us ++ ws) (fun vs zs => vs ++ zs)) : Two P w K mg base x f g :=
  ⟨G, B.T, B.iC, B.tI, fd, ok_init2 F S hb B.T no no2 pf pg, b1, b2, b3, b4⟩
theorem rel_app {vs zs : List V} {us ws : List Value} (r : Vals vs us) (q : Vals zs ws) : Vals (vs ++ zs) (us ++ ws) := r.append q
theorem rel_rev {vs zs : List V} {us ws : List Value} (r : Vals vs us) (q : Vals zs ws) : Vals (vs ++ zs.reverse) (us ++ ws.reverse) := r.append q.rev
theorem o2 (F : Fi K 2 "InvalidLine" "InvalidLine.__init__" fd) (G : mg "InvalidLine" = some (.ref (He.ga K "InvalidLine"))) (B : ClsI K (He.ga K "InvalidLine") (He.ga K "LostError")) (no : PySem.W.findIn K (.ref (He.ga K "InvalidLine")) "given" = some none) : One P w K mg base "InvalidLine" "given" :=
  one_of F G B no ⟨rfl, rfl, rfl, by decide +kernel, rfl, by decide +kernel, by decide +kernel⟩ rfl ⟨by decide, by decide⟩
    (F.kbn0 2 [] (fun us _ => us) (fun r _ => r) fun _ _ _ _ _ _ us ws l1 l2 => match us, ws, l1, l2 with | [_, _], [], _, _ => rfl)
    (F.kbn0 1 ["given"] (fun us ws => us ++ ws) rel_app fun _ _ _ _ _ _ us ws l1 l2 => match us, ws, l1, l2 with | [_], [_], _, _ => rfl)
theorem o3 (F : Fi K 3 "InvalidText" "InvalidText.__init__" fd) (G : mg "InvalidText" = some (.ref (He.ga K "InvalidText"))) (B : ClsI K (He.ga K "InvalidText") (He.ga K "LostError")) (no : PySem.W.findIn K (.ref (He.ga K "InvalidText")) "given" = some none) : One P w K mg base "InvalidText" "given" :=
  one_of F G B no ⟨rfl, rfl, rfl, by decide +kernel, rfl, by decide +kernel, by decide +kernel⟩ rfl ⟨by decide, by decide⟩
    (F.kbn0 2 [] (fun us _ => us) (fun r _ => r) fun _ _ _ _ _ _ us ws l1 l2 => match us, ws, l1, l2 with | [_, _], [], _, _ => rfl)
    (F.kbn0 1 ["given"] (fun us ws => us ++ ws) rel_app fun _ _ _ _ _ _ us ws l1 l2 => match us, ws, l1, l2 with | [_], [_], _, _ => rfl)
theorem o4 (F : Fi K 4 "InvalidHouses" "InvalidHouses.__init__" fd) (G : mg "InvalidHouses" = some (.ref (He.ga K "InvalidHouses"))) (B : ClsI K (He.ga K "InvalidHouses") (He.ga K "LostError")) (no : PySem.W.findIn K (.ref (He.ga K "InvalidHouses")) "given" = some none) : One P w K mg base "InvalidHouses" "given" :=
  one_of F G B no ⟨rfl, rfl, rfl, by decide +kernel, rfl, by decide +kernel, by decide +kernel⟩ rfl ⟨by decide, by decide⟩
    (F.kbn0 2 [] (fun us _ => us) (fun r _ => r) fun _ _ _ _ _ _ us ws l1 l2 => match us, ws, l1, l2 with | [_, _], [], _, _ => rfl)
    (F.kbn0 1 ["given"] (fun us ws => us ++ ws) rel_app fun _ _ _ _ _ _ us ws l1 l2 => match us, ws, l1, l2 with | [_], [_], _, _ => rfl)
theorem o5 (F : Fi K 5 "InvalidRoads" "InvalidRoads.__init__" fd) (G : mg "InvalidRoads" = some (.ref (He.ga K "InvalidRoads"))) (B : ClsI K (He.ga K "InvalidRoads") (He.ga K "LostError")) (no : PySem.W.findIn K (.ref (He.ga K "InvalidRoads")) "given" = some none) : One P w K mg base "InvalidRoads" "given" :=
  one_of F G B no ⟨rfl, rfl, rfl, by decide +kernel, rfl, by decide +kernel, by decide +kernel⟩ rfl ⟨by decide, by decide⟩
    (F.kbn0 2 [] (fun us _ => us) (fun r _ => r) fun _ _ _ _ _ _ us ws l1 l2 => match us, ws, l1, l2 with | [_, _], [], _, _ => rfl)
    (F.kbn0 1 ["given"] (fun us ws => us ++ ws) rel_app fun _ _ _ _ _ _ us ws l1 l2 => match us, ws, l1, l2 with | [_], [_], _, _ => rfl)
theorem o6 (F : Fi K 6 "InvalidHouse" "InvalidHouse.__init__" fd) (G : mg "InvalidHouse" = some (.ref (He.ga K "InvalidHouse"))) (B : ClsI K (He.ga K "InvalidHouse") (He.ga K "LostError")) (no : PySem.W.findIn K (.ref (He.ga K "InvalidHouse")) "given" = some none) : One P w K mg base "InvalidHouse" "given" :=
  one_of F G B no ⟨rfl, rfl, rfl, by decide +kernel, rfl, by decide +kernel, by decide +kernel⟩ rfl ⟨by decide, by decide⟩
    (F.kbn0 2 [] (fun us _ => us) (fun r _ => r) fun _ _ _ _ _ _ us ws l1 l2 => match us, ws, l1, l2 with | [_, _], [], _, _ => rfl)
    (F.kbn0 1 ["given"] (fun us ws => us ++ ws) rel_app fun _ _ _ _ _ _ us ws l1 l2 => match us, ws, l1, l2 with | [_], [_], _, _ => rfl)
theorem o7 (F : Fi K 7 "InvalidNames" "InvalidNames.__init__" fd) (G : mg "InvalidNames" = some (.ref (He.ga K "InvalidNames"))) (B : ClsI K (He.ga K "InvalidNames") (He.ga K "LostError")) (no : PySem.W.findIn K (.ref (He.ga K "InvalidNames")) "given" = some none) : One P w K mg base "InvalidNames" "given" :=
  one_of F G B no ⟨rfl, rfl, rfl, by decide +kernel, rfl, by decide +kernel, by decide +kernel⟩ rfl ⟨by decide, by decide⟩
    (F.kbn0 2 [] (fun us _ => us) (fun r _ => r) fun _ _ _ _ _ _ us ws l1 l2 => match us, ws, l1, l2 with | [_, _], [], _, _ => rfl)
    (F.kbn0 1 ["given"] (fun us ws => us ++ ws) rel_app fun _ _ _ _ _ _ us ws l1 l2 => match us, ws, l1, l2 with | [_], [_], _, _ => rfl)
theorem o8 (F : Fi K 8 "InvalidScript" "InvalidScript.__init__" fd) (G : mg "InvalidScript" = some (.ref (He.ga K "InvalidScript"))) (B : ClsI K (He.ga K "InvalidScript") (He.ga K "LostError")) (no : PySem.W.findIn K (.ref (He.ga K "InvalidScript")) "given" = some none) : One P w K mg base "InvalidScript" "given" :=
  one_of F G B no ⟨rfl, rfl, rfl, by decide +kernel, rfl, by decide +kernel, by decide +kernel⟩ rfl ⟨by decide, by decide⟩
    (F.kbn0 2 [] (fun us _ => us) (fun r _ => r) fun _ _ _ _ _ _ us ws l1 l2 => match us, ws, l1, l2 with | [_, _], [], _, _ => rfl)
    (F.kbn0 1 ["given"] (fun us ws => us ++ ws) rel_app fun _ _ _ _ _ _ us ws l1 l2 => match us, ws, l1, l2 with | [_], [_], _, _ => rfl)
theorem o9 (F : Fi K 9 "InvalidFounds" "InvalidFounds.__init__" fd) (G : mg "InvalidFounds" = some (.ref (He.ga K "InvalidFounds"))) (B : ClsI K (He.ga K "InvalidFounds") (He.ga K "LostError")) (no : PySem.W.findIn K (.ref (He.ga K "InvalidFounds")) "given" = some none) : One P w K mg base "InvalidFounds" "given" :=
  one_of F G B no ⟨rfl, rfl, rfl, by decide +kernel, rfl, by decide +kernel, by decide +kernel⟩ rfl ⟨by decide, by decide⟩
    (F.kbn0 2 [] (fun us _ => us) (fun r _ => r) fun _ _ _ _ _ _ us ws l1 l2 => match us, ws, l1, l2 with | [_, _], [], _, _ => rfl)
    (F.kbn0 1 ["given"] (fun us ws => us ++ ws) rel_app fun _ _ _ _ _ _ us ws l1 l2 => match us, ws, l1, l2 with | [_], [_], _, _ => rfl)
theorem o10 (F : Fi K 10 "InvalidCount" "InvalidCount.__init__" fd) (G : mg "InvalidCount" = some (.ref (He.ga K "InvalidCount"))) (B : ClsI K (He.ga K "InvalidCount") (He.ga K "LostError")) (no : PySem.W.findIn K (.ref (He.ga K "InvalidCount")) "given" = some none) : One P w K mg base "InvalidCount" "given" :=
  one_of F G B no ⟨rfl, rfl, rfl, by decide +kernel, rfl, by decide +kernel, by decide +kernel⟩ rfl ⟨by decide, by decide⟩
    (F.kbn0 2 [] (fun us _ => us) (fun r _ => r) fun _ _ _ _ _ _ us ws l1 l2 => match us, ws, l1, l2 with | [_, _], [], _, _ => rfl)
    (F.kbn0 1 ["given"] (fun us ws => us ++ ws) rel_app fun _ _ _ _ _ _ us ws l1 l2 => match us, ws, l1, l2 with | [_], [_], _, _ => rfl)
theorem o11 (F : Fi K 11 "InvalidCounts" "InvalidCounts.__init__" fd) (G : mg "InvalidCounts" = some (.ref (He.ga K "InvalidCounts"))) (B : ClsI K (He.ga K "InvalidCounts") (He.ga K "LostError")) (no : PySem.W.findIn K (.ref (He.ga K "InvalidCounts")) "given" = some none) : One P w K mg base "InvalidCounts" "given" :=
  one_of F G B no ⟨rfl, rfl, rfl, by decide +kernel, rfl, by decide +kernel, by decide +kernel⟩ rfl ⟨by decide, by decide⟩
    (F.kbn0 2 [] (fun us _ => us) (fun r _ => r) fun _ _ _ _ _ _ us ws l1 l2 => match us, ws, l1, l2 with | [_, _], [], _, _ => rfl)
    (F.kbn0 1 ["given"] (fun us ws => us ++ ws) rel_app fun _ _ _ _ _ _ us ws l1 l2 => match us, ws, l1, l2 with | [_], [_], _, _ => rfl)
theorem o12 (F : Fi K 12 "InvalidLater" "InvalidLater.__init__" fd) (G : mg "InvalidLater" = some (.ref (He.ga K "InvalidLater"))) (B : ClsI K (He.ga K "InvalidLater") (He.ga K "LostError")) (no : PySem.W.findIn K (.ref (He.ga K "InvalidLater")) "given" = some none) : One P w K mg base "InvalidLater" "given" :=
  one_of F G B no ⟨rfl, rfl, rfl, by decide +kernel, rfl, by decide +kernel, by decide +kernel⟩ rfl ⟨by decide, by decide⟩
    (F.kbn0 2 [] (fun us _ => us) (fun r _ => r) fun _ _ _ _ _ _ us ws l1 l2 => match us, ws, l1, l2 with | [_, _], [], _, _ => rfl)
    (F.kbn0 1 ["given"] (fun us ws => us ++ ws) rel_app fun _ _ _ _ _ _ us ws l1 l2 => match us, ws, l1, l2 with | [_], [_], _, _ => rfl)
theorem o13 (F : Fi K 13 "InvalidIndex" "InvalidIndex.__init__" fd) (G : mg "InvalidIndex" = some (.ref (He.ga K "InvalidIndex"))) (B : ClsI K (He.ga K "InvalidIndex") (He.ga K "LostError")) (no : PySem.W.findIn K (.ref (He.ga K "InvalidIndex")) "given" = some none) : One P w K mg base "InvalidIndex" "given" :=
  one_of F G B no ⟨rfl, rfl, rfl, by decide +kernel, rfl, by decide +kernel, by decide +kernel⟩ rfl ⟨by decide, by decide⟩
    (F.kbn0 2 [] (fun us _ => us) (fun r _ => r) fun _ _ _ _ _ _ us ws l1 l2 => match us, ws, l1, l2 with | [_, _], [], _, _ => rfl)
    (F.kbn0 1 ["given"] (fun us ws => us ++ ws) rel_app fun _ _ _ _ _ _ us ws l1 l2 => match us, ws, l1, l2 with | [_], [_], _, _ => rfl)
theorem o14 (F : Fi K 14 "InvalidReaders" "InvalidReaders.__init__" fd) (G : mg "InvalidReaders" = some (.ref (He.ga K "InvalidReaders"))) (B : ClsI K (He.ga K "InvalidReaders") (He.ga K "LostError")) (no : PySem.W.findIn K (.ref (He.ga K "InvalidReaders")) "given" = some none) : One P w K mg base "InvalidReaders" "given" :=
  one_of F G B no ⟨rfl, rfl, rfl, by decide +kernel, rfl, by decide +kernel, by decide +kernel⟩ rfl ⟨by decide, by decide⟩
    (F.kbn0 2 [] (fun us _ => us) (fun r _ => r) fun _ _ _ _ _ _ us ws l1 l2 => match us, ws, l1, l2 with | [_, _], [], _, _ => rfl)
    (F.kbn0 1 ["given"] (fun us ws => us ++ ws) rel_app fun _ _ _ _ _ _ us ws l1 l2 => match us, ws, l1, l2 with | [_], [_], _, _ => rfl)
theorem o15 (F : Fi K 15 "InvalidMap" "InvalidMap.__init__" fd) (G : mg "InvalidMap" = some (.ref (He.ga K "InvalidMap"))) (B : ClsI K (He.ga K "InvalidMap") (He.ga K "LostError")) (no : PySem.W.findIn K (.ref (He.ga K "InvalidMap")) "given" = some none) : One P w K mg base "InvalidMap" "given" :=
  one_of F G B no ⟨rfl, rfl, rfl, by decide +kernel, rfl, by decide +kernel, by decide +kernel⟩ rfl ⟨by decide, by decide⟩
    (F.kbn0 2 [] (fun us _ => us) (fun r _ => r) fun _ _ _ _ _ _ us ws l1 l2 => match us, ws, l1, l2 with | [_, _], [], _, _ => rfl)
    (F.kbn0 1 ["given"] (fun us ws => us ++ ws) rel_app fun _ _ _ _ _ _ us ws l1 l2 => match us, ws, l1, l2 with | [_], [_], _, _ => rfl)
theorem o16 (F : Fi K 16 "InvalidLot" "InvalidLot.__init__" fd) (G : mg "InvalidLot" = some (.ref (He.ga K "InvalidLot"))) (B : ClsI K (He.ga K "InvalidLot") (He.ga K "LostError")) (no : PySem.W.findIn K (.ref (He.ga K "InvalidLot")) "given" = some none) : One P w K mg base "InvalidLot" "given" :=
  one_of F G B no ⟨rfl, rfl, rfl, by decide +kernel, rfl, by decide +kernel, by decide +kernel⟩ rfl ⟨by decide, by decide⟩
    (F.kbn0 2 [] (fun us _ => us) (fun r _ => r) fun _ _ _ _ _ _ us ws l1 l2 => match us, ws, l1, l2 with | [_, _], [], _, _ => rfl)
    (F.kbn0 1 ["given"] (fun us ws => us ++ ws) rel_app fun _ _ _ _ _ _ us ws l1 l2 => match us, ws, l1, l2 with | [_], [_], _, _ => rfl)
theorem o17 (F : Fi K 17 "InvalidSeats" "InvalidSeats.__init__" fd) (G : mg "InvalidSeats" = some (.ref (He.ga K "InvalidSeats"))) (B : ClsI K (He.ga K "InvalidSeats") (He.ga K "LostError")) (no : PySem.W.findIn K (.ref (He.ga K "InvalidSeats")) "given" = some none) : One P w K mg base "InvalidSeats" "given" :=
  one_of F G B no ⟨rfl, rfl, rfl, by decide +kernel, rfl, by decide +kernel, by decide +kernel⟩ rfl ⟨by decide, by decide⟩
    (F.kbn0 2 [] (fun us _ => us) (fun r _ => r) fun _ _ _ _ _ _ us ws l1 l2 => match us, ws, l1, l2 with | [_, _], [], _, _ => rfl)
    (F.kbn0 1 ["given"] (fun us ws => us ++ ws) rel_app fun _ _ _ _ _ _ us ws l1 l2 => match us, ws, l1, l2 with | [_], [_], _, _ => rfl)
theorem o18 (F : Fi K 18 "InvalidName" "InvalidName.__init__" fd) (G : mg "InvalidName" = some (.ref (He.ga K "InvalidName"))) (B : ClsI K (He.ga K "InvalidName") (He.ga K "LostError")) (no : PySem.W.findIn K (.ref (He.ga K "InvalidName")) "given" = some none) : One P w K mg base "InvalidName" "given" :=
  one_of F G B no ⟨rfl, rfl, rfl, by decide +kernel, rfl, by decide +kernel, by decide +kernel⟩ rfl ⟨by decide, by decide⟩
    (F.kbn0 2 [] (fun us _ => us) (fun r _ => r) fun _ _ _ _ _ _ us ws l1 l2 => match us, ws, l1, l2 with | [_, _], [], _, _ => rfl)
    (F.kbn0 1 ["given"] (fun us ws => us ++ ws) rel_app fun _ _ _ _ _ _ us ws l1 l2 => match us, ws, l1, l2 with | [_], [_], _, _ => rfl)
theorem o19 (F : Fi K 19 "InvalidOwns" "InvalidOwns.__init__" fd) (G : mg "InvalidOwns" = some (.ref (He.ga K "InvalidOwns"))) (B : ClsI K (He.ga K "InvalidOwns") (He.ga K "LostError")) (no : PySem.W.findIn K (.ref (He.ga K "InvalidOwns")) "given" = some none) : One P w K mg base "InvalidOwns" "given" :=
  one_of F G B no ⟨rfl, rfl, rfl, by decide +kernel, rfl, by decide +kernel, by decide +kernel⟩ rfl ⟨by decide, by decide⟩
    (F.kbn0 2 [] (fun us _ => us) (fun r _ => r) fun _ _ _ _ _ _ us ws l1 l2 => match us, ws, l1, l2 with | [_, _], [], _, _ => rfl)
    (F.kbn0 1 ["given"] (fun us ws => us ++ ws) rel_app fun _ _ _ _ _ _ us ws l1 l2 => match us, ws, l1, l2 with | [_], [_], _, _ => rfl)
theorem o20 (F : Fi K 20 "InvalidLines" "InvalidLines.__init__" fd) (G : mg "InvalidLines" = some (.ref (He.ga K "InvalidLines"))) (B : ClsI K (He.ga K "InvalidLines") (He.ga K "LostError")) (no : PySem.W.findIn K (.ref (He.ga K "InvalidLines")) "given" = some none) : One P w K mg base "InvalidLines" "given" :=
  one_of F G B no ⟨rfl, rfl, rfl, by decide +kernel, rfl, by decide +kernel, by decide +kernel⟩ rfl ⟨by decide, by decide⟩
    (F.kbn0 2 [] (fun us _ => us) (fun r _ => r) fun _ _ _ _ _ _ us ws l1 l2 => match us, ws, l1, l2 with | [_, _], [], _, _ => rfl)
    (F.kbn0 1 ["given"] (fun us ws => us ++ ws) rel_app fun _ _ _ _ _ _ us ws l1 l2 => match us, ws, l1, l2 with | [_], [_], _, _ => rfl)
theorem o21 (F : Fi K 21 "InvalidWriters" "InvalidWriters.__init__" fd) (G : mg "InvalidWriters" = some (.ref (He.ga K "InvalidWriters"))) (B : ClsI K (He.ga K "InvalidWriters") (He.ga K "LostError")) (no : PySem.W.findIn K (.ref (He.ga K "InvalidWriters")) "given" = some none) : One P w K mg base "InvalidWriters" "given" :=
  one_of F G B no ⟨rfl, rfl, rfl, by decide +kernel, rfl, by decide +kernel, by decide +kernel⟩ rfl ⟨by decide, by decide⟩
    (F.kbn0 2 [] (fun us _ => us) (fun r _ => r) fun _ _ _ _ _ _ us ws l1 l2 => match us, ws, l1, l2 with | [_, _], [], _, _ => rfl)
    (F.kbn0 1 ["given"] (fun us ws => us ++ ws) rel_app fun _ _ _ _ _ _ us ws l1 l2 => match us, ws, l1, l2 with | [_], [_], _, _ => rfl)
theorem o22 (F : Fi K 22 "InvalidRows" "InvalidRows.__init__" fd) (G : mg "InvalidRows" = some (.ref (He.ga K "InvalidRows"))) (B : ClsI K (He.ga K "InvalidRows") (He.ga K "LostError")) (no : PySem.W.findIn K (.ref (He.ga K "InvalidRows")) "given" = some none) : One P w K mg base "InvalidRows" "given" :=
  one_of F G B no ⟨rfl, rfl, rfl, by decide +kernel, rfl, by decide +kernel, by decide +kernel⟩ rfl ⟨by decide, by decide⟩
    (F.kbn0 2 [] (fun us _ => us) (fun r _ => r) fun _ _ _ _ _ _ us ws l1 l2 => match us, ws, l1, l2 with | [_, _], [], _, _ => rfl)
    (F.kbn0 1 ["given"] (fun us ws => us ++ ws) rel_app fun _ _ _ _ _ _ us ws l1 l2 => match us, ws, l1, l2 with | [_], [_], _, _ => rfl)
theorem o23 (F : Fi K 23 "NotJoined" "NotJoined.__init__" fd) (G : mg "NotJoined" = some (.ref (He.ga K "NotJoined"))) (B : ClsI K (He.ga K "NotJoined") (He.ga K "LostError")) (no : PySem.W.findIn K (.ref (He.ga K "NotJoined")) "house" = some none) : One P w K mg base "NotJoined" "house" :=
  one_of F G B no ⟨rfl, rfl, rfl, by decide +kernel, rfl, by decide +kernel, by decide +kernel⟩ rfl ⟨by decide, by decide⟩
    (F.kbn0 2 [] (fun us _ => us) (fun r _ => r) fun _ _ _ _ _ _ us ws l1 l2 => match us, ws, l1, l2 with | [_, _], [], _, _ => rfl)
    (F.kbn0 1 ["house"] (fun us ws => us ++ ws) rel_app fun _ _ _ _ _ _ us ws l1 l2 => match us, ws, l1, l2 with | [_], [_], _, _ => rfl)
theorem o25 (F : Fi K 25 "Stopped" "Stopped.__init__" fd) (G : mg "Stopped" = some (.ref (He.ga K "Stopped"))) (B : ClsI K (He.ga K "Stopped") (He.ga K "LostError")) (no : PySem.W.findIn K (.ref (He.ga K "Stopped")) "house" = some none) : One P w K mg base "Stopped" "house" :=
  one_of F G B no ⟨rfl, rfl, rfl, by decide +kernel, rfl, by decide +kernel, by decide +kernel⟩ rfl ⟨by decide, by decide⟩
    (F.kbn0 2 [] (fun us _ => us) (fun r _ => r) fun _ _ _ _ _ _ us ws l1 l2 => match us, ws, l1, l2 with | [_, _], [], _, _ => rfl)
    (F.kbn0 1 ["house"] (fun us ws => us ++ ws) rel_app fun _ _ _ _ _ _ us ws l1 l2 => match us, ws, l1, l2 with | [_], [_], _, _ => rfl)
theorem o28 (F : Fi K 28 "Refused" "Refused.__init__" fd) (G : mg "Refused" = some (.ref (He.ga K "Refused"))) (B : ClsI K (He.ga K "Refused") (He.ga K "LostError")) (no : PySem.W.findIn K (.ref (He.ga K "Refused")) "at" = some none) : One P w K mg base "Refused" "at" :=
  one_of F G B no ⟨rfl, rfl, rfl, by decide +kernel, rfl, by decide +kernel, by decide +kernel⟩ rfl ⟨by decide, by decide⟩
    (F.kbn0 2 [] (fun us _ => us) (fun r _ => r) fun _ _ _ _ _ _ us ws l1 l2 => match us, ws, l1, l2 with | [_, _], [], _, _ => rfl)
    (F.kbn0 1 ["at"] (fun us ws => us ++ ws) rel_app fun _ _ _ _ _ _ us ws l1 l2 => match us, ws, l1, l2 with | [_], [_], _, _ => rfl)
theorem o30 (F : Fi K 30 "Ringed" "Ringed.__init__" fd) (G : mg "Ringed" = some (.ref (He.ga K "Ringed"))) (B : ClsI K (He.ga K "Ringed") (He.ga K "LostError")) (no : PySem.W.findIn K (.ref (He.ga K "Ringed")) "names" = some none) : One P w K mg base "Ringed" "names" :=
  one_of F G B no ⟨rfl, rfl, rfl, by decide +kernel, rfl, by decide +kernel, by decide +kernel⟩ rfl ⟨by decide, by decide⟩
    (F.kbn0 2 [] (fun us _ => us) (fun r _ => r) fun _ _ _ _ _ _ us ws l1 l2 => match us, ws, l1, l2 with | [_, _], [], _, _ => rfl)
    (F.kbn0 1 ["names"] (fun us ws => us ++ ws) rel_app fun _ _ _ _ _ _ us ws l1 l2 => match us, ws, l1, l2 with | [_], [_], _, _ => rfl)
theorem o31 (F : Fi K 31 "NoRow" "NoRow.__init__" fd) (G : mg "NoRow" = some (.ref (He.ga K "NoRow"))) (B : ClsI K (He.ga K "NoRow") (He.ga K "LostError")) (no : PySem.W.findIn K (.ref (He.ga K "NoRow")) "names" = some none) : One P w K mg base "NoRow" "names" :=
  one_of F G B no ⟨rfl, rfl, rfl, by decide +kernel, rfl, by decide +kernel, by decide +kernel⟩ rfl ⟨by decide, by decide⟩
    (F.kbn0 2 [] (fun us _ => us) (fun r _ => r) fun _ _ _ _ _ _ us ws l1 l2 => match us, ws, l1, l2 with | [_, _], [], _, _ => rfl)
    (F.kbn0 1 ["names"] (fun us ws => us ++ ws) rel_app fun _ _ _ _ _ _ us ws l1 l2 => match us, ws, l1, l2 with | [_], [_], _, _ => rfl)
theorem o32 (F : Fi K 32 "NotTwo" "NotTwo.__init__" fd) (G : mg "NotTwo" = some (.ref (He.ga K "NotTwo"))) (B : ClsI K (He.ga K "NotTwo") (He.ga K "LostError")) (no : PySem.W.findIn K (.ref (He.ga K "NotTwo")) "many" = some none) : One P w K mg base "NotTwo" "many" :=
  one_of F G B no ⟨rfl, rfl, rfl, by decide +kernel, rfl, by decide +kernel, by decide +kernel⟩ rfl ⟨by decide, by decide⟩
    (F.kbn0 2 [] (fun us _ => us) (fun r _ => r) fun _ _ _ _ _ _ us ws l1 l2 => match us, ws, l1, l2 with | [_, _], [], _, _ => rfl)
    (F.kbn0 1 ["many"] (fun us ws => us ++ ws) rel_app fun _ _ _ _ _ _ us ws l1 l2 => match us, ws, l1, l2 with | [_], [_], _, _ => rfl)
theorem o33 (F : Fi K 33 "Nobodys" "Nobodys.__init__" fd) (G : mg "Nobodys" = some (.ref (He.ga K "Nobodys"))) (B : ClsI K (He.ga K "Nobodys") (He.ga K "LostError")) (no : PySem.W.findIn K (.ref (He.ga K "Nobodys")) "picture" = some none) : One P w K mg base "Nobodys" "picture" :=
  one_of F G B no ⟨rfl, rfl, rfl, by decide +kernel, rfl, by decide +kernel, by decide +kernel⟩ rfl ⟨by decide, by decide⟩
    (F.kbn0 2 [] (fun us _ => us) (fun r _ => r) fun _ _ _ _ _ _ us ws l1 l2 => match us, ws, l1, l2 with | [_, _], [], _, _ => rfl)
    (F.kbn0 1 ["picture"] (fun us ws => us ++ ws) rel_app fun _ _ _ _ _ _ us ws l1 l2 => match us, ws, l1, l2 with | [_], [_], _, _ => rfl)
theorem o34 (F : Fi K 34 "Crossed" "Crossed.__init__" fd) (G : mg "Crossed" = some (.ref (He.ga K "Crossed"))) (B : ClsI K (He.ga K "Crossed") (He.ga K "LostError")) (no : PySem.W.findIn K (.ref (He.ga K "Crossed")) "cross" = some none) : One P w K mg base "Crossed" "cross" :=
  one_of F G B no ⟨rfl, rfl, rfl, by decide +kernel, rfl, by decide +kernel, by decide +kernel⟩ rfl ⟨by decide, by decide⟩
    (F.kbn0 2 [] (fun us _ => us) (fun r _ => r) fun _ _ _ _ _ _ us ws l1 l2 => match us, ws, l1, l2 with | [_, _], [], _, _ => rfl)
    (F.kbn0 1 ["cross"] (fun us ws => us ++ ws) rel_app fun _ _ _ _ _ _ us ws l1 l2 => match us, ws, l1, l2 with | [_], [_], _, _ => rfl)
theorem o35 (F : Fi K 35 "NotWhole" "NotWhole.__init__" fd) (G : mg "NotWhole" = some (.ref (He.ga K "NotWhole"))) (B : ClsI K (He.ga K "NotWhole") (He.ga K "LostError")) (no : PySem.W.findIn K (.ref (He.ga K "NotWhole")) "reader" = some none) : One P w K mg base "NotWhole" "reader" :=
  one_of F G B no ⟨rfl, rfl, rfl, by decide +kernel, rfl, by decide +kernel, by decide +kernel⟩ rfl ⟨by decide, by decide⟩
    (F.kbn0 2 [] (fun us _ => us) (fun r _ => r) fun _ _ _ _ _ _ us ws l1 l2 => match us, ws, l1, l2 with | [_, _], [], _, _ => rfl)
    (F.kbn0 1 ["reader"] (fun us ws => us ++ ws) rel_app fun _ _ _ _ _ _ us ws l1 l2 => match us, ws, l1, l2 with | [_], [_], _, _ => rfl)
theorem o36 (F : Fi K 36 "Fitless" "Fitless.__init__" fd) (G : mg "Fitless" = some (.ref (He.ga K "Fitless"))) (B : ClsI K (He.ga K "Fitless") (He.ga K "LostError")) (no : PySem.W.findIn K (.ref (He.ga K "Fitless")) "picture" = some none) : One P w K mg base "Fitless" "picture" :=
  one_of F G B no ⟨rfl, rfl, rfl, by decide +kernel, rfl, by decide +kernel, by decide +kernel⟩ rfl ⟨by decide, by decide⟩
    (F.kbn0 2 [] (fun us _ => us) (fun r _ => r) fun _ _ _ _ _ _ us ws l1 l2 => match us, ws, l1, l2 with | [_, _], [], _, _ => rfl)
    (F.kbn0 1 ["picture"] (fun us ws => us ++ ws) rel_app fun _ _ _ _ _ _ us ws l1 l2 => match us, ws, l1, l2 with | [_], [_], _, _ => rfl)
theorem o37 (F : Fi K 37 "Clash" "Clash.__init__" fd) (G : mg "Clash" = some (.ref (He.ga K "Clash"))) (B : ClsI K (He.ga K "Clash") (He.ga K "LostError")) (no : PySem.W.findIn K (.ref (He.ga K "Clash")) "reader" = some none) : One P w K mg base "Clash" "reader" :=
  one_of F G B no ⟨rfl, rfl, rfl, by decide +kernel, rfl, by decide +kernel, by decide +kernel⟩ rfl ⟨by decide, by decide⟩
    (F.kbn0 2 [] (fun us _ => us) (fun r _ => r) fun _ _ _ _ _ _ us ws l1 l2 => match us, ws, l1, l2 with | [_, _], [], _, _ => rfl)
    (F.kbn0 1 ["reader"] (fun us ws => us ++ ws) rel_app fun _ _ _ _ _ _ us ws l1 l2 => match us, ws, l1, l2 with | [_], [_], _, _ => rfl)
theorem o38 (F : Fi K 38 "TooMany" "TooMany.__init__" fd) (G : mg "TooMany" = some (.ref (He.ga K "TooMany"))) (B : ClsI K (He.ga K "TooMany") (He.ga K "LostError")) (no : PySem.W.findIn K (.ref (He.ga K "TooMany")) "count" = some none) : One P w K mg base "TooMany" "count" :=
  one_of F G B no ⟨rfl, rfl, rfl, by decide +kernel, rfl, by decide +kernel, by decide +kernel⟩ rfl ⟨by decide, by decide⟩
    (F.kbn0 2 [] (fun us _ => us) (fun r _ => r) fun _ _ _ _ _ _ us ws l1 l2 => match us, ws, l1, l2 with | [_, _], [], _, _ => rfl)
    (F.kbn0 1 ["count"] (fun us ws => us ++ ws) rel_app fun _ _ _ _ _ _ us ws l1 l2 => match us, ws, l1, l2 with | [_], [_], _, _ => rfl)
theorem o39 (F : Fi K 39 "NoLetter" "NoLetter.__init__" fd) (G : mg "NoLetter" = some (.ref (He.ga K "NoLetter"))) (B : ClsI K (He.ga K "NoLetter") (He.ga K "LostError")) (no : PySem.W.findIn K (.ref (He.ga K "NoLetter")) "k" = some none) : One P w K mg base "NoLetter" "k" :=
  one_of F G B no ⟨rfl, rfl, rfl, by decide +kernel, rfl, by decide +kernel, by decide +kernel⟩ rfl ⟨by decide, by decide⟩
    (F.kbn0 2 [] (fun us _ => us) (fun r _ => r) fun _ _ _ _ _ _ us ws l1 l2 => match us, ws, l1, l2 with | [_, _], [], _, _ => rfl)
    (F.kbn0 1 ["k"] (fun us ws => us ++ ws) rel_app fun _ _ _ _ _ _ us ws l1 l2 => match us, ws, l1, l2 with | [_], [_], _, _ => rfl)
theorem o24 (F : Fi K 24 "NotARoad" "NotARoad.__init__" fd) (G : mg "NotARoad" = some (.ref (He.ga K "NotARoad"))) (B : ClsI K (He.ga K "NotARoad") (He.ga K "LostError")) (no : PySem.W.findIn K (.ref (He.ga K "NotARoad")) "u" = some none)
    (no2 : PySem.W.findIn K (.ref (He.ga K "NotARoad")) "v" = some none) : Two P w K mg base "NotARoad" "u" "v" :=
  two_of F G B no no2 ⟨rfl, rfl, rfl, by decide +kernel, rfl, by decide +kernel, by decide +kernel⟩ rfl ⟨by decide, by decide⟩ ⟨by decide, by decide⟩
    (F.kbn0 3 [] (fun us _ => us) (fun r _ => r) fun _ _ _ _ _ _ us ws l1 l2 => match us, ws, l1, l2 with | [_, _, _], [], _, _ => rfl)
    (F.kbn0 1 ["u", "v"] (fun us ws => us ++ ws) rel_app fun _ _ _ _ _ _ us ws l1 l2 => match us, ws, l1, l2 with | [_], [_, _], _, _ => rfl)
    (F.kbn0 1 ["v", "u"] (fun us ws => us ++ ws.reverse) rel_rev fun _ _ _ _ _ _ us ws l1 l2 => match us, ws, l1, l2 with | [_], [_, _], _, _ => rfl)
    (F.kbn0 2 ["v"] (fun us ws => us ++ ws) rel_app fun _ _ _ _ _ _ us ws l1 l2 => match us, ws, l1, l2 with | [_, _], [_], _, _ => rfl)
theorem o26 (F : Fi K 26 "Twice" "Twice.__init__" fd) (G : mg "Twice" = some (.ref (He.ga K "Twice"))) (B : ClsI K (He.ga K "Twice") (He.ga K "LostError")) (no : PySem.W.findIn K (.ref (He.ga K "Twice")) "house" = some none)
    (no2 : PySem.W.findIn K (.ref (He.ga K "Twice")) "text" = some none) : Two P w K mg base "Twice" "house" "text" :=
  two_of F G B no no2 ⟨rfl, rfl, rfl, by decide +kernel, rfl, by decide +kernel, by decide +kernel⟩ rfl ⟨by decide, by decide⟩ ⟨by decide, by decide⟩
    (F.kbn0 3 [] (fun us _ => us) (fun r _ => r) fun _ _ _ _ _ _ us ws l1 l2 => match us, ws, l1, l2 with | [_, _, _], [], _, _ => rfl)
    (F.kbn0 1 ["house", "text"] (fun us ws => us ++ ws) rel_app fun _ _ _ _ _ _ us ws l1 l2 => match us, ws, l1, l2 with | [_], [_, _], _, _ => rfl)
    (F.kbn0 1 ["text", "house"] (fun us ws => us ++ ws.reverse) rel_rev fun _ _ _ _ _ _ us ws l1 l2 => match us, ws, l1, l2 with | [_], [_, _], _, _ => rfl)
    (F.kbn0 2 ["text"] (fun us ws => us ++ ws) rel_app fun _ _ _ _ _ _ us ws l1 l2 => match us, ws, l1, l2 with | [_, _], [_], _, _ => rfl)
theorem o27 (F : Fi K 27 "NothingUnderWay" "NothingUnderWay.__init__" fd) (G : mg "NothingUnderWay" = some (.ref (He.ga K "NothingUnderWay"))) (B : ClsI K (He.ga K "NothingUnderWay") (He.ga K "LostError")) (no : PySem.W.findIn K (.ref (He.ga K "NothingUnderWay")) "u" = some none)
    (no2 : PySem.W.findIn K (.ref (He.ga K "NothingUnderWay")) "v" = some none) : Two P w K mg base "NothingUnderWay" "u" "v" :=
  two_of F G B no no2 ⟨rfl, rfl, rfl, by decide +kernel, rfl, by decide +kernel, by decide +kernel⟩ rfl ⟨by decide, by decide⟩ ⟨by decide, by decide⟩
    (F.kbn0 3 [] (fun us _ => us) (fun r _ => r) fun _ _ _ _ _ _ us ws l1 l2 => match us, ws, l1, l2 with | [_, _, _], [], _, _ => rfl)
    (F.kbn0 1 ["u", "v"] (fun us ws => us ++ ws) rel_app fun _ _ _ _ _ _ us ws l1 l2 => match us, ws, l1, l2 with | [_], [_, _], _, _ => rfl)
    (F.kbn0 1 ["v", "u"] (fun us ws => us ++ ws.reverse) rel_rev fun _ _ _ _ _ _ us ws l1 l2 => match us, ws, l1, l2 with | [_], [_, _], _, _ => rfl)
    (F.kbn0 2 ["v"] (fun us ws => us ++ ws) rel_app fun _ _ _ _ _ _ us ws l1 l2 => match us, ws, l1, l2 with | [_, _], [_], _, _ => rfl)
theorem o29 (F : Fi K 29 "NotRight" "NotRight.__init__" fd) (G : mg "NotRight" = some (.ref (He.ga K "NotRight"))) (B : ClsI K (He.ga K "NotRight") (He.ga K "LostError")) (no : PySem.W.findIn K (.ref (He.ga K "NotRight")) "road" = some none)
    (no2 : PySem.W.findIn K (.ref (He.ga K "NotRight")) "lines" = some none) : Two P w K mg base "NotRight" "road" "lines" :=
  two_of F G B no no2 ⟨rfl, rfl, rfl, by decide +kernel, rfl, by decide +kernel, by decide +kernel⟩ rfl ⟨by decide, by decide⟩ ⟨by decide, by decide⟩
    (F.kbn0 3 [] (fun us _ => us) (fun r _ => r) fun _ _ _ _ _ _ us ws l1 l2 => match us, ws, l1, l2 with | [_, _, _], [], _, _ => rfl)
    (F.kbn0 1 ["road", "lines"] (fun us ws => us ++ ws) rel_app fun _ _ _ _ _ _ us ws l1 l2 => match us, ws, l1, l2 with | [_], [_, _], _, _ => rfl)
    (F.kbn0 1 ["lines", "road"] (fun us ws => us ++ ws.reverse) rel_rev fun _ _ _ _ _ _ us ws l1 l2 => match us, ws, l1, l2 with | [_], [_, _], _, _ => rfl)
    (F.kbn0 2 ["lines"] (fun us ws => us ++ ws) rel_app fun _ _ _ _ _ _ us ws l1 l2 => match us, ws, l1, l2 with | [_, _], [_], _, _ => rfl)
end
end K00

namespace K00
open PySem PySem.Spec PyProof.Rows L2 Ml
theorem fact_of {fa : List He.Fa} {fn : List He.DefD} {K : PySem.W.Frag} (c : He.SaysD fa fn K) {f : He.Fa} (h : f ∈ fa) : f.ok K = true := by
  obtain ⟨i, e⟩ := List.mem_iff_getElem?.mp h
  exact c.fact i e
theorem consAll {α : Type} {p : α → Prop} {a : α} {l : List α} (h : p a) (t : ∀ x ∈ l, p x) : ∀ x ∈ a :: l, p x := fun x hx => (List.mem_cons.mp hx).elim (fun e => e ▸ h) fun m => t x m
section
variable {P : Program} {w : World} {K : PySem.W.Frag} {h : Heap} {mg : Str → Option Value} {base : Heap}
theorem all1 (c : He.SaysD fa fn K) (M : ∀ {x : Str}, x ∈ nms → mg x = some (.ref (He.ga K x))) (B : ∀ {x : Str}, x ∈ nms → ClsI K (He.ga K x) (He.ga K "LostError"))
    (N : ∀ {x f : Str}, (x, f) ∈ cl1 → PySem.W.findIn K (.ref (He.ga K x)) f = some none) : ∀ q ∈ cl1, One P w K mg base q.1 q.2 :=
  consAll ((c.def_ 0 (d := dC 2 "InvalidLine" "InvalidLine.__init__") rfl).elim fun _ F => o2 F (M (by decide +kernel)) (B (by decide +kernel)) (N (by decide +kernel)))
  (consAll ((c.def_ 1 (d := dC 3 "InvalidText" "InvalidText.__init__") rfl).elim fun _ F => o3 F (M (by decide +kernel)) (B (by decide +kernel)) (N (by decide +kernel)))
  (consAll ((c.def_ 2 (d := dC 4 "InvalidHouses" "InvalidHouses.__init__") rfl).elim fun _ F => o4 F (M (by decide +kernel)) (B (by decide +kernel)) (N (by decide +kernel)))
  (consAll ((c.def_ 3 (d := dC 5 "InvalidRoads" "InvalidRoads.__init__") rfl).elim fun _ F => o5 F (M (by decide +kernel)) (B (by decide +kernel)) (N (by decide +kernel)))
  (consAll ((c.def_ 4 (d := dC 6 "InvalidHouse" "InvalidHouse.__init__") rfl).elim fun _ F => o6 F (M (by decide +kernel)) (B (by decide +kernel)) (N (by decide +kernel)))
  (consAll ((c.def_ 5 (d := dC 7 "InvalidNames" "InvalidNames.__init__") rfl).elim fun _ F => o7 F (M (by decide +kernel)) (B (by decide +kernel)) (N (by decide +kernel)))
  (consAll ((c.def_ 6 (d := dC 8 "InvalidScript" "InvalidScript.__init__") rfl).elim fun _ F => o8 F (M (by decide +kernel)) (B (by decide +kernel)) (N (by decide +kernel)))
  (consAll ((c.def_ 7 (d := dC 9 "InvalidFounds" "InvalidFounds.__init__") rfl).elim fun _ F => o9 F (M (by decide +kernel)) (B (by decide +kernel)) (N (by decide +kernel)))
  (consAll ((c.def_ 8 (d := dC 10 "InvalidCount" "InvalidCount.__init__") rfl).elim fun _ F => o10 F (M (by decide +kernel)) (B (by decide +kernel)) (N (by decide +kernel)))
  (consAll ((c.def_ 9 (d := dC 11 "InvalidCounts" "InvalidCounts.__init__") rfl).elim fun _ F => o11 F (M (by decide +kernel)) (B (by decide +kernel)) (N (by decide +kernel)))
  (consAll ((c.def_ 10 (d := dC 12 "InvalidLater" "InvalidLater.__init__") rfl).elim fun _ F => o12 F (M (by decide +kernel)) (B (by decide +kernel)) (N (by decide +kernel)))
  (consAll ((c.def_ 11 (d := dC 13 "InvalidIndex" "InvalidIndex.__init__") rfl).elim fun _ F => o13 F (M (by decide +kernel)) (B (by decide +kernel)) (N (by decide +kernel)))
  (consAll ((c.def_ 12 (d := dC 14 "InvalidReaders" "InvalidReaders.__init__") rfl).elim fun _ F => o14 F (M (by decide +kernel)) (B (by decide +kernel)) (N (by decide +kernel)))
  (consAll ((c.def_ 13 (d := dC 15 "InvalidMap" "InvalidMap.__init__") rfl).elim fun _ F => o15 F (M (by decide +kernel)) (B (by decide +kernel)) (N (by decide +kernel)))
  (consAll ((c.def_ 14 (d := dC 16 "InvalidLot" "InvalidLot.__init__") rfl).elim fun _ F => o16 F (M (by decide +kernel)) (B (by decide +kernel)) (N (by decide +kernel)))
  (consAll ((c.def_ 15 (d := dC 17 "InvalidSeats" "InvalidSeats.__init__") rfl).elim fun _ F => o17 F (M (by decide +kernel)) (B (by decide +kernel)) (N (by decide +kernel)))
  (consAll ((c.def_ 16 (d := dC 18 "InvalidName" "InvalidName.__init__") rfl).elim fun _ F => o18 F (M (by decide +kernel)) (B (by decide +kernel)) (N (by decide +kernel)))
  (consAll ((c.def_ 17 (d := dC 19 "InvalidOwns" "InvalidOwns.__init__") rfl).elim fun _ F => o19 F (M (by decide +kernel)) (B (by decide +kernel)) (N (by decide +kernel)))
  (consAll ((c.def_ 18 (d := dC 20 "InvalidLines" "InvalidLines.__init__") rfl).elim fun _ F => o20 F (M (by decide +kernel)) (B (by decide +kernel)) (N (by decide +kernel)))
  (consAll ((c.def_ 19 (d := dC 21 "InvalidWriters" "InvalidWriters.__init__") rfl).elim fun _ F => o21 F (M (by decide +kernel)) (B (by decide +kernel)) (N (by decide +kernel)))
  (consAll ((c.def_ 20 (d := dC 22 "InvalidRows" "InvalidRows.__init__") rfl).elim fun _ F => o22 F (M (by decide +kernel)) (B (by decide +kernel)) (N (by decide +kernel)))
  (consAll ((c.def_ 21 (d := dC 23 "NotJoined" "NotJoined.__init__") rfl).elim fun _ F => o23 F (M (by decide +kernel)) (B (by decide +kernel)) (N (by decide +kernel)))
  (consAll ((c.def_ 23 (d := dC 25 "Stopped" "Stopped.__init__") rfl).elim fun _ F => o25 F (M (by decide +kernel)) (B (by decide +kernel)) (N (by decide +kernel)))
  (consAll ((c.def_ 26 (d := dC 28 "Refused" "Refused.__init__") rfl).elim fun _ F => o28 F (M (by decide +kernel)) (B (by decide +kernel)) (N (by decide +kernel)))
  (consAll ((c.def_ 28 (d := dC 30 "Ringed" "Ringed.__init__") rfl).elim fun _ F => o30 F (M (by decide +kernel)) (B (by decide +kernel)) (N (by decide +kernel)))
  (consAll ((c.def_ 29 (d := dC 31 "NoRow" "NoRow.__init__") rfl).elim fun _ F => o31 F (M (by decide +kernel)) (B (by decide +kernel)) (N (by decide +kernel)))
  (consAll ((c.def_ 30 (d := dC 32 "NotTwo" "NotTwo.__init__") rfl).elim fun _ F => o32 F (M (by decide +kernel)) (B (by decide +kernel)) (N (by decide +kernel)))
  (consAll ((c.def_ 31 (d := dC 33 "Nobodys" "Nobodys.__init__") rfl).elim fun _ F => o33 F (M (by decide +kernel)) (B (by decide +kernel)) (N (by decide +kernel)))
  (consAll ((c.def_ 32 (d := dC 34 "Crossed" "Crossed.__init__") rfl).elim fun _ F => o34 F (M (by decide +kernel)) (B (by decide +kernel)) (N (by decide +kernel)))
  (consAll ((c.def_ 33 (d := dC 35 "NotWhole" "NotWhole.__init__") rfl).elim fun _ F => o35 F (M (by decide +kernel)) (B (by decide +kernel)) (N (by decide +kernel)))
  (consAll ((c.def_ 34 (d := dC 36 "Fitless" "Fitless.__init__") rfl).elim fun _ F => o36 F (M (by decide +kernel)) (B (by decide +kernel)) (N (by decide +kernel)))
  (consAll ((c.def_ 35 (d := dC 37 "Clash" "Clash.__init__") rfl).elim fun _ F => o37 F (M (by decide +kernel)) (B (by decide +kernel)) (N (by decide +kernel)))
  (consAll ((c.def_ 36 (d := dC 38 "TooMany" "TooMany.__init__") rfl).elim fun _ F => o38 F (M (by decide +kernel)) (B (by decide +kernel)) (N (by decide +kernel)))
  (consAll ((c.def_ 37 (d := dC 39 "NoLetter" "NoLetter.__init__") rfl).elim fun _ F => o39 F (M (by decide +kernel)) (B (by decide +kernel)) (N (by decide +kernel)))
  (fun _ h => nomatch h))))))))))))))))))))))))))))))))))
theorem all2 (c : He.SaysD fa fn K) (M : ∀ {x : Str}, x ∈ nms → mg x = some (.ref (He.ga K x))) (B : ∀ {x : Str}, x ∈ nms → ClsI K (He.ga K x) (He.ga K "LostError"))
    (N : ∀ {x f g : Str}, (x, f, g) ∈ cl2 → PySem.W.findIn K (.ref (He.ga K x)) f = some none ∧ PySem.W.findIn K (.ref (He.ga K x)) g = some none) : ∀ q ∈ cl2, Two P w K mg base q.1 q.2.1 q.2.2 :=
  consAll ((c.def_ 22 (d := dC 24 "NotARoad" "NotARoad.__init__") rfl).elim fun _ F => o24 F (M (by decide +kernel)) (B (by decide +kernel)) (N (g := "v") (by decide +kernel)).1 (N (f := "u") (by decide +kernel)).2)
  (consAll ((c.def_ 24 (d := dC 26 "Twice" "Twice.__init__") rfl).elim fun _ F => o26 F (M (by decide +kernel)) (B (by decide +kernel)) (N (g := "text") (by decide +kernel)).1 (N (f := "house") (by decide +kernel)).2)
  (consAll ((c.def_ 25 (d := dC 27 "NothingUnderWay" "NothingUnderWay.__init__") rfl).elim fun _ F => o27 F (M (by decide +kernel)) (B (by decide +kernel)) (N (g := "v") (by decide +kernel)).1 (N (f := "u") (by decide +kernel)).2)
  (consAll ((c.def_ 27 (d := dC 29 "NotRight" "NotRight.__init__") rfl).elim fun _ F => o29 F (M (by decide +kernel)) (B (by decide +kernel)) (N (g := "lines") (by decide +kernel)).1 (N (f := "road") (by decide +kernel)).2)
  (fun _ h => nomatch h))))
theorem facts {f : Addr} (X : K.In h) (G : h.Ns mainGlobals mg) (hfa : mg ("law" : Str) = some (.ref f)) (c : He.SaysD fa fn K) (k : ck K = true) :
    ∃ fd : FuncData, (∀ (s : Shared) (v : Value), BindsTo s fd ⟨[v], []⟩ [("script", v)]) ∧ ∀ base : Heap, K.In base → base.Ns mainGlobals mg → FnG P w K mg base 5 f fd ["script"] (spLaw K) := by
  obtain ⟨k1, k⟩ := He.ba k
  obtain ⟨k2, k⟩ := He.ba k
  obtain ⟨k3, k⟩ := He.ba k
  obtain ⟨k4, k⟩ := He.ba k
  obtain ⟨k5, k⟩ := He.ba k
  obtain ⟨k6, k7⟩ := He.ba k
  have M : ∀ {x : Str}, x ∈ nms → mg x = some (.ref (He.ga K x)) := fun hx =>
    He.glo_ok X G (fact_of c (List.mem_cons_of_mem _ (List.mem_append_left _ (List.mem_map_of_mem hx))))
  have D : ∀ {x : Str}, x ∈ defs → mg x = some (.ref (He.ga K x)) := fun hx =>
    He.glo_ok X G (fact_of c (List.mem_cons_of_mem _ (List.mem_append_right _ (List.mem_append_left _ (List.mem_map_of_mem hx)))))
  have U : ∀ {x : Str}, x ∈ free → mg x = none := fun hx =>
    He.free_ok X G (fact_of c (List.mem_cons_of_mem _ (List.mem_append_right _ (List.mem_append_right _ (List.mem_map_of_mem hx)))))
  have B : ∀ {x : Str}, x ∈ nms → ClsI K (He.ga K x) (He.ga K "LostError") := fun hx => clsB_ok k1 (List.all_eq_true.mp k2 _ hx)
  have N1 : ∀ {x f : Str}, (x, f) ∈ cl1 → PySem.W.findIn K (.ref (He.ga K x)) f = some none := fun hx => of_decide_eq_true (List.all_eq_true.mp k3 _ hx)
  have N2 : ∀ {x f g : Str}, (x, f, g) ∈ cl2 → PySem.W.findIn K (.ref (He.ga K x)) f = some none ∧ PySem.W.findIn K (.ref (He.ga K x)) g = some none := fun hx => by
    obtain ⟨a, b⟩ := He.ba (List.all_eq_true.mp k4 _ hx)
    exact ⟨of_decide_eq_true a, of_decide_eq_true b⟩
  have ty : ∀ d : PyData, tyD d ∈ tys := fun d => by cases d <;> simp [tyD, tys]
  have C1 : Cls1 K mg := ⟨M, fun hx => (B hx).E, fun hx => (B hx).X, fun hx hy => of_decide_eq_true (List.all_eq_true.mp (List.all_eq_true.mp k7 _ hx) _ hy), N1, N2⟩
  have C2 : Cls2 K mg := ⟨He.glo_ok X G (fact_of c List.mem_cons_self), fun hx => (B hx).lost, fun hx => (B hx).val⟩
  have C3 : Cls3 K := ⟨fun d => of_decide_eq_true (He.ba (List.all_eq_true.mp k5 _ (ty d))).1, fun d => of_decide_eq_true (He.ba (List.all_eq_true.mp k5 _ (ty d))).2, Option.isSome_iff_exists.mp k6⟩
  have C4 : Cls4 K := ⟨fun hx => (B hx).exm⟩
  have U1 : Blt mg := ⟨U (by decide +kernel), U (by decide +kernel), U (by decide +kernel), U (by decide +kernel)⟩
  have U2 : Blt2 mg := ⟨U (by decide +kernel), U (by decide +kernel), U (by decide +kernel), U (by decide +kernel), U (by decide +kernel)⟩
  have U4 : Blt4 mg := ⟨U (by decide +kernel), U (by decide +kernel)⟩
  obtain ⟨dC, FC⟩ := (c.def_ 38 (d := dF 41 "_law_cell") rfl)
  obtain ⟨dB, FB⟩ := (c.def_ 39 (d := dF 42 "_law_box") rfl)
  obtain ⟨dA, FA⟩ := (c.def_ 40 (d := dF 43 "_law_take") rfl)
  obtain ⟨dP, FP⟩ := (c.def_ 41 (d := dF 44 "_law_by_place") rfl)
  obtain ⟨dN, FN⟩ := (c.def_ 42 (d := dF 45 "_law_by_name") rfl)
  obtain ⟨d2, F2⟩ := (c.def_ 43 (d := dF 46 "_law_twos") rfl)
  obtain ⟨dQ, FQ⟩ := (c.def_ 44 (d := dF 47 "_law_sorts") rfl)
  obtain ⟨dI, FI⟩ := (c.def_ 45 (d := dF 48 "_law_is") rfl)
  obtain ⟨dK, FK⟩ := (c.def_ 46 (d := dF 49 "_law_kept") rfl)
  obtain ⟨dT, FT⟩ := (c.def_ 47 (d := dF 50 "_law_two_kept") rfl)
  obtain ⟨dH, FH⟩ := (c.def_ 48 (d := dF 51 "_law_thing") rfl)
  obtain ⟨dS, FS⟩ := (c.def_ 49 (d := dF 52 "_law_same") rfl)
  obtain ⟨dX, FX⟩ := (c.def_ 50 (d := dF 53 "_law_caught") rfl)
  obtain ⟨dO, FO⟩ := (c.def_ 51 (d := dF 54 "_law_ones_right") rfl)
  obtain ⟨dR, FR⟩ := (c.def_ 52 (d := dF 55 "_law_twos_right") rfl)
  obtain ⟨dG, FG⟩ := (c.def_ 53 (d := dF 56 "_law_grown_right") rfl)
  obtain ⟨dL, FL⟩ := (c.def_ 54 (d := dF 57 "law") rfl)
  have gC : mg "_law_cell" = some (.ref (He.ga K "_law_cell")) := D (by decide +kernel)
  have gB : mg "_law_box" = some (.ref (He.ga K "_law_box")) := D (by decide +kernel)
  have gA : mg "_law_take" = some (.ref (He.ga K "_law_take")) := D (by decide +kernel)
  have gP : mg "_law_by_place" = some (.ref (He.ga K "_law_by_place")) := D (by decide +kernel)
  have gN : mg "_law_by_name" = some (.ref (He.ga K "_law_by_name")) := D (by decide +kernel)
  have g2 : mg "_law_twos" = some (.ref (He.ga K "_law_twos")) := D (by decide +kernel)
  have gQ : mg "_law_sorts" = some (.ref (He.ga K "_law_sorts")) := D (by decide +kernel)
  have gI : mg "_law_is" = some (.ref (He.ga K "_law_is")) := D (by decide +kernel)
  have gK : mg "_law_kept" = some (.ref (He.ga K "_law_kept")) := D (by decide +kernel)
  have gT : mg "_law_two_kept" = some (.ref (He.ga K "_law_two_kept")) := D (by decide +kernel)
  have gH : mg "_law_thing" = some (.ref (He.ga K "_law_thing")) := D (by decide +kernel)
  have gS : mg "_law_same" = some (.ref (He.ga K "_law_same")) := D (by decide +kernel)
  have gX : mg "_law_caught" = some (.ref (He.ga K "_law_caught")) := D (by decide +kernel)
  have gO : mg "_law_ones_right" = some (.ref (He.ga K "_law_ones_right")) := D (by decide +kernel)
  have gR : mg "_law_twos_right" = some (.ref (He.ga K "_law_twos_right")) := D (by decide +kernel)
  have gG : mg "_law_grown_right" = some (.ref (He.ga K "_law_grown_right")) := D (by decide +kernel)
  have gL : mg "law" = some (.ref (He.ga K "law")) := D (by decide +kernel)
  have e := hfa.symm.trans gL
  cases e
  have b := FunD.bindsA (ps := ["script"]) FL fun _ _ _ _ _ _ us hl => match us, hl with | [_], _ => rfl
  refine ⟨dL, fun s v => b s [v] rfl, fun base _ _ => ?_⟩
  have C0 : Cls0 P w K mg base := ⟨fun hx => all1 c M B N1 _ (List.mem_of_getElem? hx), fun hx => all2 c M B N2 _ (List.mem_of_getElem? hx)⟩
  have Y : Hot P w K mg base (He.ga K "_law_is") (He.ga K "_law_kept") (He.ga K "_law_two_kept") (He.ga K "_law_same") dI dK dT dS :=
    ⟨gI, gK, gT, gS, FI.kp, FK.kp, FT.kp, FS.kp, FI.bindsN fun _ _ _ _ _ _ us hl => match us, hl with | [_, _], _ => rfl, FK.bindsN fun _ _ _ _ _ _ us hl => match us, hl with | [_], _ => rfl, FT.bindsN fun _ _ _ _ _ _ us hl => match us, hl with | [_], _ => rfl, FS.bindsN fun _ _ _ _ _ _ us hl => match us, hl with | [_, _], _ => rfl,
      fun _ => ok_is FI FQ C1 C2 U2 gQ, fun _ => ok_kept FK C1 U2, fun _ => ok_twoKept FT C1 U2, fun _ => ok_same FS C1 C2 C3 U2, ⟨_, pin_of (show Fd K "_law_is" (top 48) (He.ga K "_law_is") dI from FI)⟩⟩
  exact ok_law FL ⟨gC, gB, gH, gO, gR, gX, gG, FC, FB, FH, FO, FR, FX, FG, ok_cell FC U1, ok_box FB U1, ok_thing FH FA C0 U1 gA, ok_ones FO FP FN C0 U2 Y gP gN, ok_twosR FR F2 C0 U2 U1 Y g2, ok_caught FX FA C0 U1 C2 C4 Y gA,
    ok_grown FG F2 FP FN FA C0 U2 U1 Y g2 gP gN gA⟩ U2 U4
end
end K00

namespace K00
open PySem PySem.Spec PyProof.Rows L2 Ml
end K00

open PySem PySem.W PySem.Calls PyProof.Rows
theorem PySem.Challenge.cw_maplost_k00_errors_holds : PySem.Challenge.rw_maplost_k00_errors.Holds := by
  w_on; o_law
  refine HandSHeadRun.head_any (r := OpenLaw.row PySem.Challenge.rw_maplost_k00_errors) (q := view (OpenLaw.row PySem.Challenge.rw_maplost_k00_errors).prog [57]) (H := K00.hk) (ob := K00.ob) (M := 20000) (loose := K00.looseN)
    (d := HandSHeadRun.topDef (OpenLaw.row PySem.Challenge.rw_maplost_k00_errors).prog 57) (kwd := []) K00.ob_eq
    (by kernel_rfl) (fun s => by kernel_rfl) K00.run (by kernel_rfl) (by kernel_rfl) (by kernel_rfl) (by rfl) (by first | assumption | decide +kernel) (by decide +kernel) ⟨rfl, rfl, rfl, rfl, rfl, by decide +kernel⟩ ?hw ?hc
  case hw => w_witness2
  case hc =>
    refine L2.walk_G (l := PySem.Challenge.rw_maplost_k00_errors) (n := 63) (k := 5) (x := "script") rfl (by decide) (by kernel_rfl) ⟨by decide, by decide, by decide⟩ ?_
    intro w mg fx h Y G hmg0
    obtain ⟨K, KX, c⟩ := Y
    obtain ⟨c, ck⟩ := Ml.see_ok c
    have hmg : mg ("law" : PySem.Str) = some (.ref fx) := by
      have e : (HandSHeadRun.topDef (OpenLaw.row PySem.Challenge.rw_maplost_k00_errors).prog 57).name = ("law" : PySem.Str) := by kernel_rfl
      rw [← e]
      exact hmg0
    obtain ⟨fd, hb, hF⟩ := K00.facts (P := (PySem.Challenge.rw_maplost_k00_errors).prog) (w := w) KX G hmg c ck
    exact ⟨K, fd, K00.spLaw K, KX, hb, fun H a ns hS => ⟨a, ns, rfl, hS, fun _ => rfl⟩, hF⟩

